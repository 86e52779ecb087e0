/-
  Layer 14, the document's Take: from what is stale on. Conditions: none.
-/
import Derived.Test.YtjfejfhdohpfbaaSesSee
import Derived.Test.YtjfejfhdohpfbaaSesTake2
import Derived.Test.YtjfejfhdohpfbaaSub
import Derived.BigQuiet
namespace Go.Proofs.Ytjfejfhdohpfbaa.Ses
set_option maxRecDepth 100000
open Go.RowKit Go.Deep Go.Proofs.Ytjfejfhdohpfbaa.Mem Go.Proofs.Ytjfejfhdohpfbaa.Win

/-- What is owed at the end of Take. -/
def TkEnds (B rb : Nat) (F0 : Nat → Prop) (w1 : World) (R : ByteArray × List Ot × Int × Sm) (e : Ending) (w' : World) : Prop :=
  ∃ V vc F', e = .returned (.tuple #[.string R.1, .slice V R.2.1.length vc, .int .i64 R.2.2.1]) ∧ OwnG 121 6 Ot.vals w1.heap.size w' (.slice V R.2.1.length vc) R.2.1 ∧ RStep B F0 w1 rb R.2.2.2 F' w' ∧ ∀ k, blk V = some k → ¬ F' k
/-- What is kept of what is held. -/
def keepH (e : Ev) (h : Hd) : Bool := decide (e.peer = 0 ∨ h.seq ≠ e.seq)
theorem set_same {S : Sm} {i : Nat} {q : Pm} (h : ∀ hz : i < S.peers.length, S.peers[i]'hz = q) : ({ S with peers := S.peers.set i q } : Sm) = S := by
  have e : S.peers.set i q = S.peers := by
    apply List.ext_getElem?
    intro k
    rw [List.getElem?_set]
    by_cases e : i = k
    · subst e
      by_cases hi : i < S.peers.length
      · rw [if_pos rfl, if_pos hi, List.getElem?_eq_getElem hi, h hi]
      · rw [if_pos rfl, if_neg hi, List.getElem?_eq_none (by omega)]
    · rw [if_neg e]
  rw [e]
theorem keep_all {e : Ev} {q : Pm} (h : e.peer = 0) : q.held.filter (keepH e) = q.held := List.filter_eq_self.2 fun _ _ => decide_eq_true (Or.inl h)
theorem keep_go {e : Ev} {q : Pm} (h : e.peer ≠ 0) : q.held.filter (keepH e) = (goP q e.seq).held := by
  unfold goP
  refine List.filter_congr fun x _ => ?_
  unfold keepH
  by_cases e2 : x.seq = e.seq
  · rw [decide_eq_false (by simp [h, e2]), decide_eq_true e2]; rfl
  · rw [decide_eq_true (Or.inr e2), decide_eq_false e2]; rfl
set_option maxHeartbeats 8000000 in
theorem tkAck {c : Ctx} {S : Sm} {F : Nat → Prop} {As Ds : Nat → Option Addr} {cs ds : Nat → Nat} {ix bx eb n N ac dc vc : Nat} {wr : World} {q : Pm} {A Dh Vo : Option Addr} {o : List Ot} {e : Ev} (hk : Wk c S F As cs Ds ds ix wr bx q A ac Dh dc Vo vc o)
    (hn16 : S.peers.length ≤ 16) (hkq : ∀ hz : ix < S.peers.length, S.peers[ix]'hz = q) (hok : Pok N q) (hL : q.L.length ≤ 1000) (he : Cells wr eb 25 e.vals) (hef : ¬ F eb ∧ eb ≠ bx ∧ c.w1.heap.size ≤ eb) (hev : blk Vo ≠ some eb) (hae : blk A ≠ some eb ∧ blk Dh ≠ some eb) (hol : o.length = n) (hn40 : n ≤ 40)
    (hns : ¬ (e.peer ≠ 0 ∧ e.peer ≠ S.epoch)) (hkd : e.kind ≠ 2)
    {cc : Code} (hc : cc = sub [1, 1, 1, 1, 1, 1, 1, 1] ((Try.f22.body).getD .skip)) {s2 s3 s4 s6 s7 s8 s11 s12 s13 s14 s15 s16 s17 s18 s19 s20 s21 s22 s23 s24 s25 s26 s27 s28 s29 s30 s31 s32 s33 s34 s35 s36 s37 s38 s39 s40 s41 s42 s43 s44 s45 s46 s47 s48 s49 s50 s51 s52 s53 s54 s55 s56 s57 s58 s59 s60 s61 s62 s63 s64 s65 s66 s67 s68 s69 s70 s71 s72 s73 s74 s75 s76 s77 s78 s79 s80 s81 s82 s83 s84 s85 s86 s87 s88 s89 s90 s91 s92 s93 s94 s95 s96 s97 s98 s99 s100 s101 s102 s103 s104 s105 s106 s107 s108 s109 s110 s111 s112 s113 s114 s115 s116 s117 s118 s119 s120 s121 s122 s123 s124 s125 s126 s127 s128 s129 s130 s131 s132 s133 s134 s135 s136 s137 s138 s139 s140 s141 s142 s143 s144 s145 s146 s147 s148 s149 s150 s151 s152 s153 s154 s155 s156 s157 s158 s159 s160 s161 s162 s163 s164 s165 s166 s167 s168 s169 s170 s171 s172 s173 s174 s175 s176 s177 s178 s179 s180 s181 s182 s183 s184 s185 s186 s187 s188 s189 s190 s191 s192 s193 s194 s195 s196 s197 s198 s199 s200 s201 s202 s203 s204 s205 s206 s207 s208 s209 s210 : Value} :
    cc.wp Try.prog (bodyPost Try.prog Try.f22 (fun r w' => TkEnds c.B c.rb c.F0 c.w1 (tailM S ((ix : Int) + 1) e o) r w')) { tmps := List.toArray ((.pointer (some ⟨c.rb, 0, none⟩))::(.int .i64 ((ix : Int) + 1))::s2::s3::s4::(.pointer (some ⟨eb, 0, none⟩))::s6::s7::s8::(.pointer (some ⟨bx, 0, none⟩))::(.slice Vo n vc)::s11::s12::s13::s14::s15::s16::s17::s18::s19::s20::s21::s22::s23::s24::s25::s26::s27::s28::s29::s30::s31::s32::s33::s34::s35::s36::s37::s38::s39::s40::s41::s42::s43::s44::s45::s46::s47::s48::s49::s50::s51::s52::s53::s54::s55::s56::s57::s58::s59::s60::s61::s62::s63::s64::s65::s66::s67::s68::s69::s70::s71::s72::s73::s74::s75::s76::s77::s78::s79::s80::s81::s82::s83::s84::s85::s86::s87::s88::s89::s90::s91::s92::s93::s94::s95::s96::s97::s98::s99::s100::s101::s102::s103::s104::s105::s106::s107::s108::s109::s110::s111::s112::s113::s114::s115::s116::s117::s118::s119::s120::s121::s122::s123::s124::s125::s126::s127::s128::s129::s130::s131::s132::s133::s134::s135::s136::s137::s138::s139::s140::s141::s142::s143::s144::s145::s146::s147::s148::s149::s150::s151::s152::s153::s154::s155::s156::s157::s158::s159::s160::s161::s162::s163::s164::s165::s166::s167::s168::s169::s170::s171::s172::s173::s174::s175::s176::s177::s178::s179::s180::s181::s182::s183::s184::s185::s186::s187::s188::s189::s190::s191::s192::s193::s194::s195::s196::s197::s198::s199::s200::s201::s202::s203::s204::s205::s206::s207::s208::s209::s210::[]), defers := [] } wr := by
  conv at hc => rhs; whnf
  subst hc
  have HK := Lib.hid hk
  have HE := Lib.hid he
  have HEV := Lib.hid hev
  have HAE := Lib.hid hae.1
  have HDE := Lib.hid hae.2
  have HN := Lib.hid hol
  have HEF := Lib.hid hef
  have HOK := Lib.hid hok
  have HLL := Lib.hid hL
  have HKQ := Lib.hid hkq
  have HI := Lib.hid hk.hi
  have HN16 := Lib.hid hn16
  have HNS := Lib.hid hns
  have HKD := Lib.hid hkd
  obtain ⟨we, hwe⟩ : ∃ W, W = wr := ⟨_, rfl⟩
  subst hwe
  clear hk he hev hae hol hef hok hL hkq hn16 hns hkd
  apply wp_seq_k
  intro K hK
  have HKT := Lib.hid hK
  clear hK
  go_upto_region 35 with (fail)
  refine Reg.region_inv (by kernel_rfl) (fun i => ([some (.slice Vo n vc), some (.int .i64 ((ix : Int) + 1)), some (.pointer (some ⟨c.rb, 0, none⟩)), some (.pointer (some ⟨c.rb, 0, none⟩)), some (.pointer (some ⟨c.rb, 1, none⟩)), some (.int .i64 S.epoch), some (.pointer (some ⟨bx, 1, none⟩)), some (.int .i64 q.known), some (.pointer (some ⟨eb, 3, none⟩)), some (.int .i64 e.seq), some (.agg #[.int .i64 2, .int .i64 S.epoch, .int .i64 q.known, .int .i64 e.seq, .string ⟨#[]⟩]), some (.agg #[.int .i64 ((ix : Int) + 1), .int .i64 2, .int .i64 S.epoch, .int .i64 q.known, .int .i64 e.seq, .string ⟨#[]⟩]), none, none, none] : List (Option Value)).getD i none) (fun D V W => ((D 13) = false → App1 we 121 (Ot.vals ⟨(ix : Int) + 1, ⟨2, S.epoch, q.known, e.seq, ⟨#[]⟩⟩⟩) (D 12) (V 12) W) ∧ ((D 13) = true → ∃ V9 c9, (V 13) = .slice V9 (n + 1) c9 ∧ Wk c S F As cs Ds ds ix W bx q A ac Dh dc V9 c9 (o ++ [⟨(ix : Int) + 1, ⟨2, S.epoch, q.known, e.seq, ⟨#[]⟩⟩⟩]) ∧ Cells W eb 25 e.vals) ∧ ((D 14) = true → (V 14) = (V 13))) (fun V => [(some 179, V 0), (some 180, V 1), (some 181, V 2), (some 182, V 3), (some 183, V 4), (some 184, V 5), (some 185, V 6), (some 186, V 7), (some 187, V 8), (some 188, V 9), (some 189, V 10), (some 190, V 11), (some 191, V 12), (some 192, V 13), (some 10, V 14)]) (by kernel_rfl) (by kernel_rfl) (fun V => rfl) ?_ ?_ ?_
  · intro V
    exact ⟨fun _ => App1.start (Below.refl _ _).drew _, fun e => (by cases e), fun e => (by cases e)⟩
  · intro i o ho
    have hi : i < 15 := (Array.getElem?_eq_some_iff.1 ho).1
    rcases i with _ | _ | _ | _ | _ | _ | _ | _ | _ | _ | _ | _ | _ | _ | _ | i
    rotate_right
    · omega
    all_goals obtain rfl := Option.some.inj ho
    all_goals intro D V ρ wi hE hI hDi hT hF hs hd hk
    · have e10 : ρ (.tmp 10) = .slice Vo n vc := hs 10; clear hT hF hk
      exact Reg.Gives.value (v := .slice Vo n vc) (w' := wi) (by go_simp) ⟨fun x h => Option.some.inj h, hI⟩
    · have e1 : ρ (.tmp 1) = .int .i64 ((ix : Int) + 1) := hs 1; clear hT hF hk
      exact Reg.Gives.value (v := .int .i64 ((ix : Int) + 1)) (w' := wi) (by go_simp) ⟨fun x h => Option.some.inj h, hI⟩
    · have e0 : ρ (.tmp 0) = .pointer (some ⟨c.rb, 0, none⟩) := hs 0; clear hT hF hk
      exact Reg.Gives.value (v := .pointer (some ⟨c.rb, 0, none⟩)) (w' := wi) (by go_simp) ⟨fun x h => Option.some.inj h, hI⟩
    · have e181 : ρ (.tmp 181) = .pointer (some ⟨c.rb, 0, none⟩) := (hd 2 181).trans (hk 2 _ rfl); clear hT hF hk
      exact Reg.Gives.value (v := .pointer (some ⟨c.rb, 0, none⟩)) (w' := wi) (by go_simp) ⟨fun x h => Option.some.inj h, hI⟩
    · have e182 : ρ (.tmp 182) = .pointer (some ⟨c.rb, 0, none⟩) := (hd 3 182).trans (hk 3 _ rfl); clear hT hF hk
      exact Reg.Gives.value (v := .pointer (some ⟨c.rb, 1, none⟩)) (w' := wi) (by go_simp) ⟨fun x h => Option.some.inj h, hI⟩
    · have e183 : ρ (.tmp 183) = .pointer (some ⟨c.rb, 1, none⟩) := (hd 4 183).trans (hk 4 _ rfl); have hD13 : D 13 = false := hF 4 13; clear hT hF; have hL : Below we.heap.size we wi := (hI.1 hD13).low; have x0 := (HK.out.later hL).ses.cel.cell (j := 1) rfl
      exact Reg.Gives.value (v := .int .i64 S.epoch) (w' := wi) (by go_simp) ⟨fun x h => Option.some.inj h, hI⟩
    · have e9 : ρ (.tmp 9) = .pointer (some ⟨bx, 0, none⟩) := hs 9; clear hT hF hk
      exact Reg.Gives.value (v := .pointer (some ⟨bx, 1, none⟩)) (w' := wi) (by go_simp) ⟨fun x h => Option.some.inj h, hI⟩
    · have e185 : ρ (.tmp 185) = .pointer (some ⟨bx, 1, none⟩) := (hd 6 185).trans (hk 6 _ rfl); have hD13 : D 13 = false := hF 4 13; clear hT hF; have hL : Below we.heap.size we wi := (hI.1 hD13).low; have x0 := (HK.out.later hL).box.cell (j := 1) rfl
      exact Reg.Gives.value (v := .int .i64 q.known) (w' := wi) (by go_simp) ⟨fun x h => Option.some.inj h, hI⟩
    · have e5 : ρ (.tmp 5) = .pointer (some ⟨eb, 0, none⟩) := hs 5; clear hT hF hk
      exact Reg.Gives.value (v := .pointer (some ⟨eb, 3, none⟩)) (w' := wi) (by go_simp) ⟨fun x h => Option.some.inj h, hI⟩
    · have e187 : ρ (.tmp 187) = .pointer (some ⟨eb, 3, none⟩) := (hd 8 187).trans (hk 8 _ rfl); have hD13 : D 13 = false := hF 4 13; clear hT hF; have hL : Below we.heap.size we wi := (hI.1 hD13).low; have x0 := (HE.out.later hL).cell (j := 3) rfl
      exact Reg.Gives.value (v := .int .i64 e.seq) (w' := wi) (by go_simp) ⟨fun x h => Option.some.inj h, hI⟩
    · have e184 : ρ (.tmp 184) = .int .i64 S.epoch := (hd 5 184).trans (hk 5 _ rfl); have e186 : ρ (.tmp 186) = .int .i64 q.known := (hd 7 186).trans (hk 7 _ rfl); have e188 : ρ (.tmp 188) = .int .i64 e.seq := (hd 9 188).trans (hk 9 _ rfl); have hc := hE.const; clear hT hF hk
      exact Reg.Gives.value (v := .agg #[.int .i64 2, .int .i64 S.epoch, .int .i64 q.known, .int .i64 e.seq, .string ⟨#[]⟩]) (w' := wi) (by go_simp) ⟨fun x h => Option.some.inj h, hI⟩
    · have e180 : ρ (.tmp 180) = .int .i64 ((ix : Int) + 1) := (hd 1 180).trans (hk 1 _ rfl); have e189 : ρ (.tmp 189) = .agg #[.int .i64 2, .int .i64 S.epoch, .int .i64 q.known, .int .i64 e.seq, .string ⟨#[]⟩] := (hd 10 189).trans (hk 10 _ rfl); clear hT hF hk
      exact Reg.Gives.value (v := .agg #[.int .i64 ((ix : Int) + 1), .int .i64 2, .int .i64 S.epoch, .int .i64 q.known, .int .i64 e.seq, .string ⟨#[]⟩]) (w' := wi) (by go_simp) ⟨fun x h => Option.some.inj h, hI⟩
    · have e190 : ρ (.tmp 190) = .agg #[.int .i64 ((ix : Int) + 1), .int .i64 2, .int .i64 S.epoch, .int .i64 q.known, .int .i64 e.seq, .string ⟨#[]⟩] := (hd 11 190).trans (hk 11 _ rfl); have hD12 : D 12 = false := hDi; have hD13 : D 13 = false := hF 1 13; have hD14 : D 14 = false := hF 1 14; clear hT hF; have h1 := hI.1 hD13
      rw [hD12] at h1
      exact Reg.Gives.value (v := .slice (some ⟨wi.heap.size, 0, none⟩) 1 1) (w' := wi.alloc (.cells #[.int .i64 ((ix : Int) + 1), .int .i64 2, .int .i64 S.epoch, .int .i64 q.known, .int .i64 e.seq, .string ⟨#[]⟩] 121)) (by go_simp) ⟨fun x h => (by cases h), by show ((D 13) = false → App1 we 121 (Ot.vals ⟨(ix : Int) + 1, ⟨2, S.epoch, q.known, e.seq, ⟨#[]⟩⟩⟩) true (Value.slice (some ⟨wi.heap.size, 0, none⟩) 1 1) (wi.alloc (.cells #[.int .i64 ((ix : Int) + 1), .int .i64 2, .int .i64 S.epoch, .int .i64 q.known, .int .i64 e.seq, .string ⟨#[]⟩] 121))) ∧ ((D 13) = true → ∃ V9 c9, (V 13) = .slice V9 (n + 1) c9 ∧ Wk c S F As cs Ds ds ix (wi.alloc (.cells #[.int .i64 ((ix : Int) + 1), .int .i64 2, .int .i64 S.epoch, .int .i64 q.known, .int .i64 e.seq, .string ⟨#[]⟩] 121)) bx q A ac Dh dc V9 c9 (o ++ [⟨(ix : Int) + 1, ⟨2, S.epoch, q.known, e.seq, ⟨#[]⟩⟩⟩]) ∧ Cells (wi.alloc (.cells #[.int .i64 ((ix : Int) + 1), .int .i64 2, .int .i64 S.epoch, .int .i64 q.known, .int .i64 e.seq, .string ⟨#[]⟩] 121)) eb 25 e.vals) ∧ ((D 14) = true → (V 14) = (V 13)); exact ⟨fun _ => h1.mk1 _ rfl, fun e => (by rw [hD13] at e; cases e), fun e => (by rw [hD14] at e; cases e)⟩⟩
    · have e179 : ρ (.tmp 179) = .slice Vo n vc := (hd 0 179).trans (hk 0 _ rfl); have e191 : ρ (.tmp 191) = V 12 := hd 12 191; have hD12 : D 12 = true := hT 1 12; have hD13 : D 13 = false := hDi; have hD14 : D 14 = false := hF 1 14; clear hT hF; have h1 := hI.1 hD13
      rw [hD12] at h1
      obtain ⟨g2, hx2, hcx⟩ := h1.x rfl
      rw [hx2] at e191
      obtain ⟨V8, c8, w8, hrun, hk8, ho8, _⟩ := HK.out.app2 h1.low ⟨(ix : Int) + 1, ⟨2, S.epoch, q.known, e.seq, ⟨#[]⟩⟩⟩ hcx (by have := HN.out; omega)
      rw [HN.out] at hrun
      have hP := And.intro hk8 (cells_only HE.out ho8 HEV.out)
      exact Reg.Gives.value (v := .slice V8 (n + 1) c8) (w' := w8) (Reg.exec_append rfl e179 e191 hrun) ⟨fun x h => (by cases h), by show (true = false → App1 we 121 (Ot.vals ⟨(ix : Int) + 1, ⟨2, S.epoch, q.known, e.seq, ⟨#[]⟩⟩⟩) (D 12) (V 12) w8) ∧ (true = true → ∃ V9 c9, (Value.slice V8 (n + 1) c8) = .slice V9 (n + 1) c9 ∧ Wk c S F As cs Ds ds ix w8 bx q A ac Dh dc V9 c9 (o ++ [⟨(ix : Int) + 1, ⟨2, S.epoch, q.known, e.seq, ⟨#[]⟩⟩⟩]) ∧ Cells w8 eb 25 e.vals) ∧ ((D 14) = true → (V 14) = (Value.slice V8 (n + 1) c8)); exact ⟨fun e => (by cases e), fun _ => ⟨V8, c8, rfl, hP⟩, fun e => (by rw [hD14] at e; cases e)⟩⟩
    · have e192 : ρ (.tmp 192) = V 13 := hd 13 192; have hD13 : D 13 = true := hT 1 13; clear hT hF; have h2 := hI.2.1 hD13
      exact Reg.Gives.value (v := V 13) (w' := wi) (by go_simp) ⟨fun x h => (by cases h), by show ((D 13) = false → App1 we 121 (Ot.vals ⟨(ix : Int) + 1, ⟨2, S.epoch, q.known, e.seq, ⟨#[]⟩⟩⟩) (D 12) (V 12) wi) ∧ ((D 13) = true → ∃ V9 c9, (V 13) = .slice V9 (n + 1) c9 ∧ Wk c S F As cs Ds ds ix wi bx q A ac Dh dc V9 c9 (o ++ [⟨(ix : Int) + 1, ⟨2, S.epoch, q.known, e.seq, ⟨#[]⟩⟩⟩]) ∧ Cells wi eb 25 e.vals) ∧ (true = true → (V 13) = (V 13)); exact ⟨fun e => (by rw [hD13] at e; cases e), fun _ => h2, fun _ => rfl⟩⟩
  · intro V wf hk hI
    simp only [Reg.putsO, List.foldl_cons, List.foldl_nil, Act.put, List.setIfInBounds_toArray, List.set_cons_succ, List.set_cons_zero]
    replace hI : (true = false → App1 we 121 (Ot.vals ⟨(ix : Int) + 1, ⟨2, S.epoch, q.known, e.seq, ⟨#[]⟩⟩⟩) true (V 12) wf) ∧ (true = true → ∃ V9 c9, (V 13) = .slice V9 (n + 1) c9 ∧ Wk c S F As cs Ds ds ix wf bx q A ac Dh dc V9 c9 (o ++ [⟨(ix : Int) + 1, ⟨2, S.epoch, q.known, e.seq, ⟨#[]⟩⟩⟩]) ∧ Cells wf eb 25 e.vals) ∧ (true = true → (V 14) = (V 13)) := hI
    clear hk
    obtain ⟨_, hI2, hI3⟩ := hI
    obtain ⟨V9, c9, hv9, hk9, he9⟩ := hI2 rfl
    rw [hI3 rfl, hv9]
    have HK9 := Lib.hid hk9
    have HE9 := Lib.hid he9
    clear hI2 hI3 hk9 he9 hv9
    go_wp2_with fail
    refine HKT.out _ _ ?_
    clear HKT
    have hseq := HE9.out.cell (j := 3) rfl
    have HSE := Lib.hid (RSeeW HK9.out HOK.out.win e.seq HLL.out)
    obtain ⟨sn, hsn⟩ : ∃ b, seenL q.L e.seq = b := ⟨_, rfl⟩
    rw [hsn] at HSE
    have HSN := Lib.hid hsn
    clear hsn
    apply wp_seq_k
    intro K hK
    have HKT := Lib.hid hK
    clear hK
    go_wp2_with fail
    refine HSE.out.mono ?_
    rintro r w2 ⟨rfl, A2, a2, hz⟩
    have hEd : Cells w2 eb 25 e.vals := cells_only HE9.out hz.only fun e2 => by
      rcases e2 with e2 | e2
      · exact HEF.out.2.1 e2
      · rcases (HK9.out.nA eb e2.symm).2.1 with e3 | e3
        · exact HEF.out.1 (HK9.out.ses.fA ix eb HI.out e3.symm)
        · exact HAE.out e2.symm
    have HE2 := Lib.hid hEd
    have HZ := Lib.hid hz
    clear hz hEd HSE hseq
    go_wp2_with fail
    refine HKT.out _ _ ?_
    clear HKT
    obtain ⟨L2, hL2⟩ : ∃ l, (if sn = true then q.L else q.L ++ [e.seq]) = l := ⟨_, rfl⟩
    have hL2' : (if sn then q.L else q.L ++ [e.seq]) = L2 := hL2
    have HL2 := Lib.hid hL2
    have hz2 := HZ.out
    rw [hL2'] at hz2
    obtain ⟨F', hst', hout', hV'⟩ := hz2.back
    obtain ⟨hpc, hsc⟩ := hz2.cel HI.out
    have z0 := hz2.box.cell (j := 0) rfl
    have z1 := hz2.box.cell (j := 1) rfl
    have z2 := hz2.box.cell (j := 2) rfl
    have z3 := hz2.box.cell (j := 3) rfl
    have c2 := hsc.cell (j := 2) rfl
    obtain ⟨np, hnp⟩ : ∃ m, S.peers.length = m := ⟨_, rfl⟩
    rw [hnp] at c2
    have hxn : ix < np := by rw [← hnp]; exact HI.out
    have hx16 : ix < 16 := by have := HI.out; have := HN16.out; omega
    have hcap : np ≤ c.pc := by rw [← hnp]; exact HK9.out.ses.cap
    have hiw : IntKind.i64.wrap ((ix : Int) + 1 - 1) = (ix : Int) := by rw [IntKind.wrap_i64]; omega
    have t0 : w2.cell? ⟨c.pb, ix * 4, none⟩ = _ := hpc.cell (j := 0) rfl
    have t1 := hpc.cell (j := 1) rfl
    have t2 := hpc.cell (j := 2) rfl
    have t3 := hpc.cell (j := 3) rfl
    have u0 : w2.frozen? ⟨c.pb, ix * 4, none⟩ = false := hpc.frozen (j := 0) (by simp [rpv])
    have u1 := hpc.frozen (j := 1) (by simp [rpv])
    have u2 := hpc.frozen (j := 2) (by simp [rpv])
    have u3 := hpc.frozen (j := 3) (by simp [rpv])
    have HST := Lib.hid hst'
    have HOUT := Lib.hid hout'
    have HV' := Lib.hid hV'
    have HPB : Hid (eb ≠ c.pb) := Lib.hid fun e2 => HEF.out.1 (by rw [e2]; exact HK9.out.ses.fp)
    clear hz2 hst' hout' hV' hpc hsc hnp hL2 hL2'
    apply wp_seq_k
    intro K hK
    have HKT := Lib.hid hK
    clear hK
    go_upto_region 37 with (fail)
    go_region
    obtain ⟨wz, hwz⟩ : ∃ W, W = ((((w2.setCell ⟨c.pb, ix * 4, none⟩ (.slice A2 L2.length a2)).setCell ⟨c.pb, ix * 4 + 1, none⟩ (.int .i64 q.known)).setCell ⟨c.pb, ix * 4 + 2, none⟩ (.int .i64 (q.last + 1))).setCell ⟨c.pb, ix * 4 + 3, none⟩ (.slice Dh q.held.length dc)).drew := ⟨_, rfl⟩
    have hst2 : RStep c.B c.F0 c.w1 c.rb { S with peers := S.peers.set ix ⟨L2, q.known, q.last, q.held⟩ } F' wz := by rw [hwz]; exact HST.out.after (Below.refl _ _).drew
    have hout2 : OwnG 121 6 Ot.vals c.w1.heap.size wz (.slice V9 (o ++ [(⟨(ix : Int) + 1, ⟨2, S.epoch, q.known, e.seq, ⟨#[]⟩⟩⟩ : Ot)]).length c9) (o ++ [⟨(ix : Int) + 1, ⟨2, S.epoch, q.known, e.seq, ⟨#[]⟩⟩⟩]) := by rw [hwz]; exact OwnG.later HOUT.out (Below.refl _ _).drew
    have he2 : Cells wz eb 25 e.vals := by
      rw [hwz]
      exact ((((HE2.out.far (p := ⟨c.pb, ix * 4, none⟩) HPB.out _).far (p := ⟨c.pb, ix * 4 + 1, none⟩) HPB.out _).far (p := ⟨c.pb, ix * 4 + 2, none⟩) HPB.out _).far (p := ⟨c.pb, ix * 4 + 3, none⟩) HPB.out _).later (Below.refl _ _).drew
    rw [← hwz]
    have hpay := he2.cell (j := 4) rfl
    have hFIN : ∀ (pay : ByteArray) (er : Int), (tailM S ((ix : Int) + 1) e o) = (pay, o ++ [ackO S ((ix : Int) + 1) q.known e.seq], er, { S with peers := S.peers.set ix ⟨L2, q.known, q.last, q.held⟩ }) →
        TkEnds c.B c.rb c.F0 c.w1 (tailM S ((ix : Int) + 1) e o) (.returned (.tuple #[.string pay, .slice V9 (n + 1) c9, .int .i64 er])) wz := fun pay er e2 => by
      rw [e2]
      refine ⟨V9, c9, F', ?_, hout2, hst2, HV'.out⟩
      show Ending.returned (.tuple #[.string pay, .slice V9 (n + 1) c9, .int .i64 er]) = .returned (.tuple #[.string pay, .slice V9 (o ++ [ackO S ((ix : Int) + 1) q.known e.seq]).length c9, .int .i64 er])
      rw [List.length_append, HN.out]
      rfl
    have HFIN := Lib.hid hFIN
    have HTM : Hid (tailM S ((ix : Int) + 1) e o = if sn = true then (⟨#[]⟩, o ++ [ackO S ((ix : Int) + 1) q.known e.seq], 9, S) else (e.pay, o ++ [ackO S ((ix : Int) + 1) q.known e.seq], 0, { S with peers := S.peers.set ix ⟨q.L ++ [e.seq], q.known, q.last, q.held⟩ })) := Lib.hid (by
      unfold tailM
      have hpo : peerOf S ((ix : Int) + 1) = q := by rw [peerOf_at HI.out]; exact HKQ.out HI.out
      rw [if_neg HNS.out, if_neg HKD.out, hpo, putP_at, HSN.out])
    clear hwz hst2 hout2 he2 hFIN HST HOUT z0 z1 z2 z3 c2 t0 t1 t2 t3 u0 u1 u2 u3
    go_wp2_with fail
    refine HKT.out _ _ ?_
    clear HKT
    cases sn with
    | true =>
      have e9 : L2 = q.L := by rw [← HL2.out]; rfl
      have HQ9 : Hid (tailM S ((ix : Int) + 1) e o = (⟨#[]⟩, o ++ [ackO S ((ix : Int) + 1) q.known e.seq], 9, { S with peers := S.peers.set ix ⟨L2, q.known, q.last, q.held⟩ })) := Lib.hid (by rw [HTM.out, if_pos rfl, e9, set_same HKQ.out])
      clear e9
      go_wp2_with fail
      go_returns
      exact HFIN.out _ _ HQ9.out
    | false =>
      have e9 : L2 = q.L ++ [e.seq] := by rw [← HL2.out]; rfl
      have HQ9 : Hid (tailM S ((ix : Int) + 1) e o = (e.pay, o ++ [ackO S ((ix : Int) + 1) q.known e.seq], 0, { S with peers := S.peers.set ix ⟨L2, q.known, q.last, q.held⟩ })) := Lib.hid (by rw [HTM.out, if_neg Bool.false_ne_true, e9])
      clear e9
      go_wp2_with fail
      go_returns
      exact HFIN.out _ _ HQ9.out
set_option maxHeartbeats 8000000 in
theorem tkKind {c : Ctx} {S : Sm} {F : Nat → Prop} {As Ds : Nat → Option Addr} {cs ds : Nat → Nat} {ix bx eb n N ac dc vc : Nat} {wr : World} {q : Pm} {A Dh Vo : Option Addr} {o : List Ot} {e : Ev} (hk : Wk c S F As cs Ds ds ix wr bx q A ac Dh dc Vo vc o)
    (hn16 : S.peers.length ≤ 16) (hkq : ∀ hz : ix < S.peers.length, S.peers[ix]'hz = q) (hok : Pok N q) (hL : q.L.length ≤ 1000) (he : Cells wr eb 25 e.vals) (hef : ¬ F eb ∧ eb ≠ bx ∧ c.w1.heap.size ≤ eb) (hev : blk Vo ≠ some eb) (hae : blk A ≠ some eb ∧ blk Dh ≠ some eb) (hol : o.length = n) (hn40 : n ≤ 40)
    (hns : ¬ (e.peer ≠ 0 ∧ e.peer ≠ S.epoch))
    {cc : Code} (hc : cc = sub [1, 1, 1, 1, 1, 1, 1] ((Try.f22.body).getD .skip)) {s2 s3 s4 s6 s7 s8 s11 s12 s13 s14 s15 s16 s17 s18 s19 s20 s21 s22 s23 s24 s25 s26 s27 s28 s29 s30 s31 s32 s33 s34 s35 s36 s37 s38 s39 s40 s41 s42 s43 s44 s45 s46 s47 s48 s49 s50 s51 s52 s53 s54 s55 s56 s57 s58 s59 s60 s61 s62 s63 s64 s65 s66 s67 s68 s69 s70 s71 s72 s73 s74 s75 s76 s77 s78 s79 s80 s81 s82 s83 s84 s85 s86 s87 s88 s89 s90 s91 s92 s93 s94 s95 s96 s97 s98 s99 s100 s101 s102 s103 s104 s105 s106 s107 s108 s109 s110 s111 s112 s113 s114 s115 s116 s117 s118 s119 s120 s121 s122 s123 s124 s125 s126 s127 s128 s129 s130 s131 s132 s133 s134 s135 s136 s137 s138 s139 s140 s141 s142 s143 s144 s145 s146 s147 s148 s149 s150 s151 s152 s153 s154 s155 s156 s157 s158 s159 s160 s161 s162 s163 s164 s165 s166 s167 s168 s169 s170 s171 s172 s173 s174 s175 s176 s177 s178 s179 s180 s181 s182 s183 s184 s185 s186 s187 s188 s189 s190 s191 s192 s193 s194 s195 s196 s197 s198 s199 s200 s201 s202 s203 s204 s205 s206 s207 s208 s209 s210 : Value} :
    cc.wp Try.prog (bodyPost Try.prog Try.f22 (fun r w' => TkEnds c.B c.rb c.F0 c.w1 (tailM S ((ix : Int) + 1) e o) r w')) { tmps := List.toArray ((.pointer (some ⟨c.rb, 0, none⟩))::(.int .i64 ((ix : Int) + 1))::s2::s3::s4::(.pointer (some ⟨eb, 0, none⟩))::s6::s7::s8::(.pointer (some ⟨bx, 0, none⟩))::(.slice Vo n vc)::s11::s12::s13::s14::s15::s16::s17::s18::s19::s20::s21::s22::s23::s24::s25::s26::s27::s28::s29::s30::s31::s32::s33::s34::s35::s36::s37::s38::s39::s40::s41::s42::s43::s44::s45::s46::s47::s48::s49::s50::s51::s52::s53::s54::s55::s56::s57::s58::s59::s60::s61::s62::s63::s64::s65::s66::s67::s68::s69::s70::s71::s72::s73::s74::s75::s76::s77::s78::s79::s80::s81::s82::s83::s84::s85::s86::s87::s88::s89::s90::s91::s92::s93::s94::s95::s96::s97::s98::s99::s100::s101::s102::s103::s104::s105::s106::s107::s108::s109::s110::s111::s112::s113::s114::s115::s116::s117::s118::s119::s120::s121::s122::s123::s124::s125::s126::s127::s128::s129::s130::s131::s132::s133::s134::s135::s136::s137::s138::s139::s140::s141::s142::s143::s144::s145::s146::s147::s148::s149::s150::s151::s152::s153::s154::s155::s156::s157::s158::s159::s160::s161::s162::s163::s164::s165::s166::s167::s168::s169::s170::s171::s172::s173::s174::s175::s176::s177::s178::s179::s180::s181::s182::s183::s184::s185::s186::s187::s188::s189::s190::s191::s192::s193::s194::s195::s196::s197::s198::s199::s200::s201::s202::s203::s204::s205::s206::s207::s208::s209::s210::[]), defers := [] } wr := by
  conv at hc => rhs; whnf
  subst hc
  have HK := Lib.hid hk
  have HE := Lib.hid he
  have HEV := Lib.hid hev
  have HAE := Lib.hid hae
  have HN := Lib.hid hol
  have HEF := Lib.hid hef
  have HOK := Lib.hid hok
  have HLL := Lib.hid hL
  have HKQ := Lib.hid hkq
  have HI := Lib.hid hk.hi
  have HN16 := Lib.hid hn16
  have HNS := Lib.hid hns
  have k0 := he.cell (j := 0) rfl
  clear hk he hev hae hol hef hok hL hkq hn16 hns
  apply wp_seq_k
  intro K hK
  have HKT := Lib.hid hK
  clear hK
  by_cases hkd : e.kind = 2
  · have e1 : (e.kind == 2) = true := by simpa using hkd
    have HKD := Lib.hid hkd
    obtain ⟨hl, hhl⟩ : ∃ m, q.held.length = m := ⟨_, rfl⟩
    have HHL := Lib.hid hhl
    have hl32 : hl ≤ 32 := by rw [← hhl]; exact HOK.out.len
    obtain ⟨wa, hwa⟩ : ∃ W, W = wr.alloc (.cells #[] 119) := ⟨_, rfl⟩
    have hw0 := HK.out.newL
    rw [← hwa] at hw0
    have hba : Below wr.heap.size wr wa := by rw [hwa]; exact below_alloc _ _
    have HW0 := Lib.hid hw0
    have HE0 := Lib.hid (HE.out.later hba)
    have HL0 : Hid (blk (some (⟨wr.heap.size, 0, none⟩ : Addr)) ≠ some eb) := Lib.hid fun e2 => by
      have h1 := HE.out.lt
      have h2 : wr.heap.size = eb := Option.some.inj e2
      omega
    clear hw0 hba hkd hhl
    go_upto_region 27 with (fail)
    rw [← hwa]
    clear hwa
    go_wp2_with fail
    go_loopw [15, 16] (fun a j wq => ∃ (k m : Nat) (Lo : Option Addr) (lc : Nat) (l : List Hd), k ≤ hl ∧ a = .slice Lo m lc ∧ j = .int .i64 (k : Int) ∧ l.length = m ∧ m ≤ k ∧ Hid (l = (q.held.take k).filter (keepH e)) ∧ Hid (Wl c S F As cs Ds ds ix wq bx q A ac Dh dc Vo vc o Lo lc l) ∧ Hid (Cells wq eb 25 e.vals ∧ blk Lo ≠ some eb)) (fun _ j _ => hl - (intOf j).toNat)
    case atStart => exact ⟨0, 0, _, 0, [], Nat.zero_le _, rfl, rfl, rfl, Nat.le_refl _, Lib.hid (by simp), HW0, Lib.hid ⟨HE0.out, HL0.out⟩⟩
    case round =>
      clear HW0 HE0 HL0
      obtain ⟨k, m, Lo, lc, l, hkl, rfl, rfl, hm, hmk, HF, HW, HEL⟩ := hrel
      have c3 := HW.out.wk.box.cell (j := 3) rfl
      rw [HHL.out] at c3
      by_cases hlt : k < hl
      · have hkh : k < q.held.length := by rw [HHL.out]; exact hlt
        obtain ⟨x, hx⟩ : ∃ x, q.held[k] = x := ⟨_, rfl⟩
        obtain ⟨g, rfl, hce⟩ := OwnG.elem fit_rhd HW.out.wk.row hkh
        rw [hx] at hce
        have y0 : wr.cell? ⟨g, k * 4, none⟩ = _ := hce.cell (j := 0) rfl
        have y1 := hce.cell (j := 1) rfl
        have y2 := hce.cell (j := 2) rfl
        have y3 := hce.cell (j := 3) rfl
        have x2 := HEL.out.1.cell (j := 2) rfl
        have x3 := HEL.out.1.cell (j := 3) rfl
        have htk : (q.held.take (k + 1)).filter (keepH e) = (q.held.take k).filter (keepH e) ++ if keepH e x then [x] else [] := by
          rw [List.take_succ_eq_append_getElem hkh, List.filter_append, hx, List.filter_cons, List.filter_nil]
        rw [← HF.out] at htk
        have HM := Lib.hid hm
        have HCX := Lib.hid hce
        by_cases hkp : keepH e x = true
        · rw [if_pos hkp] at htk
          have HF2 : Hid (l ++ [x] = (q.held.take (k + 1)).filter (keepH e)) := Lib.hid htk.symm
          have HLN : Hid ((l ++ [x]).length = m + 1) := Lib.hid (by rw [List.length_append, hm]; rfl)
          have hdec := of_decide_eq_true hkp
          clear htk hkp hce hkh hx hm
          have hfin : ∀ wn, Below wr.heap.size wr wn → ∃ L' c' w', (Builtin.append_ #[64, 64] 64 #[.slice Lo m lc, .slice (some ⟨wn.heap.size, 0, none⟩) 1 1]).run Try.prog (wn.alloc (.cells #[.int .i64 x.seq, .string x.pay, .int .i64 x.left, .int .i64 (min (2 * x.delay) 16)] 119)) = .ok (.slice L' (m + 1) c') w' ∧
              Wl c S F As cs Ds ds ix w' bx q A ac (some ⟨g, 0, none⟩) dc Vo vc o L' c' (l ++ [x]) ∧ Cells w' eb 25 e.vals ∧ blk L' ≠ some eb := fun wn hbn => by
            have hba := below_alloc wn (.cells #[.int .i64 x.seq, .string x.pay, .int .i64 x.left, .int .i64 (min (2 * x.delay) 16)] 119)
            have hbb := hbn.trans (hba.mono hbn.size)
            obtain ⟨L', c', w', h1, h2, h3, h4⟩ := HW.out.app2 hbb x (cells_new wn _ x.rvals _ rfl) (by have := HM.out; omega)
            rw [HM.out] at h1
            refine ⟨L', c', w', h1, h2, cells_only HEL.out.1 h3 HEL.out.2, fun e2 => ?_⟩
            rcases h4 eb e2 with e3 | e3
            · exact HEL.out.2 e3
            · have h5 := HEL.out.1.lt
              have h6 := hbb.size
              omega
          have HFN := Lib.hid hfin
          clear hfin
          have hgo : e.peer = 0 ∨ (¬ e.peer = 0 ∧ x.seq ≠ e.seq) := by
            by_cases h0 : e.peer = 0
            · exact Or.inl h0
            · exact Or.inr ⟨h0, hdec.resolve_left h0⟩
          clear hdec
          rcases hgo with h0 | ⟨h0, hsq⟩
          · have b0 : (e.peer == 0) = true := by simpa using h0
            clear h0
            go_upto_region 30 with (fail)
            go_quiet (fail)
            obtain ⟨wn, hwn⟩ : ∃ W, W = wr.drewN nq := ⟨_, rfl⟩
            have hbn : Below wr.heap.size wr wn := by rw [hwn]; exact below_drewN (Below.refl _ _) _
            rw [← hwn]
            obtain ⟨L', c', w', hrun, hw2, he2, hl2⟩ := HFN.out wn hbn
            have v3 := (hbn.cell (block_of_cell c3)).trans c3
            have v0 := (hbn.cell (block_of_cell y0)).trans y0
            have v1 := (hbn.cell (block_of_cell y1)).trans y1
            have v2 := (hbn.cell (block_of_cell y2)).trans y2
            have v4 := (hbn.cell (block_of_cell y3)).trans y3
            have HRUN := Lib.hid hrun
            have HW2 := Lib.hid hw2
            have HEL2 := Lib.hid (And.intro he2 hl2)
            clear hwn hbn hrun hw2 he2 hl2 HFN HW HEL HCX y0 y1 y2 y3 x2 x3 c3
            go_wp2_with (at_builtin
                         refine Lib.wpList_append_run _ rfl (.tmp 160) (.tmp 166) 64 64 rfl (.slice Lo m lc) (.slice (some ⟨wn.heap.size, 0, none⟩) 1 1) rfl rfl _ _ HRUN.out ?_)
            go_roundw
            case rel => exact ⟨k + 1, m + 1, L', c', l ++ [x], by omega, rfl, by go_num, HLN.out, by omega, HF2, HW2, HEL2⟩
            case measure => simp [intOf]; omega
          · have b0 : (e.peer == 0) = false := by simpa using h0
            have b1 : (x.seq != e.seq) = true := by simpa using hsq
            clear h0 hsq
            go_upto_region 30 with (fail)
            go_quiet (fail)
            obtain ⟨wn, hwn⟩ : ∃ W, W = wr.drewN nq := ⟨_, rfl⟩
            have hbn : Below wr.heap.size wr wn := by rw [hwn]; exact below_drewN (Below.refl _ _) _
            rw [← hwn]
            obtain ⟨L', c', w', hrun, hw2, he2, hl2⟩ := HFN.out wn hbn
            have v3 := (hbn.cell (block_of_cell c3)).trans c3
            have v0 := (hbn.cell (block_of_cell y0)).trans y0
            have v1 := (hbn.cell (block_of_cell y1)).trans y1
            have v2 := (hbn.cell (block_of_cell y2)).trans y2
            have v4 := (hbn.cell (block_of_cell y3)).trans y3
            have HRUN := Lib.hid hrun
            have HW2 := Lib.hid hw2
            have HEL2 := Lib.hid (And.intro he2 hl2)
            clear hwn hbn hrun hw2 he2 hl2 HFN HW HEL HCX y0 y1 y2 y3 x2 x3 c3
            go_wp2_with (at_builtin
                         refine Lib.wpList_append_run _ rfl (.tmp 160) (.tmp 166) 64 64 rfl (.slice Lo m lc) (.slice (some ⟨wn.heap.size, 0, none⟩) 1 1) rfl rfl _ _ HRUN.out ?_)
            go_roundw
            case rel => exact ⟨k + 1, m + 1, L', c', l ++ [x], by omega, rfl, by go_num, HLN.out, by omega, HF2, HW2, HEL2⟩
            case measure => simp [intOf]; omega
        · have HF2 : Hid (l = (q.held.take (k + 1)).filter (keepH e)) := Lib.hid (by rw [if_neg hkp, List.append_nil] at htk; exact htk.symm)
          have hdec : ¬ (e.peer = 0 ∨ x.seq ≠ e.seq) := fun h => hkp (decide_eq_true h)
          have h0 : ¬ e.peer = 0 := fun h => hdec (Or.inl h)
          have hsq : x.seq = e.seq := Classical.byContradiction fun h => hdec (Or.inr h)
          have b0 : (e.peer == 0) = false := by simpa using h0
          have b1 : (x.seq != e.seq) = false := by simpa using hsq
          clear htk hkp hce hkh hx hdec h0 hsq
          go_upto_region 30 with (fail)
          go_quiet (fail)
          obtain ⟨wn, hwn⟩ : ∃ W, W = wr.drewN nq := ⟨_, rfl⟩
          have hbn : Below wr.heap.size wr wn := by rw [hwn]; exact below_drewN (Below.refl _ _) _
          rw [← hwn]
          have HW2 := Lib.hid (HW.out.later hbn)
          have HEL2 := Lib.hid (And.intro (HEL.out.1.later hbn) HEL.out.2)
          clear hwn hbn HW HEL HCX y0 y1 y2 y3 x2 x3
          go_wp2_with fail
          go_roundw
          case rel => exact ⟨k + 1, m, Lo, lc, l, by omega, rfl, by go_num, HM.out, by omega, HF2, HW2, HEL2⟩
          case measure => simp [intOf]; omega
      · obtain rfl : k = hl := by omega
        have hfull : q.held.take k = q.held := List.take_of_length_le (by rw [HHL.out]; exact Nat.le_refl _)
        have hf := HF.out
        rw [hfull] at hf
        have HFF := Lib.hid hf
        have hws := HW.out.set
        rw [hm] at hws
        obtain ⟨wb, hwb⟩ : ∃ W, W = wr.setCell ⟨bx, 3, none⟩ (.slice Lo m lc) := ⟨_, rfl⟩
        rw [← hwb] at hws
        have f3 := HW.out.wk.box.frozen (j := 3) (by simp [rpv])
        obtain ⟨hthere, F', As', cs', Ds', ds', hkb⟩ := hws.back
        have z0 := hws.box.cell (j := 0) rfl
        have z1 := hws.box.cell (j := 1) rfl
        have z2 := hws.box.cell (j := 2) rfl
        have z3 := hws.box.cell (j := 3) rfl
        have c2 := hws.ses.cel.cell (j := 2) rfl
        obtain ⟨np, hnp⟩ : ∃ m, S.peers.length = m := ⟨_, rfl⟩
        rw [hnp] at c2
        have hxn : ix < np := by rw [← hnp]; exact HI.out
        have hx16 : ix < 16 := by have := HI.out; have := HN16.out; omega
        have hcap : np ≤ c.pc := by rw [← hnp]; exact hws.ses.cap
        have hiw : IntKind.i64.wrap ((ix : Int) + 1 - 1) = (ix : Int) := by rw [IntKind.wrap_i64]; omega
        have hpc := (hws.ses.peer ix HI.out).1
        have t0 : wb.cell? ⟨c.pb, ix * 4, none⟩ = _ := hpc.cell (j := 0) rfl
        have t1 := hpc.cell (j := 1) rfl
        have t2 := hpc.cell (j := 2) rfl
        have t3 := hpc.cell (j := 3) rfl
        have u0 : wb.frozen? ⟨c.pb, ix * 4, none⟩ = false := hpc.frozen (j := 0) (by simp [rpv])
        have u1 := hpc.frozen (j := 1) (by simp [rpv])
        have u2 := hpc.frozen (j := 2) (by simp [rpv])
        have u3 := hpc.frozen (j := 3) (by simp [rpv])
        have HKB := Lib.hid hkb
        have HM := Lib.hid hm
        rw [hm] at z3
        clear hws hthere hkb hnp hfull hf hpc hm
        go_upto_region 33 with (fail)
        rw [← hwb]
        clear hwb
        go_region
        obtain ⟨wz, hwz⟩ : ∃ W, W = ((((wb.setCell ⟨c.pb, ix * 4, none⟩ (.slice A q.L.length ac)).setCell ⟨c.pb, ix * 4 + 1, none⟩ (.int .i64 q.known)).setCell ⟨c.pb, ix * 4 + 2, none⟩ (.int .i64 (q.last + 1))).setCell ⟨c.pb, ix * 4 + 3, none⟩ (.slice Lo m lc)).drew := ⟨_, rfl⟩
        have hkz : Wk c { S with peers := S.peers.set ix ⟨q.L, q.known, q.last, l⟩ } F' As' cs' Ds' ds' ix wz bx ⟨q.L, q.known, q.last, l⟩ A ac Lo lc Vo vc o := by
          rw [hwz, ← HM.out]
          exact HKB.out.later (Below.refl _ _).drew
        rw [← hwz]
        have HKZ := Lib.hid hkz
        have HTM : Hid (tailM S ((ix : Int) + 1) e o = (⟨#[]⟩, o, 0, { S with peers := S.peers.set ix ⟨q.L, q.known, q.last, l⟩ })) := Lib.hid (by
          unfold tailM
          have hpo : peerOf S ((ix : Int) + 1) = q := by rw [peerOf_at HI.out]; exact HKQ.out HI.out
          rw [if_neg HNS.out, if_pos HKD.out, hpo, putP_at]
          by_cases h0 : e.peer = 0
          · rw [if_pos h0, HFF.out, keep_all h0, set_same HKQ.out]
          · rw [if_neg h0, HFF.out, keep_go h0]
            rfl)
        clear hwz hkz HKB z0 z1 z2 z3 c2 t0 t1 t2 t3 u0 u1 u2 u3 f3 c3
        go_wp2_with fail
        go_returns
        rw [HTM.out]
        exact ⟨Vo, vc, F', by show Ending.returned (.tuple #[.string ⟨#[]⟩, .slice Vo n vc, .int .i64 0]) = _; rw [HN.out], HKZ.out.out, HKZ.out.stp, fun k e2 => (HKZ.out.nV k e2).2.1⟩
  · have e1 : (e.kind == 2) = false := by simpa using hkd
    have HKD := Lib.hid hkd
    clear hkd
    go_wp2_with fail
    exact HKT.out _ _ (tkAck HK.out HN16.out HKQ.out HOK.out HLL.out HE.out HEF.out HEV.out HAE.out HN.out hn40 HNS.out HKD.out (by kernel_rfl))
set_option maxHeartbeats 8000000 in
theorem tkTail {c : Ctx} {S : Sm} {F : Nat → Prop} {As Ds : Nat → Option Addr} {cs ds : Nat → Nat} {ix bx eb n N ac dc vc : Nat} {wr : World} {q : Pm} {A Dh Vo : Option Addr} {o : List Ot} {e : Ev} (hk : Wk c S F As cs Ds ds ix wr bx q A ac Dh dc Vo vc o)
    (hn16 : S.peers.length ≤ 16) (hkq : ∀ hz : ix < S.peers.length, S.peers[ix]'hz = q) (hok : Pok N q) (hL : q.L.length ≤ 1000) (he : Cells wr eb 25 e.vals) (hef : ¬ F eb ∧ eb ≠ bx ∧ c.w1.heap.size ≤ eb) (hev : blk Vo ≠ some eb) (hae : blk A ≠ some eb ∧ blk Dh ≠ some eb) (hol : o.length = n) (hn40 : n ≤ 40)
    {cc : Code} (hc : cc = sub [1, 1, 1, 1, 1, 1] ((Try.f22.body).getD .skip)) {s2 s3 s4 s6 s7 s8 s11 s12 s13 s14 s15 s16 s17 s18 s19 s20 s21 s22 s23 s24 s25 s26 s27 s28 s29 s30 s31 s32 s33 s34 s35 s36 s37 s38 s39 s40 s41 s42 s43 s44 s45 s46 s47 s48 s49 s50 s51 s52 s53 s54 s55 s56 s57 s58 s59 s60 s61 s62 s63 s64 s65 s66 s67 s68 s69 s70 s71 s72 s73 s74 s75 s76 s77 s78 s79 s80 s81 s82 s83 s84 s85 s86 s87 s88 s89 s90 s91 s92 s93 s94 s95 s96 s97 s98 s99 s100 s101 s102 s103 s104 s105 s106 s107 s108 s109 s110 s111 s112 s113 s114 s115 s116 s117 s118 s119 s120 s121 s122 s123 s124 s125 s126 s127 s128 s129 s130 s131 s132 s133 s134 s135 s136 s137 s138 s139 s140 s141 s142 s143 s144 s145 s146 s147 s148 s149 s150 s151 s152 s153 s154 s155 s156 s157 s158 s159 s160 s161 s162 s163 s164 s165 s166 s167 s168 s169 s170 s171 s172 s173 s174 s175 s176 s177 s178 s179 s180 s181 s182 s183 s184 s185 s186 s187 s188 s189 s190 s191 s192 s193 s194 s195 s196 s197 s198 s199 s200 s201 s202 s203 s204 s205 s206 s207 s208 s209 s210 : Value} :
    cc.wp Try.prog (bodyPost Try.prog Try.f22 (fun r w' => TkEnds c.B c.rb c.F0 c.w1 (tailM S ((ix : Int) + 1) e o) r w')) { tmps := List.toArray ((.pointer (some ⟨c.rb, 0, none⟩))::(.int .i64 ((ix : Int) + 1))::s2::s3::s4::(.pointer (some ⟨eb, 0, none⟩))::s6::s7::s8::(.pointer (some ⟨bx, 0, none⟩))::(.slice Vo n vc)::s11::s12::s13::s14::s15::s16::s17::s18::s19::s20::s21::s22::s23::s24::s25::s26::s27::s28::s29::s30::s31::s32::s33::s34::s35::s36::s37::s38::s39::s40::s41::s42::s43::s44::s45::s46::s47::s48::s49::s50::s51::s52::s53::s54::s55::s56::s57::s58::s59::s60::s61::s62::s63::s64::s65::s66::s67::s68::s69::s70::s71::s72::s73::s74::s75::s76::s77::s78::s79::s80::s81::s82::s83::s84::s85::s86::s87::s88::s89::s90::s91::s92::s93::s94::s95::s96::s97::s98::s99::s100::s101::s102::s103::s104::s105::s106::s107::s108::s109::s110::s111::s112::s113::s114::s115::s116::s117::s118::s119::s120::s121::s122::s123::s124::s125::s126::s127::s128::s129::s130::s131::s132::s133::s134::s135::s136::s137::s138::s139::s140::s141::s142::s143::s144::s145::s146::s147::s148::s149::s150::s151::s152::s153::s154::s155::s156::s157::s158::s159::s160::s161::s162::s163::s164::s165::s166::s167::s168::s169::s170::s171::s172::s173::s174::s175::s176::s177::s178::s179::s180::s181::s182::s183::s184::s185::s186::s187::s188::s189::s190::s191::s192::s193::s194::s195::s196::s197::s198::s199::s200::s201::s202::s203::s204::s205::s206::s207::s208::s209::s210::[]), defers := [] } wr := by
  conv at hc => rhs; whnf
  subst hc
  have HK := Lib.hid hk
  have HE := Lib.hid he
  have HEV := Lib.hid hev
  have HAE := Lib.hid hae
  have HN := Lib.hid hol
  have HEF := Lib.hid hef
  have HOK := Lib.hid hok
  have HLL := Lib.hid hL
  have HKQ := Lib.hid hkq
  have HI := Lib.hid hk.hi
  have HN16 := Lib.hid hn16
  have k2 := he.cell (j := 2) rfl
  have r1 := hk.ses.cel.cell (j := 1) rfl
  clear hk he hev hae hol hef hok hL hkq hn16
  apply wp_seq_k
  intro K hK
  have HKT := Lib.hid hK
  clear hK
  by_cases hp0 : e.peer = 0
  · have b0 : (e.peer != 0) = false := by simpa using hp0
    have HNS : Hid (¬ (e.peer ≠ 0 ∧ e.peer ≠ S.epoch)) := Lib.hid fun h => h.1 hp0
    clear hp0
    go_upto_region 23 with (fail)
    go_quiet (fail)
    obtain ⟨wn, hwn⟩ : ∃ W, W = wr.drewN nq := ⟨_, rfl⟩
    have hbn : Below wr.heap.size wr wn := by rw [hwn]; exact below_drewN (Below.refl _ _) _
    rw [← hwn]
    have HBN := Lib.hid hbn
    clear hwn hbn k2 r1
    go_wp2_with fail
    exact HKT.out _ _ (tkKind (HK.out.later HBN.out) HN16.out HKQ.out HOK.out HLL.out (HE.out.later HBN.out) HEF.out HEV.out HAE.out HN.out hn40 HNS.out (by kernel_rfl))
  · have b0 : (e.peer != 0) = true := by simpa using hp0
    by_cases hpe : e.peer = S.epoch
    · have b1 : (e.peer != S.epoch) = false := by simpa using hpe
      have HNS : Hid (¬ (e.peer ≠ 0 ∧ e.peer ≠ S.epoch)) := Lib.hid fun h => h.2 hpe
      clear hp0 hpe
      go_upto_region 23 with (fail)
      go_quiet (fail)
      obtain ⟨wn, hwn⟩ : ∃ W, W = wr.drewN nq := ⟨_, rfl⟩
      have hbn : Below wr.heap.size wr wn := by rw [hwn]; exact below_drewN (Below.refl _ _) _
      rw [← hwn]
      have HBN := Lib.hid hbn
      clear hwn hbn k2 r1
      go_wp2_with fail
      exact HKT.out _ _ (tkKind (HK.out.later HBN.out) HN16.out HKQ.out HOK.out HLL.out (HE.out.later HBN.out) HEF.out HEV.out HAE.out HN.out hn40 HNS.out (by kernel_rfl))
    · have b1 : (e.peer != S.epoch) = true := by simpa using hpe
      have HST : Hid (e.peer ≠ 0 ∧ e.peer ≠ S.epoch) := Lib.hid ⟨hp0, hpe⟩
      clear hp0 hpe
      go_upto_region 23 with (fail)
      go_quiet (fail)
      obtain ⟨we, hwe⟩ : ∃ W, W = wr.drewN nq := ⟨_, rfl⟩
      have hbn : Below wr.heap.size wr we := by rw [hwe]; exact below_drewN (Below.refl _ _) _
      rw [← hwe]
      have HK0 := HK
      have HE0 := HE
      clear HK HE
      have HK := Lib.hid (HK0.out.later hbn)
      have HE := Lib.hid (HE0.out.later hbn)
      clear hwe hbn k2 r1 HK0 HE0
      go_upto_region 24 with (fail)
      refine Reg.region_inv (by kernel_rfl) (fun i => ([some (.slice Vo n vc), some (.int .i64 ((ix : Int) + 1)), some (.pointer (some ⟨c.rb, 0, none⟩)), some (.pointer (some ⟨c.rb, 0, none⟩)), some (.pointer (some ⟨c.rb, 1, none⟩)), some (.int .i64 S.epoch), some (.pointer (some ⟨bx, 1, none⟩)), some (.int .i64 q.known), some (.agg #[.int .i64 2, .int .i64 S.epoch, .int .i64 q.known, .int .i64 0, .string ⟨#[]⟩]), some (.agg #[.int .i64 ((ix : Int) + 1), .int .i64 2, .int .i64 S.epoch, .int .i64 q.known, .int .i64 0, .string ⟨#[]⟩]), none, none, some (.string ⟨#[]⟩), none, some (.int .i64 11)] : List (Option Value)).getD i none) (fun D V W => ((D 11) = false → App1 we 121 (Ot.vals ⟨(ix : Int) + 1, ⟨2, S.epoch, q.known, 0, ⟨#[]⟩⟩⟩) (D 10) (V 10) W) ∧ ((D 11) = true → ∃ V9 c9, (V 11) = .slice V9 (n + 1) c9 ∧ Wk c S F As cs Ds ds ix W bx q A ac Dh dc V9 c9 (o ++ [⟨(ix : Int) + 1, ⟨2, S.epoch, q.known, 0, ⟨#[]⟩⟩⟩]) ∧ Cells W eb 25 e.vals) ∧ ((D 13) = true → (V 13) = (V 11))) (fun V => [(some 123, V 0), (some 124, V 1), (some 125, V 2), (some 126, V 3), (some 127, V 4), (some 128, V 5), (some 129, V 6), (some 130, V 7), (some 131, V 8), (some 132, V 9), (some 133, V 10), (some 134, V 11), (some 6, V 12), (some 7, V 13), (some 8, V 14)]) (by kernel_rfl) (by kernel_rfl) (fun V => rfl) ?_ ?_ ?_
      · intro V
        exact ⟨fun _ => App1.start (Below.refl _ _).drew _, fun e => (by cases e), fun e => (by cases e)⟩
      · intro i o ho
        have hi : i < 15 := (Array.getElem?_eq_some_iff.1 ho).1
        rcases i with _ | _ | _ | _ | _ | _ | _ | _ | _ | _ | _ | _ | _ | _ | _ | i
        rotate_right
        · omega
        all_goals obtain rfl := Option.some.inj ho
        all_goals intro D V ρ wi hE hI hDi hT hF hs hd hk
        · have e10 : ρ (.tmp 10) = .slice Vo n vc := hs 10; clear hT hF hk
          exact Reg.Gives.value (v := .slice Vo n vc) (w' := wi) (by go_simp) ⟨fun x h => Option.some.inj h, hI⟩
        · have e1 : ρ (.tmp 1) = .int .i64 ((ix : Int) + 1) := hs 1; clear hT hF hk
          exact Reg.Gives.value (v := .int .i64 ((ix : Int) + 1)) (w' := wi) (by go_simp) ⟨fun x h => Option.some.inj h, hI⟩
        · have e0 : ρ (.tmp 0) = .pointer (some ⟨c.rb, 0, none⟩) := hs 0; clear hT hF hk
          exact Reg.Gives.value (v := .pointer (some ⟨c.rb, 0, none⟩)) (w' := wi) (by go_simp) ⟨fun x h => Option.some.inj h, hI⟩
        · have e125 : ρ (.tmp 125) = .pointer (some ⟨c.rb, 0, none⟩) := (hd 2 125).trans (hk 2 _ rfl); clear hT hF hk
          exact Reg.Gives.value (v := .pointer (some ⟨c.rb, 0, none⟩)) (w' := wi) (by go_simp) ⟨fun x h => Option.some.inj h, hI⟩
        · have e126 : ρ (.tmp 126) = .pointer (some ⟨c.rb, 0, none⟩) := (hd 3 126).trans (hk 3 _ rfl); clear hT hF hk
          exact Reg.Gives.value (v := .pointer (some ⟨c.rb, 1, none⟩)) (w' := wi) (by go_simp) ⟨fun x h => Option.some.inj h, hI⟩
        · have e127 : ρ (.tmp 127) = .pointer (some ⟨c.rb, 1, none⟩) := (hd 4 127).trans (hk 4 _ rfl); have hD11 : D 11 = false := hF 4 11; clear hT hF; have hL : Below we.heap.size we wi := (hI.1 hD11).low; have x0 := (HK.out.later hL).ses.cel.cell (j := 1) rfl
          exact Reg.Gives.value (v := .int .i64 S.epoch) (w' := wi) (by go_simp) ⟨fun x h => Option.some.inj h, hI⟩
        · have e9 : ρ (.tmp 9) = .pointer (some ⟨bx, 0, none⟩) := hs 9; clear hT hF hk
          exact Reg.Gives.value (v := .pointer (some ⟨bx, 1, none⟩)) (w' := wi) (by go_simp) ⟨fun x h => Option.some.inj h, hI⟩
        · have e129 : ρ (.tmp 129) = .pointer (some ⟨bx, 1, none⟩) := (hd 6 129).trans (hk 6 _ rfl); have hD11 : D 11 = false := hF 4 11; clear hT hF; have hL : Below we.heap.size we wi := (hI.1 hD11).low; have x0 := (HK.out.later hL).box.cell (j := 1) rfl
          exact Reg.Gives.value (v := .int .i64 q.known) (w' := wi) (by go_simp) ⟨fun x h => Option.some.inj h, hI⟩
        · have e128 : ρ (.tmp 128) = .int .i64 S.epoch := (hd 5 128).trans (hk 5 _ rfl); have e130 : ρ (.tmp 130) = .int .i64 q.known := (hd 7 130).trans (hk 7 _ rfl); have hc := hE.const; clear hT hF hk
          exact Reg.Gives.value (v := .agg #[.int .i64 2, .int .i64 S.epoch, .int .i64 q.known, .int .i64 0, .string ⟨#[]⟩]) (w' := wi) (by go_simp) ⟨fun x h => Option.some.inj h, hI⟩
        · have e124 : ρ (.tmp 124) = .int .i64 ((ix : Int) + 1) := (hd 1 124).trans (hk 1 _ rfl); have e131 : ρ (.tmp 131) = .agg #[.int .i64 2, .int .i64 S.epoch, .int .i64 q.known, .int .i64 0, .string ⟨#[]⟩] := (hd 8 131).trans (hk 8 _ rfl); clear hT hF hk
          exact Reg.Gives.value (v := .agg #[.int .i64 ((ix : Int) + 1), .int .i64 2, .int .i64 S.epoch, .int .i64 q.known, .int .i64 0, .string ⟨#[]⟩]) (w' := wi) (by go_simp) ⟨fun x h => Option.some.inj h, hI⟩
        · have e132 : ρ (.tmp 132) = .agg #[.int .i64 ((ix : Int) + 1), .int .i64 2, .int .i64 S.epoch, .int .i64 q.known, .int .i64 0, .string ⟨#[]⟩] := (hd 9 132).trans (hk 9 _ rfl); have hD10 : D 10 = false := hDi; have hD11 : D 11 = false := hF 1 11; have hD13 : D 13 = false := hF 1 13; clear hT hF; have h1 := hI.1 hD11
          rw [hD10] at h1
          exact Reg.Gives.value (v := .slice (some ⟨wi.heap.size, 0, none⟩) 1 1) (w' := wi.alloc (.cells #[.int .i64 ((ix : Int) + 1), .int .i64 2, .int .i64 S.epoch, .int .i64 q.known, .int .i64 0, .string ⟨#[]⟩] 121)) (by go_simp) ⟨fun x h => (by cases h), by show ((D 11) = false → App1 we 121 (Ot.vals ⟨(ix : Int) + 1, ⟨2, S.epoch, q.known, 0, ⟨#[]⟩⟩⟩) true (Value.slice (some ⟨wi.heap.size, 0, none⟩) 1 1) (wi.alloc (.cells #[.int .i64 ((ix : Int) + 1), .int .i64 2, .int .i64 S.epoch, .int .i64 q.known, .int .i64 0, .string ⟨#[]⟩] 121))) ∧ ((D 11) = true → ∃ V9 c9, (V 11) = .slice V9 (n + 1) c9 ∧ Wk c S F As cs Ds ds ix (wi.alloc (.cells #[.int .i64 ((ix : Int) + 1), .int .i64 2, .int .i64 S.epoch, .int .i64 q.known, .int .i64 0, .string ⟨#[]⟩] 121)) bx q A ac Dh dc V9 c9 (o ++ [⟨(ix : Int) + 1, ⟨2, S.epoch, q.known, 0, ⟨#[]⟩⟩⟩]) ∧ Cells (wi.alloc (.cells #[.int .i64 ((ix : Int) + 1), .int .i64 2, .int .i64 S.epoch, .int .i64 q.known, .int .i64 0, .string ⟨#[]⟩] 121)) eb 25 e.vals) ∧ ((D 13) = true → (V 13) = (V 11)); exact ⟨fun _ => h1.mk1 _ rfl, fun e => (by rw [hD11] at e; cases e), fun e => (by rw [hD13] at e; cases e)⟩⟩
        · have e123 : ρ (.tmp 123) = .slice Vo n vc := (hd 0 123).trans (hk 0 _ rfl); have e133 : ρ (.tmp 133) = V 10 := hd 10 133; have hD10 : D 10 = true := hT 1 10; have hD11 : D 11 = false := hDi; have hD13 : D 13 = false := hF 1 13; clear hT hF; have h1 := hI.1 hD11
          rw [hD10] at h1
          obtain ⟨g2, hx2, hcx⟩ := h1.x rfl
          rw [hx2] at e133
          obtain ⟨V8, c8, w8, hrun, hk8, ho8, _⟩ := HK.out.app2 h1.low ⟨(ix : Int) + 1, ⟨2, S.epoch, q.known, 0, ⟨#[]⟩⟩⟩ hcx (by have := HN.out; omega)
          rw [HN.out] at hrun
          have hP := And.intro hk8 (cells_only HE.out ho8 HEV.out)
          exact Reg.Gives.value (v := .slice V8 (n + 1) c8) (w' := w8) (Reg.exec_append rfl e123 e133 hrun) ⟨fun x h => (by cases h), by show (true = false → App1 we 121 (Ot.vals ⟨(ix : Int) + 1, ⟨2, S.epoch, q.known, 0, ⟨#[]⟩⟩⟩) (D 10) (V 10) w8) ∧ (true = true → ∃ V9 c9, (Value.slice V8 (n + 1) c8) = .slice V9 (n + 1) c9 ∧ Wk c S F As cs Ds ds ix w8 bx q A ac Dh dc V9 c9 (o ++ [⟨(ix : Int) + 1, ⟨2, S.epoch, q.known, 0, ⟨#[]⟩⟩⟩]) ∧ Cells w8 eb 25 e.vals) ∧ ((D 13) = true → (V 13) = (Value.slice V8 (n + 1) c8)); exact ⟨fun e => (by cases e), fun _ => ⟨V8, c8, rfl, hP⟩, fun e => (by rw [hD13] at e; cases e)⟩⟩
        · have hc := hE.const; clear hT hF hk
          exact Reg.Gives.value (v := .string ⟨#[]⟩) (w' := wi) (by go_simp) ⟨fun x h => Option.some.inj h, hI⟩
        · have e134 : ρ (.tmp 134) = V 11 := hd 11 134; have hD11 : D 11 = true := hT 1 11; clear hT hF; have h2 := hI.2.1 hD11
          exact Reg.Gives.value (v := V 11) (w' := wi) (by go_simp) ⟨fun x h => (by cases h), by show ((D 11) = false → App1 we 121 (Ot.vals ⟨(ix : Int) + 1, ⟨2, S.epoch, q.known, 0, ⟨#[]⟩⟩⟩) (D 10) (V 10) wi) ∧ ((D 11) = true → ∃ V9 c9, (V 11) = .slice V9 (n + 1) c9 ∧ Wk c S F As cs Ds ds ix wi bx q A ac Dh dc V9 c9 (o ++ [⟨(ix : Int) + 1, ⟨2, S.epoch, q.known, 0, ⟨#[]⟩⟩⟩]) ∧ Cells wi eb 25 e.vals) ∧ (true = true → (V 11) = (V 11)); exact ⟨fun e => (by rw [hD11] at e; cases e), fun _ => h2, fun _ => rfl⟩⟩
        · have hc := hE.const; clear hT hF hk
          exact Reg.Gives.value (v := .int .i64 11) (w' := wi) (by go_simp) ⟨fun x h => Option.some.inj h, hI⟩
      · intro V wf hk hI
        have hV12 : V 12 = .string ⟨#[]⟩ := hk 12 (by show _ < 15; decide) _ rfl
        have hV14 : V 14 = .int .i64 11 := hk 14 (by show _ < 15; decide) _ rfl
        simp only [Reg.putsO, List.foldl_cons, List.foldl_nil, Act.put, List.setIfInBounds_toArray, List.set_cons_succ, List.set_cons_zero, hV12, hV14]
        replace hI : (true = false → App1 we 121 (Ot.vals ⟨(ix : Int) + 1, ⟨2, S.epoch, q.known, 0, ⟨#[]⟩⟩⟩) true (V 10) wf) ∧ (true = true → ∃ V9 c9, (V 11) = .slice V9 (n + 1) c9 ∧ Wk c S F As cs Ds ds ix wf bx q A ac Dh dc V9 c9 (o ++ [⟨(ix : Int) + 1, ⟨2, S.epoch, q.known, 0, ⟨#[]⟩⟩⟩]) ∧ Cells wf eb 25 e.vals) ∧ (true = true → (V 13) = (V 11)) := hI
        clear hk hV12 hV14
        obtain ⟨_, hI2, hI3⟩ := hI
        obtain ⟨V9, c9, hv9, hk9, he9⟩ := hI2 rfl
        rw [hI3 rfl, hv9]
        have HK9 := Lib.hid hk9
        clear hI2 hI3 hk9 he9 hv9
        have HTM : Hid (tailM S ((ix : Int) + 1) e o = (⟨#[]⟩, o ++ [ackO S ((ix : Int) + 1) q.known 0], 11, S)) := Lib.hid (by
          unfold tailM
          have hpo : peerOf S ((ix : Int) + 1) = q := by rw [peerOf_at HI.out]; exact HKQ.out HI.out
          rw [if_pos HST.out, hpo])
        go_wp2_with fail
        go_returns
        rw [HTM.out]
        refine ⟨V9, c9, F, ?_, HK9.out.out, HK9.out.stp, fun k e2 => (HK9.out.nV k e2).2.1⟩
        show Ending.returned (.tuple #[.string ⟨#[]⟩, .slice V9 (n + 1) c9, .int .i64 11]) = .returned (.tuple #[.string ⟨#[]⟩, .slice V9 (o ++ [ackO S ((ix : Int) + 1) q.known 0]).length c9, .int .i64 11])
        rw [List.length_append, HN.out]
        rfl
end Go.Proofs.Ytjfejfhdohpfbaa.Ses
