/-
  Layer 14, the document's Take: a new incarnation. Conditions: none.
-/
import Derived.Test.YtjfejfhdohpfbaaSesTk
namespace Go.Proofs.Ytjfejfhdohpfbaa.Ses
set_option maxRecDepth 100000
open Go.RowKit Go.Deep Go.Proofs.Ytjfejfhdohpfbaa.Mem Go.Proofs.Ytjfejfhdohpfbaa.Win

/-- Behind what is stale. -/
def midM (S : Sm) (x : Int) (e : Ev) (p : Pm) : ByteArray × List Ot × Int × Sm :=
  if p.known < e.epoch then tailM (putP S x (meetP p e.epoch).2) x e (if (meetP p e.epoch).1 then dataL x S.epoch (meetP p e.epoch).2.known (meetP p e.epoch).2.held else []) else tailM S x e []
set_option maxHeartbeats 16000000 in
theorem tkMid {c : Ctx} {S : Sm} {F : Nat → Prop} {As Ds : Nat → Option Addr} {cs ds : Nat → Nat} {ix bx eb N ac dc vc : Nat} {wr : World} {p : Pm} {A Dh Vo : Option Addr} {e : Ev} (hk : Wk c S F As cs Ds ds ix wr bx p A ac Dh dc Vo vc [])
    (hn16 : S.peers.length ≤ 16) (hkq : ∀ hz : ix < S.peers.length, S.peers[ix]'hz = p) (hok : Pok N p) (hL : p.L.length ≤ 1000) (he : Cells wr eb 25 e.vals) (hef : ¬ F eb ∧ eb ≠ bx ∧ c.w1.heap.size ≤ eb) (hev : blk Vo ≠ some eb) (hae : blk A ≠ some eb ∧ blk Dh ≠ some eb) (hn32 : p.held.length ≤ 32)
    (hep : 1 ≤ e.epoch ∧ e.epoch ≤ 1099511627776)
    {cc : Code} (hc : cc = sub [1, 1, 1, 1, 1] ((Try.f22.body).getD .skip)) {s2 s3 s4 s6 s7 s8 s11 s12 s13 s14 s15 s16 s17 s18 s19 s20 s21 s22 s23 s24 s25 s26 s27 s28 s29 s30 s31 s32 s33 s34 s35 s36 s37 s38 s39 s40 s41 s42 s43 s44 s45 s46 s47 s48 s49 s50 s51 s52 s53 s54 s55 s56 s57 s58 s59 s60 s61 s62 s63 s64 s65 s66 s67 s68 s69 s70 s71 s72 s73 s74 s75 s76 s77 s78 s79 s80 s81 s82 s83 s84 s85 s86 s87 s88 s89 s90 s91 s92 s93 s94 s95 s96 s97 s98 s99 s100 s101 s102 s103 s104 s105 s106 s107 s108 s109 s110 s111 s112 s113 s114 s115 s116 s117 s118 s119 s120 s121 s122 s123 s124 s125 s126 s127 s128 s129 s130 s131 s132 s133 s134 s135 s136 s137 s138 s139 s140 s141 s142 s143 s144 s145 s146 s147 s148 s149 s150 s151 s152 s153 s154 s155 s156 s157 s158 s159 s160 s161 s162 s163 s164 s165 s166 s167 s168 s169 s170 s171 s172 s173 s174 s175 s176 s177 s178 s179 s180 s181 s182 s183 s184 s185 s186 s187 s188 s189 s190 s191 s192 s193 s194 s195 s196 s197 s198 s199 s200 s201 s202 s203 s204 s205 s206 s207 s208 s209 s210 : Value} :
    cc.wp Try.prog (bodyPost Try.prog Try.f22 (fun r w' => TkEnds c.B c.rb c.F0 c.w1 (midM S ((ix : Int) + 1) e p) r w')) { tmps := List.toArray ((.pointer (some ⟨c.rb, 0, none⟩))::(.int .i64 ((ix : Int) + 1))::s2::s3::s4::(.pointer (some ⟨eb, 0, none⟩))::s6::s7::s8::(.pointer (some ⟨bx, 0, none⟩))::(.slice Vo 0 vc)::s11::s12::s13::s14::s15::s16::s17::s18::s19::s20::s21::s22::s23::s24::s25::s26::s27::s28::s29::s30::s31::s32::s33::s34::s35::s36::s37::s38::s39::s40::s41::s42::s43::s44::s45::s46::s47::s48::s49::s50::s51::s52::s53::s54::s55::s56::s57::s58::s59::s60::s61::s62::s63::s64::s65::s66::s67::s68::s69::s70::s71::s72::s73::s74::s75::s76::s77::s78::s79::s80::s81::s82::s83::s84::s85::s86::s87::s88::s89::s90::s91::s92::s93::s94::s95::s96::s97::s98::s99::s100::s101::s102::s103::s104::s105::s106::s107::s108::s109::s110::s111::s112::s113::s114::s115::s116::s117::s118::s119::s120::s121::s122::s123::s124::s125::s126::s127::s128::s129::s130::s131::s132::s133::s134::s135::s136::s137::s138::s139::s140::s141::s142::s143::s144::s145::s146::s147::s148::s149::s150::s151::s152::s153::s154::s155::s156::s157::s158::s159::s160::s161::s162::s163::s164::s165::s166::s167::s168::s169::s170::s171::s172::s173::s174::s175::s176::s177::s178::s179::s180::s181::s182::s183::s184::s185::s186::s187::s188::s189::s190::s191::s192::s193::s194::s195::s196::s197::s198::s199::s200::s201::s202::s203::s204::s205::s206::s207::s208::s209::s210::[]), defers := [] } wr := by
  conv at hc => rhs; whnf
  subst hc
  have HK := Lib.hid hk
  have HE := Lib.hid he
  have HEV := Lib.hid hev
  have HAE := Lib.hid hae
  have HEF := Lib.hid hef
  have HOK := Lib.hid hok
  have HLL := Lib.hid hL
  have HKQ := Lib.hid hkq
  have HI := Lib.hid hk.hi
  have HN16 := Lib.hid hn16
  have H32 := Lib.hid hn32
  have HEP := Lib.hid hep
  have HPB : Hid (eb ≠ c.pb) := Lib.hid fun e2 => hef.1 (by rw [e2]; exact hk.ses.fp)
  have k1 := he.cell (j := 1) rfl
  have x1 := hk.box.cell (j := 1) rfl
  unfold midM
  clear hk he hev hae hef hok hL hkq hn16 hn32 hep
  apply wp_seq_k
  intro K hK
  have HKT := Lib.hid hK
  clear hK
  by_cases hlt : p.known < e.epoch
  · rw [if_pos hlt] at HKT ⊢
    have b1 : decide (e.epoch > p.known) = true := decide_eq_true hlt
    -- the epoch and the window are set
    obtain ⟨q, hq⟩ : ∃ q : Pm, q = ⟨[], e.epoch, p.last, p.held⟩ := ⟨_, rfl⟩
    have f1 := HK.out.box.frozen (j := 1) (by simp [rpv])
    have hw1 := (HK.out.epoch e.epoch).nowin
    obtain ⟨wb, hwb⟩ : ∃ W, W = (wr.setCell ⟨bx, 1, none⟩ (.int .i64 e.epoch)).setCell ⟨bx, 0, none⟩ (.slice none 0 0) := ⟨_, rfl⟩
    have x0 := HK.out.box.cell (j := 0) rfl
    have f0 := HK.out.box.frozen (j := 0) (by simp [rpv])
    rw [← hwb] at hw1
    rw [show (⟨[], e.epoch, p.last, p.held⟩ : Pm) = q from hq.symm] at hw1
    have heb1 : Cells wb eb 25 e.vals := by
      rw [hwb]
      exact (HE.out.far (p := ⟨bx, 1, none⟩) HEF.out.2.1 _).far (p := ⟨bx, 0, none⟩) HEF.out.2.1 _
    have HW1 := Lib.hid hw1
    have HE1 := Lib.hid heb1
    have HQ := Lib.hid hq
    have hkn0 := HOK.out.k0
    clear hw1 heb1 hlt
    by_cases hk0 : p.known = 0
    · have b2 : (p.known != 0) = false := by simpa using hk0
      have hm : meetP p e.epoch = (false, q) := by unfold meetP; rw [if_pos hk0, hq]
      have hm1 : (if (meetP p e.epoch).1 then dataL ((ix : Int) + 1) S.epoch (meetP p e.epoch).2.known (meetP p e.epoch).2.held else []) = ([] : List Ot) := by rw [hm]; rfl
      have hm2 : (meetP p e.epoch).2 = q := by rw [hm]
      rw [hm1, hm2, putP_at] at HKT ⊢
      clear hm1 hm2
      obtain ⟨hthere, F', As', cs', Ds', ds', hkb, hF'⟩ := HW1.out.back2
      have hpc := (HW1.out.ses.peer ix HI.out).1
      have t0 : wb.cell? ⟨c.pb, ix * 4, none⟩ = _ := hpc.cell (j := 0) rfl
      have t1 := hpc.cell (j := 1) rfl
      have t2 := hpc.cell (j := 2) rfl
      have t3 := hpc.cell (j := 3) rfl
      have u0 : wb.frozen? ⟨c.pb, ix * 4, none⟩ = false := hpc.frozen (j := 0) (by simp [rpv])
      have u1 := hpc.frozen (j := 1) (by simp [rpv])
      have u2 := hpc.frozen (j := 2) (by simp [rpv])
      have u3 := hpc.frozen (j := 3) (by simp [rpv])
      have z0 := HW1.out.box.cell (j := 0) rfl
      have z1 := HW1.out.box.cell (j := 1) rfl
      have z2 := HW1.out.box.cell (j := 2) rfl
      have z3 := HW1.out.box.cell (j := 3) rfl
      have c2 := HW1.out.ses.cel.cell (j := 2) rfl
      obtain ⟨np, hnp⟩ : ∃ m, S.peers.length = m := ⟨_, rfl⟩
      rw [hnp] at c2
      have hxn : ix < np := by rw [← hnp]; exact HI.out
      have hx16 : ix < 16 := by have := HI.out; have := HN16.out; omega
      have hcap : np ≤ c.pc := by rw [← hnp]; exact HW1.out.ses.cap
      have hiw : IntKind.i64.wrap ((ix : Int) + 1 - 1) = (ix : Int) := by rw [IntKind.wrap_i64]; omega
      have HKB := Lib.hid hkb
      have HF' := Lib.hid hF'
      have hql : q.L.length = 0 := by rw [hq]; rfl
      have hqk : q.known = e.epoch := by rw [hq]
      rw [hql] at z0
      rw [hqk] at z1
      obtain ⟨hl, hhl⟩ : ∃ m, q.held.length = m := ⟨_, rfl⟩
      have HHL := Lib.hid hhl
      rw [hhl] at z3
      have hl32 : hl ≤ 32 := by rw [← hhl, hq]; exact H32.out
      have HOKQ : Hid (Pok N q) := Lib.hid (by rw [hq]; exact ⟨Wok.nil, by have := HEP.out; show 0 ≤ e.epoch; omega, HEP.out.2, HOK.out.l0, HOK.out.l1, HOK.out.len, HOK.out.held⟩)
      have HQL0 : Hid (q.L.length ≤ 1000) := Lib.hid (by rw [hql]; exact Nat.zero_le _)
      clear hthere hkb hF' hnp hpc hm hk0 hq hhl
      go_upto_region 11 with (fail)
      rw [← hwb]
      clear hwb k1 x1 f1 x0 f0
      go_upto_region 18 with (fail)
      go_region
      obtain ⟨wz, hwz⟩ : ∃ W, W = ((((wb.setCell ⟨c.pb, ix * 4, none⟩ (.slice none 0 0)).setCell ⟨c.pb, ix * 4 + 1, none⟩ (.int .i64 e.epoch)).setCell ⟨c.pb, ix * 4 + 2, none⟩ (.int .i64 (q.last + 1))).setCell ⟨c.pb, ix * 4 + 3, none⟩ (.slice Dh hl dc)).drew := ⟨_, rfl⟩
      have hkz : Wk c { S with peers := S.peers.set ix q } F' As' cs' Ds' ds' ix wz bx q none 0 Dh dc Vo vc [] := by
        rw [hwz]
        have h9 := HKB.out.later (Below.refl _ _).drew
        unfold rpv at h9
        rw [hql, hqk, HHL.out] at h9
        exact h9
      have hez : Cells wz eb 25 e.vals := by
        rw [hwz]
        exact (((((HE1.out).far (p := ⟨c.pb, ix * 4, none⟩) HPB.out _).far (p := ⟨c.pb, ix * 4 + 1, none⟩) HPB.out _).far (p := ⟨c.pb, ix * 4 + 2, none⟩) HPB.out _).far (p := ⟨c.pb, ix * 4 + 3, none⟩) HPB.out _).later (Below.refl _ _).drew
      rw [← hwz]
      have HKZ := Lib.hid hkz
      have HEZ := Lib.hid hez
      have z3' := hkz.box.cell (j := 3) rfl
      rw [HHL.out] at z3'
      have HEF2 : Hid (¬ F' eb ∧ eb ≠ bx ∧ c.w1.heap.size ≤ eb) := Lib.hid ⟨fun e2 => by
        rcases HF'.out eb e2 with e3 | e3 | e3
        · exact HEF.out.1 e3
        · cases e3
        · exact HAE.out.2 e3, HEF.out.2⟩
      clear hwz hkz hez z0 z1 z2 z3 c2 t0 t1 t2 t3 u0 u1 u2 u3 HKB
      go_wp2_with fail
      go_loopw [10, 14] (fun a j wq => a = .slice Vo 0 vc ∧ j = .int .i64 0 ∧ wz = wq) (fun _ _ _ => 0)
      case atStart => exact ⟨rfl, rfl, rfl⟩
      case round =>
        obtain ⟨rfl, rfl, rfl⟩ := hrel
        by_cases hl0 : 0 < hl
        all_goals
        · go_wp2_with fail
          refine HKT.out _ _ (tkTail HKZ.out (by show (S.peers.set ix q).length ≤ 16; rw [List.length_set]; exact HN16.out) (fun hz => by show (S.peers.set ix q)[ix]'hz = q; rw [List.getElem_set_self]) HOKQ.out HQL0.out HEZ.out HEF2.out HEV.out ⟨(fun e => by cases e), HAE.out.2⟩ rfl (Nat.zero_le _) (by kernel_rfl))
    · have b2 : (p.known != 0) = true := by simpa using hk0
      have hm : meetP p e.epoch = (true, ⟨[], e.epoch, p.last, p.held.map beginH⟩) := by unfold meetP; rw [if_neg hk0]
      have HMM := Lib.hid hm
      have hm1 : (if (meetP p e.epoch).1 then dataL ((ix : Int) + 1) S.epoch (meetP p e.epoch).2.known (meetP p e.epoch).2.held else []) = dataL ((ix : Int) + 1) S.epoch e.epoch (p.held.map beginH) := by rw [hm]; rfl
      have hm2 : (meetP p e.epoch).2 = ⟨[], e.epoch, p.last, p.held.map beginH⟩ := by rw [hm]
      rw [hm1, hm2, putP_at] at HKT ⊢
      clear hm1 hm2
      obtain ⟨hl, hhl⟩ : ∃ m, q.held.length = m := ⟨_, rfl⟩
      have HHL := Lib.hid hhl
      have hl32 : hl ≤ 32 := by rw [← hhl, hq]; exact H32.out
      obtain ⟨wc, hwc⟩ : ∃ W, W = wb.alloc (.cells #[] 119) := ⟨_, rfl⟩
      have hbc : Below wb.heap.size wb wc := by rw [hwc]; exact below_alloc _ _
      have hwl := HW1.out.newL
      rw [← hwc] at hwl
      have hew := HE1.out.later hbc
      have hlo : blk (some (⟨wb.heap.size, 0, none⟩ : Addr)) ≠ some eb := fun e2 => by
        have h1 := HE1.out.lt
        have h2 : wb.heap.size = eb := Option.some.inj e2
        omega
      obtain ⟨A9, ac9, o9, hAo, hwl9⟩ : ∃ (A9 : Option Addr) (ac9 : Nat) (o9 : List Ot), (A9 = none ∧ ac9 = 0 ∧ o9 = []) ∧ Wl c S F As cs Ds ds ix wc bx q A9 ac9 Dh dc Vo vc o9 (some ⟨wb.heap.size, 0, none⟩) 0 [] := ⟨none, 0, [], ⟨rfl, rfl, rfl⟩, hwl⟩
      have HAO := Lib.hid hAo
      have HW0 := Lib.hid hwl9
      have HE0 := Lib.hid (And.intro hew hlo)
      obtain ⟨lw, hlw⟩ : ∃ b, wb.heap.size = b := ⟨_, rfl⟩
      rw [hlw] at HW0 HE0
      have hql : q.L.length = 0 := by rw [hq]; rfl
      have hqk : q.known = e.epoch := by rw [hq]
      have HQL := Lib.hid (And.intro hql hqk)
      clear hbc hwl hew hlo hAo hwl9 hm hk0 hhl hq hql hqk
      clear HW1 HE1
      go_upto_region 11 with (fail)
      rw [← hwb]
      clear hwb k1 x1 f1 x0 f0
      go_upto_region 13 with (fail)
      rw [← hwc]
      clear hwc
      go_wp2_with fail
      go_loopw [12, 13] (fun a j wq => ∃ (k : Nat) (Lo : Option Addr) (lc : Nat) (l : List Hd), k ≤ hl ∧ a = .slice Lo k lc ∧ j = .int .i64 (k : Int) ∧ l.length = k ∧ Hid (l = (q.held.take k).map beginH) ∧ Hid (Wl c S F As cs Ds ds ix wq bx q A9 ac9 Dh dc Vo vc o9 Lo lc l) ∧ Hid (Cells wq eb 25 e.vals ∧ blk Lo ≠ some eb)) (fun _ j _ => hl - (intOf j).toNat)
      case atStart => exact ⟨0, _, 0, [], Nat.zero_le _, rfl, rfl, rfl, Lib.hid rfl, HW0, HE0⟩
      case round =>
        clear HW0 HE0
        obtain ⟨k, Lo, lc, l, hkl, rfl, rfl, hm, HF, HW, HEL⟩ := hrel
        have c3 := HW.out.wk.box.cell (j := 3) rfl
        rw [HHL.out] at c3
        by_cases hlt : k < hl
        · have hkh : k < q.held.length := by rw [HHL.out]; exact hlt
          obtain ⟨x, hx⟩ : ∃ x, q.held[k] = x := ⟨_, rfl⟩
          obtain ⟨g, hDg, hce⟩ := OwnG.elem fit_rhd HW.out.wk.row hkh
          rw [hx] at hce
          have HDG := Lib.hid hDg
          have HCX := Lib.hid hce
          have HF2 : Hid (l ++ [beginH x] = (q.held.take (k + 1)).map beginH) := Lib.hid (by rw [List.take_succ_eq_append_getElem hkh, List.map_append, hx, HF.out]; rfl)
          have HLN : Hid ((l ++ [beginH x]).length = k + 1) := Lib.hid (by rw [List.length_append, hm]; rfl)
          obtain ⟨n, hn⟩ : ∃ n, n = k := ⟨_, rfl⟩
          have HN : Hid (l.length = n) := Lib.hid (by rw [hm, hn])
          have HKL : Hid (k < hl ∧ (k : Int) < (hl : Int)) := Lib.hid ⟨hlt, by omega⟩
          have HNK := Lib.hid hn
          have hn32 : n ≤ 32 := by omega
          obtain ⟨we, hwe⟩ : ∃ W, W = wr := ⟨_, rfl⟩
          subst hwe
          have HK := HW
          have HE : Hid (Cells we eb 25 e.vals) := Lib.hid HEL.out.1
          have HEV2 := HEV
          clear HEV
          have HEV : Hid (blk Lo ≠ some eb) := Lib.hid HEL.out.2
          clear hce hkh hx hDg hm HW HEL
          go_upto_region 16 with (fail)
          rw [show (Value.slice Lo k lc) = Value.slice Lo n lc by rw [HNK.out]]
          clear hn
          refine Reg.region_inv (by kernel_rfl) (fun i => ([some (.slice Lo n lc), some (.pointer (some ⟨bx, 3, none⟩)), some (.slice (some ⟨g, 0, none⟩) hl dc), some (.int .i64 (k : Int)), some (.pointer (some ⟨g, k * 4, none⟩)), some (.pointer (some ⟨g, k * 4, none⟩)), some (.int .i64 x.seq), some (.pointer (some ⟨bx, 3, none⟩)), some (.slice (some ⟨g, 0, none⟩) hl dc), some (.int .i64 (k : Int)), some (.pointer (some ⟨g, k * 4, none⟩)), some (.pointer (some ⟨g, k * 4 + 1, none⟩)), some (.string x.pay), some (.agg #[.int .i64 x.seq, .string x.pay, .int .i64 4, .int .i64 8]), none, none, none] : List (Option Value)).getD i none) (fun D V W => ((D 15) = false → App1 we 119 (Hd.rvals (beginH x)) (D 14) (V 14) W) ∧ ((D 15) = true → ∃ V9 c9, (V 15) = .slice V9 (n + 1) c9 ∧ Wl c S F As cs Ds ds ix W bx q A9 ac9 Dh dc Vo vc o9 V9 c9 (l ++ [beginH x]) ∧ Cells W eb 25 e.vals ∧ blk V9 ≠ some eb) ∧ ((D 16) = true → (V 16) = (V 15))) (fun V => [(some 63, V 0), (some 64, V 1), (some 65, V 2), (some 66, V 3), (some 67, V 4), (some 68, V 5), (some 69, V 6), (some 70, V 7), (some 71, V 8), (some 72, V 9), (some 73, V 10), (some 74, V 11), (some 75, V 12), (some 76, V 13), (some 77, V 14), (some 78, V 15), (some 12, V 16)]) (by kernel_rfl) (by kernel_rfl) (fun V => rfl) ?_ ?_ ?_
          · intro V
            exact ⟨fun _ => App1.start (Below.refl _ _).drew _, fun e => (by cases e), fun e => (by cases e)⟩
          · intro i o ho
            have hi : i < 17 := (Array.getElem?_eq_some_iff.1 ho).1
            rcases i with _ | _ | _ | _ | _ | _ | _ | _ | _ | _ | _ | _ | _ | _ | _ | _ | _ | i
            rotate_right
            · omega
            all_goals obtain rfl := Option.some.inj ho
            all_goals intro D V ρ wi hE hI hDi hT hF hs hd hk
            · have e12 : ρ (.tmp 12) = .slice Lo n lc := hs 12; clear hT hF hk
              exact Reg.Gives.value (v := .slice Lo n lc) (w' := wi) (by go_simp) ⟨fun x h => Option.some.inj h, hI⟩
            · have e9 : ρ (.tmp 9) = .pointer (some ⟨bx, 0, none⟩) := hs 9; clear hT hF hk
              exact Reg.Gives.value (v := .pointer (some ⟨bx, 3, none⟩)) (w' := wi) (by go_simp) ⟨fun x h => Option.some.inj h, hI⟩
            · have e64 : ρ (.tmp 64) = .pointer (some ⟨bx, 3, none⟩) := (hd 1 64).trans (hk 1 _ rfl); have hD15 : D 15 = false := hF 6 15; clear hT hF; have hL : Below we.heap.size we wi := (hI.1 hD15).low; have x0 := (HK.out.wk.later hL).box.cell (j := 3) rfl
              rw [HHL.out, HDG.out] at x0
              exact Reg.Gives.value (v := .slice (some ⟨g, 0, none⟩) hl dc) (w' := wi) (by go_simp) ⟨fun x h => Option.some.inj h, hI⟩
            · have e13 : ρ (.tmp 13) = .int .i64 (k : Int) := hs 13; clear hT hF hk
              exact Reg.Gives.value (v := .int .i64 (k : Int)) (w' := wi) (by go_simp) ⟨fun x h => Option.some.inj h, hI⟩
            · have e65 : ρ (.tmp 65) = .slice (some ⟨g, 0, none⟩) hl dc := (hd 2 65).trans (hk 2 _ rfl); have e66 : ρ (.tmp 66) = .int .i64 (k : Int) := (hd 3 66).trans (hk 3 _ rfl); have hD15 : D 15 = false := hF 5 15; clear hT hF; have hL : Below we.heap.size we wi := (hI.1 hD15).low; have z1 := HKL.out.1; have z2 := HKL.out.2
              exact Reg.Gives.value (v := .pointer (some ⟨g, k * 4, none⟩)) (w' := wi) (by go_simp) ⟨fun x h => Option.some.inj h, hI⟩
            · have e67 : ρ (.tmp 67) = .pointer (some ⟨g, k * 4, none⟩) := (hd 4 67).trans (hk 4 _ rfl); clear hT hF hk
              exact Reg.Gives.value (v := .pointer (some ⟨g, k * 4, none⟩)) (w' := wi) (by go_simp) ⟨fun x h => Option.some.inj h, hI⟩
            · have e68 : ρ (.tmp 68) = .pointer (some ⟨g, k * 4, none⟩) := (hd 5 68).trans (hk 5 _ rfl); have hD15 : D 15 = false := hF 3 15; clear hT hF; have hL : Below we.heap.size we wi := (hI.1 hD15).low; have x0 : wi.cell? ⟨g, k * 4, none⟩ = _ := (HCX.out.later hL).cell (j := 0) rfl
              exact Reg.Gives.value (v := .int .i64 x.seq) (w' := wi) (by go_simp) ⟨fun x h => Option.some.inj h, hI⟩
            · have e9 : ρ (.tmp 9) = .pointer (some ⟨bx, 0, none⟩) := hs 9; clear hT hF hk
              exact Reg.Gives.value (v := .pointer (some ⟨bx, 3, none⟩)) (w' := wi) (by go_simp) ⟨fun x h => Option.some.inj h, hI⟩
            · have e70 : ρ (.tmp 70) = .pointer (some ⟨bx, 3, none⟩) := (hd 7 70).trans (hk 7 _ rfl); have hD15 : D 15 = false := hF 6 15; clear hT hF; have hL : Below we.heap.size we wi := (hI.1 hD15).low; have x0 := (HK.out.wk.later hL).box.cell (j := 3) rfl
              rw [HHL.out, HDG.out] at x0
              exact Reg.Gives.value (v := .slice (some ⟨g, 0, none⟩) hl dc) (w' := wi) (by go_simp) ⟨fun x h => Option.some.inj h, hI⟩
            · have e13 : ρ (.tmp 13) = .int .i64 (k : Int) := hs 13; clear hT hF hk
              exact Reg.Gives.value (v := .int .i64 (k : Int)) (w' := wi) (by go_simp) ⟨fun x h => Option.some.inj h, hI⟩
            · have e71 : ρ (.tmp 71) = .slice (some ⟨g, 0, none⟩) hl dc := (hd 8 71).trans (hk 8 _ rfl); have e72 : ρ (.tmp 72) = .int .i64 (k : Int) := (hd 9 72).trans (hk 9 _ rfl); have hD15 : D 15 = false := hF 5 15; clear hT hF; have hL : Below we.heap.size we wi := (hI.1 hD15).low; have z1 := HKL.out.1; have z2 := HKL.out.2
              exact Reg.Gives.value (v := .pointer (some ⟨g, k * 4, none⟩)) (w' := wi) (by go_simp) ⟨fun x h => Option.some.inj h, hI⟩
            · have e73 : ρ (.tmp 73) = .pointer (some ⟨g, k * 4, none⟩) := (hd 10 73).trans (hk 10 _ rfl); clear hT hF hk
              exact Reg.Gives.value (v := .pointer (some ⟨g, k * 4 + 1, none⟩)) (w' := wi) (by go_simp) ⟨fun x h => Option.some.inj h, hI⟩
            · have e74 : ρ (.tmp 74) = .pointer (some ⟨g, k * 4 + 1, none⟩) := (hd 11 74).trans (hk 11 _ rfl); have hD15 : D 15 = false := hF 3 15; clear hT hF; have hL : Below we.heap.size we wi := (hI.1 hD15).low; have x0 := (HCX.out.later hL).cell (j := 1) rfl
              exact Reg.Gives.value (v := .string x.pay) (w' := wi) (by go_simp) ⟨fun x h => Option.some.inj h, hI⟩
            · have e69 : ρ (.tmp 69) = .int .i64 x.seq := (hd 6 69).trans (hk 6 _ rfl); have e75 : ρ (.tmp 75) = .string x.pay := (hd 12 75).trans (hk 12 _ rfl); have hc := hE.const; clear hT hF hk
              exact Reg.Gives.value (v := .agg #[.int .i64 x.seq, .string x.pay, .int .i64 4, .int .i64 8]) (w' := wi) (by go_simp) ⟨fun x h => Option.some.inj h, hI⟩
            · have e76 : ρ (.tmp 76) = .agg #[.int .i64 x.seq, .string x.pay, .int .i64 4, .int .i64 8] := (hd 13 76).trans (hk 13 _ rfl); have hD14 : D 14 = false := hDi; have hD15 : D 15 = false := hF 1 15; have hD16 : D 16 = false := hF 1 16; clear hT hF; have h1 := hI.1 hD15
              rw [hD14] at h1
              exact Reg.Gives.value (v := .slice (some ⟨wi.heap.size, 0, none⟩) 1 1) (w' := wi.alloc (.cells #[.int .i64 x.seq, .string x.pay, .int .i64 4, .int .i64 8] 119)) (by go_simp) ⟨fun x h => (by cases h), by show ((D 15) = false → App1 we 119 (Hd.rvals (beginH x)) true (Value.slice (some ⟨wi.heap.size, 0, none⟩) 1 1) (wi.alloc (.cells #[.int .i64 x.seq, .string x.pay, .int .i64 4, .int .i64 8] 119))) ∧ ((D 15) = true → ∃ V9 c9, (V 15) = .slice V9 (n + 1) c9 ∧ Wl c S F As cs Ds ds ix (wi.alloc (.cells #[.int .i64 x.seq, .string x.pay, .int .i64 4, .int .i64 8] 119)) bx q A9 ac9 Dh dc Vo vc o9 V9 c9 (l ++ [beginH x]) ∧ Cells (wi.alloc (.cells #[.int .i64 x.seq, .string x.pay, .int .i64 4, .int .i64 8] 119)) eb 25 e.vals ∧ blk V9 ≠ some eb) ∧ ((D 16) = true → (V 16) = (V 15)); exact ⟨fun _ => h1.mk1 _ rfl, fun e => (by rw [hD15] at e; cases e), fun e => (by rw [hD16] at e; cases e)⟩⟩
            · have e63 : ρ (.tmp 63) = .slice Lo n lc := (hd 0 63).trans (hk 0 _ rfl); have e77 : ρ (.tmp 77) = V 14 := hd 14 77; have hD14 : D 14 = true := hT 1 14; have hD15 : D 15 = false := hDi; have hD16 : D 16 = false := hF 1 16; clear hT hF; have h1 := hI.1 hD15
              rw [hD14] at h1
              obtain ⟨g2, hx2, hcx⟩ := h1.x rfl
              rw [hx2] at e77
              obtain ⟨V8, c8, w8, hrun, hk8, ho8, hn8⟩ := HK.out.app2 h1.low (beginH x) hcx (by have := HN.out; omega)
              rw [HN.out] at hrun
              have hP := And.intro hk8 (And.intro (cells_only HE.out ho8 HEV.out) (fun e => (hn8 eb e).elim HEV.out fun e2 => (by have := HE.out.lt; have := h1.low.size; omega)))
              exact Reg.Gives.value (v := .slice V8 (n + 1) c8) (w' := w8) (Reg.exec_append rfl e63 e77 hrun) ⟨fun x h => (by cases h), by show (true = false → App1 we 119 (Hd.rvals (beginH x)) (D 14) (V 14) w8) ∧ (true = true → ∃ V9 c9, (Value.slice V8 (n + 1) c8) = .slice V9 (n + 1) c9 ∧ Wl c S F As cs Ds ds ix w8 bx q A9 ac9 Dh dc Vo vc o9 V9 c9 (l ++ [beginH x]) ∧ Cells w8 eb 25 e.vals ∧ blk V9 ≠ some eb) ∧ ((D 16) = true → (V 16) = (Value.slice V8 (n + 1) c8)); exact ⟨fun e => (by cases e), fun _ => ⟨V8, c8, rfl, hP⟩, fun e => (by rw [hD16] at e; cases e)⟩⟩
            · have e78 : ρ (.tmp 78) = V 15 := hd 15 78; have hD15 : D 15 = true := hT 1 15; clear hT hF; have h2 := hI.2.1 hD15
              exact Reg.Gives.value (v := V 15) (w' := wi) (by go_simp) ⟨fun x h => (by cases h), by show ((D 15) = false → App1 we 119 (Hd.rvals (beginH x)) (D 14) (V 14) wi) ∧ ((D 15) = true → ∃ V9 c9, (V 15) = .slice V9 (n + 1) c9 ∧ Wl c S F As cs Ds ds ix wi bx q A9 ac9 Dh dc Vo vc o9 V9 c9 (l ++ [beginH x]) ∧ Cells wi eb 25 e.vals ∧ blk V9 ≠ some eb) ∧ (true = true → (V 15) = (V 15)); exact ⟨fun e => (by rw [hD15] at e; cases e), fun _ => h2, fun _ => rfl⟩⟩
          · intro V wf hk hI
            simp only [Reg.putsO, List.foldl_cons, List.foldl_nil, Act.put, List.setIfInBounds_toArray, List.set_cons_succ, List.set_cons_zero]
            replace hI : (true = false → App1 we 119 (Hd.rvals (beginH x)) true (V 14) wf) ∧ (true = true → ∃ V9 c9, (V 15) = .slice V9 (n + 1) c9 ∧ Wl c S F As cs Ds ds ix wf bx q A9 ac9 Dh dc Vo vc o9 V9 c9 (l ++ [beginH x]) ∧ Cells wf eb 25 e.vals ∧ blk V9 ≠ some eb) ∧ (true = true → (V 16) = (V 15)) := hI
            clear hk
            obtain ⟨_, hI2, hI3⟩ := hI
            obtain ⟨L9, l9, hv9, hk9, he9, hn9⟩ := hI2 rfl
            rw [hI3 rfl, hv9]
            have HK9 := Lib.hid hk9
            have HE9 := Lib.hid (And.intro he9 hn9)
            rw [HNK.out]
            clear hI2 hI3 hk9 he9 hn9 hv9
            go_wp2_with fail
            go_roundw
            case rel => exact ⟨k + 1, L9, l9, l ++ [beginH x], by omega, rfl, by go_num, HLN.out, HF2, HK9, HE9⟩
            case measure => simp [intOf]; omega
        · obtain rfl : k = hl := by omega
          have hfull : q.held.take k = q.held := List.take_of_length_le (by rw [HHL.out]; exact Nat.le_refl _)
          have hf := HF.out
          rw [hfull] at hf
          have HFF := Lib.hid hf
          have HM := Lib.hid hm
          have hws := HW.out.set
          rw [hm] at hws
          obtain ⟨q2, hq2⟩ : ∃ q2 : Pm, q2 = ⟨q.L, q.known, q.last, l⟩ := ⟨_, rfl⟩
          rw [← hq2] at hws
          obtain ⟨wd, hwd⟩ : ∃ W, W = wr.setCell ⟨bx, 3, none⟩ (.slice Lo k lc) := ⟨_, rfl⟩
          rw [← hwd] at hws
          have hed : Cells wd eb 25 e.vals := by
            rw [hwd]
            exact HEL.out.1.far (p := ⟨bx, 3, none⟩) HEF.out.2.1 _
          have f3 := HW.out.wk.box.frozen (j := 3) (by simp [rpv])
          obtain ⟨hthere, F', As', cs', Ds', ds', hkb, hF'⟩ := hws.back2
          have hpc := (hws.ses.peer ix HI.out).1
          have t0 : wd.cell? ⟨c.pb, ix * 4, none⟩ = _ := hpc.cell (j := 0) rfl
          have t1 := hpc.cell (j := 1) rfl
          have t2 := hpc.cell (j := 2) rfl
          have t3 := hpc.cell (j := 3) rfl
          have u0 : wd.frozen? ⟨c.pb, ix * 4, none⟩ = false := hpc.frozen (j := 0) (by simp [rpv])
          have u1 := hpc.frozen (j := 1) (by simp [rpv])
          have u2 := hpc.frozen (j := 2) (by simp [rpv])
          have u3 := hpc.frozen (j := 3) (by simp [rpv])
          have z0 := hws.box.cell (j := 0) rfl
          have z1 := hws.box.cell (j := 1) rfl
          have z2 := hws.box.cell (j := 2) rfl
          have z3 := hws.box.cell (j := 3) rfl
          have c2 := hws.ses.cel.cell (j := 2) rfl
          obtain ⟨np, hnp⟩ : ∃ m, S.peers.length = m := ⟨_, rfl⟩
          rw [hnp] at c2
          have hxn : ix < np := by rw [← hnp]; exact HI.out
          have hx16 : ix < 16 := by have := HI.out; have := HN16.out; omega
          have hcap : np ≤ c.pc := by rw [← hnp]; exact hws.ses.cap
          have hiw : IntKind.i64.wrap ((ix : Int) + 1 - 1) = (ix : Int) := by rw [IntKind.wrap_i64]; omega
          have hq2l : q2.L.length = 0 := by rw [hq2]; exact HQL.out.1
          have hq2k : q2.known = e.epoch := by rw [hq2]; exact HQL.out.2
          have hq2h : q2.held.length = k := by rw [hq2]; exact hm
          rw [hq2l] at z0
          rw [hq2k] at z1
          rw [hq2h] at z3
          have HKB := Lib.hid hkb
          have HF' := Lib.hid hF'
          have HED := Lib.hid hed
          have HQ2 := Lib.hid hq2
          have HQ2F := Lib.hid (And.intro hq2l (And.intro hq2k hq2h))
          have HQM : Hid (q2 = ⟨[], e.epoch, p.last, p.held.map beginH⟩) := Lib.hid (by rw [hq2, hf, HQ.out])
          clear hthere hkb hF' hnp hpc hws hm hf hfull hed hq2 hq2l hq2k hq2h
          go_upto_region 18 with (fail)
          rw [← hwd]
          clear hwd
          go_region
          obtain ⟨wz, hwz⟩ : ∃ W, W = ((((wd.setCell ⟨c.pb, ix * 4, none⟩ (.slice A9 0 ac9)).setCell ⟨c.pb, ix * 4 + 1, none⟩ (.int .i64 e.epoch)).setCell ⟨c.pb, ix * 4 + 2, none⟩ (.int .i64 (q2.last + 1))).setCell ⟨c.pb, ix * 4 + 3, none⟩ (.slice Lo k lc)).drew := ⟨_, rfl⟩
          have hkz : Wk c { S with peers := S.peers.set ix q2 } F' As' cs' Ds' ds' ix wz bx q2 A9 ac9 Lo lc Vo vc o9 := by
            rw [hwz]
            have h9 := HKB.out.later (Below.refl _ _).drew
            unfold rpv at h9
            rw [HQ2F.out.1, HQ2F.out.2.1, HQ2F.out.2.2] at h9
            exact h9
          have hez : Cells wz eb 25 e.vals := by
            rw [hwz]
            exact (((((HED.out).far (p := ⟨c.pb, ix * 4, none⟩) HPB.out _).far (p := ⟨c.pb, ix * 4 + 1, none⟩) HPB.out _).far (p := ⟨c.pb, ix * 4 + 2, none⟩) HPB.out _).far (p := ⟨c.pb, ix * 4 + 3, none⟩) HPB.out _).later (Below.refl _ _).drew
          rw [← hwz]
          have HEF2 : Hid (¬ F' eb ∧ eb ≠ bx ∧ c.w1.heap.size ≤ eb) := Lib.hid ⟨fun e2 => by
            rcases HF'.out eb e2 with e3 | e3 | e3
            · exact HEF.out.1 e3
            · rw [HAO.out.1] at e3; cases e3
            · exact HEL.out.2 e3, HEF.out.2⟩
          have HAL : Hid (blk A9 ≠ some eb ∧ blk Lo ≠ some eb) := Lib.hid ⟨(by rw [HAO.out.1]; intro e3; cases e3), HEL.out.2⟩
          have hkz2 : Wk c { S with peers := S.peers.set ix q2 } F' As' cs' Ds' ds' ix wz bx q2 A9 ac9 Lo lc Vo vc [] := by
            rw [← HAO.out.2.2]
            exact hkz
          have HKZ := Lib.hid hkz2
          have HEZ := Lib.hid (And.intro hez HEV.out)
          have hS2 : ∀ hz : ix < (S.peers.set ix q2).length, (S.peers.set ix q2)[ix]'hz = q2 := fun hz => by rw [List.getElem_set_self]
          have HS2 : Hid (∀ hz : ix < ({ S with peers := S.peers.set ix q2 } : Sm).peers.length, ({ S with peers := S.peers.set ix q2 } : Sm).peers[ix]'hz = q2) := Lib.hid hS2
          have HS16 : Hid (({ S with peers := S.peers.set ix q2 } : Sm).peers.length ≤ 16) := Lib.hid (by show (S.peers.set ix q2).length ≤ 16; rw [List.length_set]; exact HN16.out)
          have HSI : Hid (ix < ({ S with peers := S.peers.set ix q2 } : Sm).peers.length) := Lib.hid (by show ix < (S.peers.set ix q2).length; rw [List.length_set]; exact HI.out)
          have HOK2 : Hid (Pok N q2) := Lib.hid (by
            have h9 : Pok N (meetP p e.epoch).2 := meetP_ok HOK.out HEP.out.1 HEP.out.2
            rw [HMM.out] at h9
            rw [HQM.out]
            exact h9)
          clear hwz hkz hkz2 hez hS2 z0 z1 z2 z3 c2 t0 t1 t2 t3 u0 u1 u2 u3 HKB c3 f3 HW HEL
          go_wp2_with fail
          go_loopw [10, 14] (fun a j wq => ∃ (m : Nat) (V9 : Option Addr) (v9 : Nat), m ≤ k ∧ a = .slice V9 m v9 ∧ j = .int .i64 (m : Int) ∧ Hid (Wk c { S with peers := S.peers.set ix q2 } F' As' cs' Ds' ds' ix wq bx q2 A9 ac9 Lo lc V9 v9 (dataL ((ix : Int) + 1) S.epoch q2.known (q2.held.take m))) ∧ Hid (Cells wq eb 25 e.vals ∧ blk V9 ≠ some eb)) (fun _ j _ => k - (intOf j).toNat)
          case atStart => exact ⟨0, Vo, vc, Nat.zero_le _, rfl, rfl, HKZ, HEZ⟩
          case round =>
            clear HKZ HEZ
            obtain ⟨m, V9, v9, hmk, rfl, rfl, HKM, HEM⟩ := hrel
            have c3 := HKM.out.box.cell (j := 3) rfl
            rw [HQ2F.out.2.2] at c3
            by_cases hlt2 : m < k
            · have hmh : m < q2.held.length := by rw [HQ2F.out.2.2]; exact hlt2
              obtain ⟨x, hx⟩ : ∃ x, q2.held[m] = x := ⟨_, rfl⟩
              obtain ⟨g, rfl, hce⟩ := OwnG.elem fit_rhd HKM.out.row hmh
              rw [hx] at hce
              have y0 : wr.cell? ⟨g, m * 4, none⟩ = _ := hce.cell (j := 0) rfl
              have y1 := hce.cell (j := 1) rfl
              have y2 := hce.cell (j := 2) rfl
              have y3 := hce.cell (j := 3) rfl
              have hrd := rdata_any HKM.out.ses HS16.out ix HSI.out x.seq x.left (min (2 * x.delay) 16) x.pay
              rw [HS2.out] at hrd
              have HRD := Lib.hid hrd
              have hom : (dataL ((ix : Int) + 1) S.epoch q2.known (q2.held.take m)).length = m := by unfold dataL; rw [List.length_map, List.length_take]; omega
              have HOM := Lib.hid hom
              have HDT : Hid (dataL ((ix : Int) + 1) S.epoch q2.known (q2.held.take (m + 1)) = dataL ((ix : Int) + 1) S.epoch q2.known (q2.held.take m) ++ [outH ((ix : Int) + 1) S.epoch q2.known x]) := Lib.hid (by unfold dataL; rw [List.take_succ_eq_append_getElem hmh, List.map_append, hx]; rfl)
              clear hrd hom hx hce hmh
              go_wp2_with fail
              refine HRD.out.mono ?_
              rintro r wh ⟨rfl, hbh⟩
              have hba := below_alloc wh (.cells #[.int .i64 ((ix : Int) + 1), .int .i64 1, .int .i64 S.epoch, .int .i64 q2.known, .int .i64 x.seq, .string x.pay] 121)
              obtain ⟨V2, v2, w2, hrun, hk2, ho2, hn2⟩ := HKM.out.app2 (hbh.trans (hba.mono hbh.size)) (outH ((ix : Int) + 1) S.epoch q2.known x) (cells_new wh _ _ _ rfl) (by have := HOM.out; omega)
              rw [HOM.out] at hrun
              rw [← HDT.out] at hk2
              have HRUN := Lib.hid hrun
              have HK2 := Lib.hid hk2
              have HE2 : Hid (Cells w2 eb 25 e.vals ∧ blk V2 ≠ some eb) := Lib.hid ⟨cells_only HEM.out.1 ho2 HEM.out.2, fun e2 => (hn2 eb e2).elim HEM.out.2 fun e3 => by
                have h1 := HEM.out.1.lt
                have h2 := hbh.size
                have h3 := hba.size
                omega⟩
              clear hbh hba hrun hk2 ho2 hn2 HRD HKM HEM y0 y1 y2 y3 c3
              go_wp2_with (at_builtin
                           refine Lib.wpList_append_run _ rfl (.tmp 100) (.tmp 109) 47 47 rfl (.slice V9 m v9) (.slice (some ⟨wh.heap.size, 0, none⟩) 1 1) rfl rfl _ _ HRUN.out ?_)
              go_roundw
              case rel => exact ⟨m + 1, V2, v2, by omega, rfl, by go_num, HK2, HE2⟩
              case measure => simp [intOf]; omega
            · obtain rfl : m = k := by omega
              have hfl2 : q2.held.take m = q2.held := List.take_of_length_le (by rw [HQ2F.out.2.2]; exact Nat.le_refl _)
              have hkm := HKM.out
              rw [hfl2] at hkm
              have hdd : dataL ((ix : Int) + 1) S.epoch q2.known q2.held = dataL ((ix : Int) + 1) S.epoch e.epoch (p.held.map beginH) := by rw [HQM.out]
              have hom2 : (dataL ((ix : Int) + 1) S.epoch q2.known q2.held).length = m := by unfold dataL; rw [List.length_map]; exact HQ2F.out.2.2
              rw [hdd] at hkm hom2
              have HKM2 := Lib.hid hkm
              have HOM2 := Lib.hid hom2
              have hkt := HKT.out
              rw [show (⟨[], e.epoch, p.last, p.held.map beginH⟩ : Pm) = q2 from HQM.out.symm] at hkt
              have HKT2 := Lib.hid hkt
              clear hkm hfl2 HKM HKT hkt hdd hom2
              go_wp2_with fail
              exact HKT2.out _ _ (tkTail HKM2.out HS16.out HS2.out HOK2.out (by rw [HQ2F.out.1]; exact Nat.zero_le _) HEM.out.1 HEF2.out HEM.out.2 HAL.out HOM2.out (by omega) (by kernel_rfl))
  · rw [if_neg hlt] at HKT ⊢
    have b1 : decide (e.epoch > p.known) = false := decide_eq_false hlt
    clear hlt
    go_wp2_with fail
    exact HKT.out _ _ (tkTail HK.out HN16.out HKQ.out HOK.out HLL.out HE.out HEF.out HEV.out HAE.out rfl (Nat.zero_le _) (by kernel_rfl))
end Go.Proofs.Ytjfejfhdohpfbaa.Ses
