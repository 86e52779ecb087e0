/-
  Layer 14, the document's session: what is sent. Conditions: none.
-/
import Derived.Test.YtjfejfhdohpfbaaSesWk
import Derived.Test.YtjfejfhdohpfbaaSub
namespace Go.Proofs.Ytjfejfhdohpfbaa.Ses
set_option maxRecDepth 100000
open Go.RowKit Go.Deep Go.Proofs.Ytjfejfhdohpfbaa.Mem Go.Proofs.Ytjfejfhdohpfbaa.Win

/-- What is owed at the end of Send. -/
def SndEnds (B rb : Nat) (F0 : Nat → Prop) (w1 : World) (R : List Ot × Int × Sm) (e : Ending) (w' : World) : Prop :=
  ∃ V vc F', e = .returned (.tuple #[.slice V R.1.length vc, .int .i64 R.2.1]) ∧ OwnG 121 6 Ot.vals w1.heap.size w' (.slice V R.1.length vc) R.1 ∧ RStep B F0 w1 rb R.2.2 F' w' ∧ ∀ k, blk V = some k → ¬ F' k
theorem hold_take {p : Pm} {ss : List ByteArray} {k : Nat} (hk : k < ss.length) : (holdP p (ss.take k)).last = p.last + k ∧ holdP p (ss.take (k + 1)) = ⟨p.L, p.known, p.last + k + 1, (holdP p (ss.take k)).held ++ [⟨p.last + k + 1, ss[k], 4, 4⟩]⟩ ∧
    newHd p.last (ss.take (k + 1)) = newHd p.last (ss.take k) ++ [⟨p.last + k + 1, ss[k], 4, 4⟩] := by
  have ht : ss.take (k + 1) = ss.take k ++ [ss[k]] := by rw [List.take_add_one, List.getElem?_eq_getElem hk]; rfl
  have hl : (ss.take k).length = k := by rw [List.length_take]; omega
  have hn : newHd p.last (ss.take (k + 1)) = newHd p.last (ss.take k) ++ [⟨p.last + k + 1, ss[k], 4, 4⟩] := by rw [ht, newHd_snoc, hl]
  refine ⟨by show p.last + ((ss.take k).length : Int) = _; rw [hl], ?_, hn⟩
  unfold holdP
  rw [hn, ← List.append_assoc, List.length_take, Nat.min_eq_left (by omega)]
  congr 1
  omega
set_option maxHeartbeats 4000000 in
theorem sendTail {c : Ctx} {S : Sm} {F : Nat → Prop} {As Ds : Nat → Option Addr} {cs ds : Nat → Nat} {ix bx n cap N ac d0 : Nat} {A D0 : Option Addr} {wr : World} {p : Pm} {SA : Option Addr} {ss : List ByteArray} (hk : Wk c S F As cs Ds ds ix wr bx p A ac D0 d0 none 0 [])
    (hn16 : S.peers.length ≤ 16) (hkn : ∀ hz : ix < S.peers.length, S.peers[ix]'hz = p) (hok : Pok N p) (hN : N ≤ 1000000000000) (hn : ss.length = n) (hs : Strs c.w1 SA ss) (hF : ∀ k, c.F0 k → c.B ≤ k) (hsb : ∀ ad, SA = some ad → ss ≠ [] → ad.block < c.B) (hroom : roomP p n = true)
    {cr cc : Code} {K : Act → World → Prop} (hK : ∀ a w, cc.wp Try.prog (bodyPost Try.prog Try.f19 (fun r w' => SndEnds c.B c.rb c.F0 c.w1 (dataL ((ix : Int) + 1) S.epoch p.known (newHd p.last ss), 0, { S with peers := S.peers.set ix (holdP p ss) }) r w')) a w → K a w) (hr : cr = sub [1, 1, 1, 1, 1, 1, 0] ((Try.f19.body).getD .skip)) (hc : cc = sub [1, 1, 1, 1, 1, 1, 1] ((Try.f19.body).getD .skip)) {s3 s4 s5 s6 s7 s8 s10 s11 s12 s13 s14 s15 s16 s17 s18 s19 s20 s21 s22 s23 s24 s25 s26 s27 s28 s29 s30 s31 s32 s33 s34 s35 s36 s37 s38 s39 s40 s41 s42 s43 s44 s45 s46 s47 s48 s49 s50 s51 s52 s53 s54 s55 s56 s57 s58 s59 s60 s61 s62 s63 s64 s65 s66 s67 s68 s69 s70 s71 s72 s73 s74 s75 s76 s77 s78 s79 s80 s81 s82 s83 s84 s85 s86 s87 s88 s89 s90 s91 s92 s93 s94 s95 s96 s97 s98 s99 s100 s101 s102 s103 s104 s105 s106 s107 s108 s109 s110 s111 s112 s113 : Value} :
    cr.wp Try.prog (Exit.then K (bodyPost Try.prog Try.f19 (fun r w' => SndEnds c.B c.rb c.F0 c.w1 (dataL ((ix : Int) + 1) S.epoch p.known (newHd p.last ss), 0, { S with peers := S.peers.set ix (holdP p ss) }) r w'))) { tmps := List.toArray ((.pointer (some ⟨c.rb, 0, none⟩))::(.int .i64 ((ix : Int) + 1))::(.slice SA n cap)::s3::s4::s5::s6::s7::s8::(.pointer (some ⟨bx, 0, none⟩))::s10::s11::s12::s13::s14::s15::s16::s17::s18::s19::s20::s21::s22::s23::s24::s25::s26::s27::s28::s29::s30::s31::s32::s33::s34::s35::s36::s37::s38::s39::s40::s41::s42::s43::s44::s45::s46::s47::s48::s49::s50::s51::s52::s53::s54::s55::s56::s57::s58::s59::s60::s61::s62::s63::s64::s65::s66::s67::s68::s69::s70::s71::s72::s73::s74::s75::s76::s77::s78::s79::s80::s81::s82::s83::s84::s85::s86::s87::s88::s89::s90::s91::s92::s93::s94::s95::s96::s97::s98::s99::s100::s101::s102::s103::s104::s105::s106::s107::s108::s109::s110::s111::s112::s113::[]), defers := [] } wr := by
  conv at hc => rhs; whnf
  conv at hr => rhs; whnf
  subst hc
  subst hr
  have HW0 := Lib.hid hk.newV
  have HSTR : Hid (∀ {w : World} {q : Pm} {A D V : Option Addr} {ac dc vc : Nat} {o : List Ot}, Wk c S F As cs Ds ds ix w bx q A ac D dc V vc o → Strs w SA ss) := Lib.hid fun h => h.strs hF hs hsb
  have hrr := of_decide_eq_true hroom
  have HR1 : Hid (p.held.length + n ≤ 32) := Lib.hid hrr.1
  have hn32 : n ≤ 32 := by omega
  have HKN := Lib.hid hkn
  have HOK := Lib.hid hok
  have HNS := Lib.hid hn
  have hix : ix < S.peers.length := hk.hi
  have hix16 : ix < 16 := by omega
  have hl0 := hok.l0
  have hl1 := hok.l1
  obtain ⟨pl, hpl⟩ : ∃ l, p.last = l := ⟨_, rfl⟩
  have HPL := Lib.hid hpl
  rw [hpl] at hl0 hl1
  have hHI := Lib.hid hix
  obtain ⟨w2, hw2⟩ : ∃ W, W = wr.alloc (.cells #[] 121) := ⟨_, rfl⟩
  rw [← hw2] at HW0
  clear hk hs hsb hrr hroom hkn hok hF hn hpl hix
  go_upto_region 13 with (fail)
  rw [← hw2]
  clear hw2
  go_wp2_with fail
  go_loopw [11, 12] (fun a j wq => ∃ (k : Nat) (Dh : Option Addr) (dc : Nat) (Vo : Option Addr) (vc : Nat), k ≤ n ∧ a = .slice Vo k vc ∧ j = .int .i64 (k : Int) ∧ Hid (Wk c S F As cs Ds ds ix wq bx (holdP p (ss.take k)) A ac Dh dc Vo vc (dataL ((ix : Int) + 1) S.epoch p.known (newHd p.last (ss.take k))))) (fun _ j _ => n - (intOf j).toNat)
  case atStart =>
    refine ⟨0, D0, d0, _, 0, Nat.zero_le _, rfl, rfl, Lib.hid ?_⟩
    have h := HW0.out
    have e : holdP p (ss.take 0) = p := by simp [holdP, newHd]
    rw [e]
    exact h
  case round =>
    clear HW0
    obtain ⟨k, Dh, dc, Vo, vc, hkn, rfl, rfl, HK⟩ := hrel
    by_cases hlt : k < n
    · have hks : k < ss.length := by rw [HNS.out]; exact hlt
      obtain ⟨ht1, ht2, ht3⟩ := hold_take (p := p) hks
      obtain ⟨s, hss⟩ : ∃ s, ss[k] = s := ⟨_, rfl⟩
      rw [hss] at ht2 ht3
      rw [HPL.out] at ht1
      obtain ⟨ad, rfl, hcl, hsz⟩ := HSTR.out HK.out k hks
      rw [hss] at hcl hsz
      obtain ⟨q, hq⟩ : ∃ q, holdP p (ss.take k) = q := ⟨_, rfl⟩
      rw [hq] at HK ht1 ht2
      have z2 := HK.out.box.cell (j := 2) rfl
      rw [ht1] at z2
      have hba := below_alloc wr (.cells #[.int .i64 0, .string ⟨#[]⟩, .int .i64 0, .int .i64 0] 119)
      have hcl2 := (hba.cell (block_of_cell hcl)).trans hcl
      have z22 := (hba.cell (block_of_cell z2)).trans z2
      clear hss hks
      go_upto_region 16 with (fail)
      go_region
      obtain ⟨x, hx⟩ : ∃ x : Hd, x = ⟨pl + k + 1, s, 4, 4⟩ := ⟨_, rfl⟩
      obtain ⟨we, hwe⟩ : ∃ W, W = (wr.alloc (.cells #[.int .i64 (pl + k + 1), .string s, .int .i64 4, .int .i64 8] 119)).drew := ⟨_, rfl⟩
      have hbe : Below wr.heap.size wr we := by rw [hwe]; exact (below_alloc _ _).drew
      have hce : Cells we wr.heap.size 119 (Hd.rvals x) := by
        rw [hwe, hx]
        exact (cells_new wr 119 [.int .i64 (pl + k + 1), .string s, .int .i64 4, .int .i64 8] _ rfl).later (Below.refl _ _).drew
      rw [← hwe]
      obtain ⟨hb, hhb⟩ : ∃ b, wr.heap.size = b := ⟨_, rfl⟩
      have HNB : Hid (hb ≠ bx) := Lib.hid (by have := HK.out.box.lt; omega)
      rw [hhb] at hce ⊢
      have HC : Hid (Cells we hb 119 [.int .i64 x.seq, .string x.pay, .int .i64 x.left, .int .i64 (min (2 * x.delay) 16)]) := Lib.hid hce
      have hk2 := HK.out.later hbe
      have hqh : q.held.length ≤ 32 := by
        rw [← hq]
        show (p.held ++ newHd p.last (ss.take k)).length ≤ 32
        rw [List.length_append, newHd_len, List.length_take]
        have := HR1.out
        omega
      obtain ⟨_, hsl⟩ := OwnG.sl fit_rhd hk2.row
      have hnil : Dh = none → dc = 0 := by
        intro e
        have h := hk2.row
        unfold OwnG at h
        rcases h.2 with ⟨e2, _⟩ | ⟨g, cap, cur, e2, _⟩
        · simp only [Value.slice.injEq] at e2; exact e2.2.2
        · simp only [Value.slice.injEq] at e2; rw [e] at e2; cases e2.1
      have HSL : Hid ((∀ wi, Below we.heap.size we wi → Sl wi Dh 4 (q.held.map Hd.rvals)) ∧ (Dh = none → dc = 0)) := Lib.hid ⟨fun wi h => hsl.later h, hnil⟩
      have HLN := Lib.hid hqh
      obtain ⟨hl, hhl⟩ : ∃ l, q.held.length = l := ⟨_, rfl⟩
      have HHL := Lib.hid hhl
      obtain ⟨o, ho⟩ : ∃ o, dataL ((ix : Int) + 1) S.epoch p.known (newHd p.last (ss.take k)) = o := ⟨_, rfl⟩
      rw [ho] at hk2
      have hol : o.length = k := by rw [← ho]; simp [dataL, newHd_len]; have := HNS.out; omega
      have HOL := Lib.hid hol
      have HK2 := Lib.hid hk2
      have HT := Lib.hid (And.intro ht1 (And.intro ht2 ht3))
      have HQE : Hid (q.L = p.L ∧ q.known = p.known) := Lib.hid ⟨by rw [← hq]; rfl, by rw [← hq]; rfl⟩
      have HX := Lib.hid hx
      have HO := Lib.hid ho
      clear HK
      have HK := HK2
      clear HK2 hwe hbe hce hk2 hqh hsl hnil hhl ho hol ht1 ht2 ht3 hx hcl hcl2 z2 z22 hba hhb hq
      go_upto_region 17 with (fail)
      refine Reg.region_inv (by kernel_rfl) (fun i => ([none, some (.pointer (some ⟨bx, 3, none⟩)), some (.slice Dh hl dc), none, some (.agg #[.int .i64 x.seq, .string x.pay, .int .i64 x.left, .int .i64 (min (2 * x.delay) 16)]), none, none, some (.pointer (some ⟨bx, 3, none⟩)), none] : List (Option Value)).getD i none) (fun D V W => ((D 8) = false → ApG 119 4 Hd.rvals we (D 0) (cond (D 6) (V 6) (cond (D 3) (V 3) (V 0))) (cond (D 6) (q.held ++ [x]) (cond (D 3) (q.held) [])) (D 5) (V 5) x W ) ∧ ((D 8) = true → ∃ D9 c9, Wk c S F As cs Ds ds ix W bx ⟨q.L, q.known, q.last, q.held ++ [x]⟩ A ac D9 c9 Vo vc o ∧ Cells W hb 119 [.int .i64 x.seq, .string x.pay, .int .i64 x.left, .int .i64 (min (2 * x.delay) 16)])) (fun V => [(some 86, V 0), (some 87, V 1), (some 88, V 2), (some 89, V 3), (some 90, V 4), (some 91, V 5), (some 92, V 6), (some 93, V 7), (none, V 8)]) (by kernel_rfl) (by kernel_rfl) (fun V => rfl) ?_ ?_ ?_
      · intro V
        exact ⟨fun _ => ApG.start (Below.refl _ _).drew _ _ _ _, fun e => (by cases e)⟩
      · intro i o ho
        have hi : i < 9 := (Array.getElem?_eq_some_iff.1 ho).1
        rcases i with _ | _ | _ | _ | _ | _ | _ | _ | _ | i
        rotate_right
        · omega
        all_goals obtain rfl := Option.some.inj ho
        all_goals intro D V ρ wi hE hI hDi hT hF hs hd hk
        · have hD0 : D 0 = false := hDi; have hD3 : D 3 = false := hF 1 3; have hD6 : D 6 = false := hF 2 6; have hD8 : D 8 = false := hF 1 8; clear hT hF; have h1 := hI.1 hD8
          rw [hD0] at h1
          rw [hD3] at h1
          rw [hD6] at h1
          simp only [cond_false] at h1
          exact Reg.Gives.value (v := .slice (some ⟨wi.heap.size, 0, none⟩) 0 0) (w' := wi.alloc (.cells #[] 119)) (by go_simp) ⟨fun x h => (by cases h), by show ((D 8) = false → ApG 119 4 Hd.rvals we true (cond (D 6) (V 6) (cond (D 3) (V 3) (.slice (some ⟨wi.heap.size, 0, none⟩) 0 0))) (cond (D 6) (q.held ++ [x]) (cond (D 3) (q.held) [])) (D 5) (V 5) x (wi.alloc (.cells #[] 119)) ) ∧ ((D 8) = true → ∃ D9 c9, Wk c S F As cs Ds ds ix (wi.alloc (.cells #[] 119)) bx ⟨q.L, q.known, q.last, q.held ++ [x]⟩ A ac D9 c9 Vo vc o ∧ Cells (wi.alloc (.cells #[] 119)) hb 119 [.int .i64 x.seq, .string x.pay, .int .i64 x.left, .int .i64 (min (2 * x.delay) 16)]); rw [hD3, hD6, hD8]; simp only [cond_false]; exact ⟨fun _ => h1.mkz, fun e => by cases e⟩⟩
        · have e9 : ρ (.tmp 9) = .pointer (some ⟨bx, 0, none⟩) := hs 9; clear hT hF hk
          exact Reg.Gives.value (v := .pointer (some ⟨bx, 3, none⟩)) (w' := wi) (by go_simp) ⟨fun x h => Option.some.inj h, hI⟩
        · have e87 : ρ (.tmp 87) = .pointer (some ⟨bx, 3, none⟩) := (hd 1 87).trans (hk 1 _ rfl); have hD8 : D 8 = false := hF 1 8; clear hT hF; have hL : Below we.heap.size we wi := (hI.1 hD8).low; have x0 := (HK.out.later hL).box.cell (j := 3) rfl
          rw [HHL.out] at x0
          exact Reg.Gives.value (v := .slice Dh hl dc) (w' := wi) (by go_simp) ⟨fun x h => Option.some.inj h, hI⟩
        · have e86 : ρ (.tmp 86) = V 0 := hd 0 86; have e88 : ρ (.tmp 88) = .slice Dh hl dc := (hd 2 88).trans (hk 2 _ rfl); have hD0 : D 0 = true := hT 1 0; have hD3 : D 3 = false := hDi; have hD6 : D 6 = false := hF 1 6; have hD8 : D 8 = false := hF 1 8; clear hT hF; have h1 := hI.1 hD8
          rw [hD0] at h1
          rw [hD3] at h1
          rw [hD6] at h1
          simp only [cond_false] at h1
          have hL := h1.low
          obtain ⟨A2, n2, c2, w2, hrun, hn⟩ := ApG.app el_rhd fit_rhd h1 (m := q.held) (HSL.out.1 wi hL) (HSL.out.2) (by have := HLN.out; simp; omega)
          rw [HHL.out] at hrun
          exact Reg.Gives.value (v := .slice A2 n2 c2) (w' := w2) (Reg.exec_append rfl e86 e88 hrun) ⟨fun x h => (by cases h), by show ((D 8) = false → ApG 119 4 Hd.rvals we (D 0) (cond (D 6) (V 6) (cond true (.slice A2 n2 c2) (V 0))) (cond (D 6) (q.held ++ [x]) (cond true (q.held) [])) (D 5) (V 5) x w2 ) ∧ ((D 8) = true → ∃ D9 c9, Wk c S F As cs Ds ds ix w2 bx ⟨q.L, q.known, q.last, q.held ++ [x]⟩ A ac D9 c9 Vo vc o ∧ Cells w2 hb 119 [.int .i64 x.seq, .string x.pay, .int .i64 x.left, .int .i64 (min (2 * x.delay) 16)]); rw [hD0, hD6, hD8]; simp only [cond_false, cond_true]; exact ⟨fun _ => hn, fun e => by cases e⟩⟩
        · have e13 : ρ (.tmp 13) = .pointer (some ⟨hb, 0, none⟩) := hs 13; have hD8 : D 8 = false := hF 1 8; clear hT hF; have hL : Below we.heap.size we wi := (hI.1 hD8).low; have hq := HC.out.later hL; have y0 := hq.cell (j := 0) rfl; have y1 := hq.cell (j := 1) rfl; have y2 := hq.cell (j := 2) rfl; have y3 := hq.cell (j := 3) rfl
          exact Reg.Gives.value (v := .agg #[.int .i64 x.seq, .string x.pay, .int .i64 x.left, .int .i64 (min (2 * x.delay) 16)]) (w' := wi) (by go_simp) ⟨fun x h => Option.some.inj h, hI⟩
        · have e90 : ρ (.tmp 90) = .agg #[.int .i64 x.seq, .string x.pay, .int .i64 x.left, .int .i64 (min (2 * x.delay) 16)] := (hd 4 90).trans (hk 4 _ rfl); have hD5 : D 5 = false := hDi; have hD8 : D 8 = false := hF 1 8; clear hT hF; have h1 := hI.1 hD8
          rw [hD5] at h1
          exact Reg.Gives.value (v := .slice (some ⟨wi.heap.size, 0, none⟩) 1 1) (w' := wi.alloc (.cells #[.int .i64 x.seq, .string x.pay, .int .i64 x.left, .int .i64 (min (2 * x.delay) 16)] 119)) (by go_simp) ⟨fun x h => (by cases h), by show ((D 8) = false → ApG 119 4 Hd.rvals we (D 0) (cond (D 6) (V 6) (cond (D 3) (V 3) (V 0))) (cond (D 6) (q.held ++ [x]) (cond (D 3) (q.held) [])) true (.slice (some ⟨wi.heap.size, 0, none⟩) 1 1) x (wi.alloc (.cells #[.int .i64 x.seq, .string x.pay, .int .i64 x.left, .int .i64 (min (2 * x.delay) 16)] 119)) ) ∧ ((D 8) = true → ∃ D9 c9, Wk c S F As cs Ds ds ix (wi.alloc (.cells #[.int .i64 x.seq, .string x.pay, .int .i64 x.left, .int .i64 (min (2 * x.delay) 16)] 119)) bx ⟨q.L, q.known, q.last, q.held ++ [x]⟩ A ac D9 c9 Vo vc o ∧ Cells (wi.alloc (.cells #[.int .i64 x.seq, .string x.pay, .int .i64 x.left, .int .i64 (min (2 * x.delay) 16)] 119)) hb 119 [.int .i64 x.seq, .string x.pay, .int .i64 x.left, .int .i64 (min (2 * x.delay) 16)]); rw [hD8]; exact ⟨fun _ => h1.mkx _ rfl, fun e => by cases e⟩⟩
        · have e89 : ρ (.tmp 89) = V 3 := hd 3 89; have e91 : ρ (.tmp 91) = V 5 := hd 5 91; have hD0 : D 0 = true := hT 2 0; have hD3 : D 3 = true := hT 1 3; have hD5 : D 5 = true := hT 1 5; have hD6 : D 6 = false := hDi; have hD8 : D 8 = false := hF 1 8; clear hT hF; have h1 := hI.1 hD8
          rw [hD0] at h1
          rw [hD3] at h1
          rw [hD6] at h1
          simp only [cond_false, cond_true] at h1
          rw [hD5] at h1
          obtain ⟨g2, A2, n2, c2, w2, hx2, hrun, hn⟩ := ApG.one el_rhd fit_rhd h1 (by have := HLN.out; omega)
          rw [hx2] at e91
          exact Reg.Gives.value (v := .slice A2 n2 c2) (w' := w2) (Reg.exec_append rfl e89 e91 hrun) ⟨fun x h => (by cases h), by show ((D 8) = false → ApG 119 4 Hd.rvals we (D 0) (cond true (.slice A2 n2 c2) (cond (D 3) (V 3) (V 0))) (cond true (q.held ++ [x]) (cond (D 3) (q.held) [])) (D 5) (V 5) x w2 ) ∧ ((D 8) = true → ∃ D9 c9, Wk c S F As cs Ds ds ix w2 bx ⟨q.L, q.known, q.last, q.held ++ [x]⟩ A ac D9 c9 Vo vc o ∧ Cells w2 hb 119 [.int .i64 x.seq, .string x.pay, .int .i64 x.left, .int .i64 (min (2 * x.delay) 16)]); rw [hD0, hD3, hD5, hD8]; simp only [cond_true]; exact ⟨fun _ => hn, fun e => by cases e⟩⟩
        · have e9 : ρ (.tmp 9) = .pointer (some ⟨bx, 0, none⟩) := hs 9; clear hT hF hk
          exact Reg.Gives.value (v := .pointer (some ⟨bx, 3, none⟩)) (w' := wi) (by go_simp) ⟨fun x h => Option.some.inj h, hI⟩
        · have e93 : ρ (.tmp 93) = .pointer (some ⟨bx, 3, none⟩) := (hd 7 93).trans (hk 7 _ rfl); have e92 : ρ (.tmp 92) = V 6 := hd 6 92; have hD0 : D 0 = true := hT 1 0; have hD3 : D 3 = true := hT 1 3; have hD6 : D 6 = true := hT 1 6; have hD8 : D 8 = false := hDi; clear hT hF; have h1 := hI.1 hD8
          rw [hD0] at h1
          rw [hD3] at h1
          rw [hD6] at h1
          simp only [cond_true] at h1
          have hac := h1.acc rfl; obtain ⟨A2, c2, hv2⟩ := row_slice hac
          rw [hv2] at hac
          have hlo := h1.low; have hrl := HK.out.later hlo; have x0 := hrl.box.cell (j := 3) rfl
          have x1 := hrl.box.frozen (j := 3) (by simp [rpv])
          have hfin : ∃ D9 c9, Wk c S F As cs Ds ds ix (wi.setCell ⟨bx, 3, none⟩ (.slice A2 (q.held ++ [x]).length c2)) bx ⟨q.L, q.known, q.last, q.held ++ [x]⟩ A ac D9 c9 Vo vc o ∧ Cells (wi.setCell ⟨bx, 3, none⟩ (.slice A2 (q.held ++ [x]).length c2)) hb 119 [.int .i64 x.seq, .string x.pay, .int .i64 x.left, .int .i64 (min (2 * x.delay) 16)] := ⟨A2, c2, HK.out.newH hlo hac, (HC.out.later hlo).far HNB.out _⟩
          obtain ⟨n1, hn1⟩ : ∃ n1, (q.held ++ [x]).length = n1 := ⟨_, rfl⟩
          rw [hn1] at hfin hv2
          have e9 := e92
          rw [hv2] at e9
          clear e92
          exact Reg.Gives.skip (w' := wi.setCell ⟨bx, 3, none⟩ (.slice A2 n1 c2)) (by go_simp) ⟨fun x h => (by cases h), by show (true = false → ApG 119 4 Hd.rvals we (D 0) (cond (D 6) (V 6) (cond (D 3) (V 3) (V 0))) (cond (D 6) (q.held ++ [x]) (cond (D 3) (q.held) [])) (D 5) (V 5) x (wi.setCell ⟨bx, 3, none⟩ (.slice A2 n1 c2)) ) ∧ (true = true → ∃ D9 c9, Wk c S F As cs Ds ds ix (wi.setCell ⟨bx, 3, none⟩ (.slice A2 n1 c2)) bx ⟨q.L, q.known, q.last, q.held ++ [x]⟩ A ac D9 c9 Vo vc o ∧ Cells (wi.setCell ⟨bx, 3, none⟩ (.slice A2 n1 c2)) hb 119 [.int .i64 x.seq, .string x.pay, .int .i64 x.left, .int .i64 (min (2 * x.delay) 16)]); exact ⟨fun e => (by cases e), fun _ => hfin⟩⟩
      · intro V wf hk hI
        simp only [Reg.putsO, List.foldl_cons, List.foldl_nil, Act.put, List.setIfInBounds_toArray, List.set_cons_succ, List.set_cons_zero]
        replace hI : (true = false → ApG 119 4 Hd.rvals we true (cond true (V 6) (cond true (V 3) (V 0))) (cond true (q.held ++ [x]) (cond true (q.held) [])) true (V 5) x wf ) ∧ (true = true → ∃ D9 c9, Wk c S F As cs Ds ds ix wf bx ⟨q.L, q.known, q.last, q.held ++ [x]⟩ A ac D9 c9 Vo vc o ∧ Cells wf hb 119 [.int .i64 x.seq, .string x.pay, .int .i64 x.left, .int .i64 (min (2 * x.delay) 16)]) := hI
        clear hk
        obtain ⟨D9, c9, hk9, hc9⟩ := hI.2 rfl
        have HT1 := HT.out.1
        have z2 := hk9.box.cell (j := 2) rfl
        have f2 := hk9.box.frozen (j := 2) (by simp [rpv])
        have hkn := hk9.next
        have hpd : ∀ hz : ix < S.peers.length, S.peers[ix]'hz = p := HKN.out
        rw [show (⟨q.L, q.known, q.last, q.held ++ [x]⟩ : Pm).last = pl + k from HT1] at z2
        obtain ⟨wg, hwg⟩ : ∃ W, W = wf.setCell ⟨bx, 2, none⟩ (.int .i64 (pl + k + 1 + 1)) := ⟨_, rfl⟩
        have hkg : Wk c S F As cs Ds ds ix wg bx (holdP p (ss.take (k + 1))) A ac D9 c9 Vo vc o := by
          have e : (⟨q.L, q.known, q.last + 1, q.held ++ [x]⟩ : Pm) = holdP p (ss.take (k + 1)) := by rw [HT.out.2.1, HQE.out.1, HQE.out.2, HT.out.1, HX.out, HPL.out]
          rw [← e, hwg, ← HT.out.1]
          exact hkn
        have hcg := hc9.far (p := ⟨bx, 2, none⟩) HNB.out (.int .i64 (pl + k + 1 + 1))
        rw [← hwg] at hcg
        have y0 := hcg.cell (j := 0) rfl
        have y1 := hcg.cell (j := 1) rfl
        have y2 := hcg.cell (j := 2) rfl
        have y3 := hcg.cell (j := 3) rfl
        have hrd := rdata_any hkg.ses hn16 ix hHI.out x.seq x.left (min (2 * x.delay) 16) x.pay
        rw [hpd] at hrd
        have HRD := Lib.hid hrd
        have HKG := Lib.hid hkg
        clear hI hk9 hc9 hkn hpd hkg hcg hrd HK HC HT1
        go_upto_region 19 with (fail)
        rw [← hwg]
        clear hwg
        go_wp2_with fail
        refine HRD.out.mono ?_
        rintro e wh ⟨rfl, hbh⟩
        obtain ⟨V2, c2, w2, hrun, hk2⟩ := (HKG.out.later hbh).app (outH ((ix : Int) + 1) S.epoch p.known x) (by have := HOL.out; omega)
        rw [HOL.out] at hrun
        have HRUN := Lib.hid hrun
        have HKZ : Hid (Wk c S F As cs Ds ds ix w2 bx (holdP p (ss.take (k + 1))) A ac D9 c9 V2 c2 (dataL ((ix : Int) + 1) S.epoch p.known (newHd p.last (ss.take (k + 1))))) := Lib.hid (by
          rw [HT.out.2.2]
          unfold dataL
          rw [List.map_append]
          have h1 := hk2
          rw [← HO.out, HX.out, ← HPL.out] at h1
          exact h1)
        clear hbh hrun hk2 HRD HKG
        go_wp2_with (at_builtin
                     refine Lib.wpList_append_run _ rfl (.tmp 98) (.tmp 103) 47 47 rfl (.slice Vo k vc) (.slice (some ⟨wh.heap.size, 0, none⟩) 1 1) rfl rfl _ _ HRUN.out ?_)
        go_roundw
        case rel => exact ⟨k + 1, D9, c9, V2, c2, by omega, rfl, by go_num, HKZ⟩
        case measure => simp [intOf]; omega
    · obtain rfl : k = n := by omega
      have hfull : ss.take k = ss := List.take_of_length_le (by rw [HNS.out]; exact Nat.le_refl _)
      rw [hfull] at HK
      have hkz := HK.out
      obtain ⟨hthere, F', As', cs', Ds', ds', hkb⟩ := hkz.back
      have HTH := Lib.hid hthere
      have HKB := Lib.hid hkb
      obtain ⟨q, hq⟩ : ∃ q, holdP p ss = q := ⟨_, rfl⟩
      rw [hq] at hkz HKB
      have HQQ := Lib.hid hq
      have z0 := hkz.box.cell (j := 0) rfl
      have z1 := hkz.box.cell (j := 1) rfl
      have z2 := hkz.box.cell (j := 2) rfl
      have z3 := hkz.box.cell (j := 3) rfl
      have c2 := hkz.ses.cel.cell (j := 2) rfl
      obtain ⟨np, hnp⟩ : ∃ m, S.peers.length = m := ⟨_, rfl⟩
      rw [hnp] at c2
      have hxn : ix < np := by rw [← hnp]; exact hHI.out
      have hcap : np ≤ c.pc := by rw [← hnp]; exact hkz.ses.cap
      have hiw : IntKind.i64.wrap ((ix : Int) + 1 - 1) = (ix : Int) := by rw [IntKind.wrap_i64]; omega
      have hpc := (hkz.ses.peer ix hHI.out).1
      have t0 : wr.cell? ⟨c.pb, ix * 4, none⟩ = _ := hpc.cell (j := 0) rfl
      have t1 := hpc.cell (j := 1) rfl
      have t2 := hpc.cell (j := 2) rfl
      have t3 := hpc.cell (j := 3) rfl
      have u0 : wr.frozen? ⟨c.pb, ix * 4, none⟩ = false := hpc.frozen (j := 0) (by simp [rpv])
      have u1 := hpc.frozen (j := 1) (by simp [rpv])
      have u2 := hpc.frozen (j := 2) (by simp [rpv])
      have u3 := hpc.frozen (j := 3) (by simp [rpv])
      clear hpc hkz hthere hkb hnp hfull hq
      go_upto_region 20 with (fail)
      go_region
      obtain ⟨wz, hwz⟩ : ∃ W, W = ((((wr.setCell ⟨c.pb, ix * 4, none⟩ (.slice A q.L.length ac)).setCell ⟨c.pb, ix * 4 + 1, none⟩ (.int .i64 q.known)).setCell ⟨c.pb, ix * 4 + 2, none⟩ (.int .i64 (q.last + 1))).setCell ⟨c.pb, ix * 4 + 3, none⟩ (.slice Dh q.held.length dc)).drew := ⟨_, rfl⟩
      have hkz : Wk c { S with peers := S.peers.set ix q } F' As' cs' Ds' ds' ix wz bx q A ac Dh dc Vo vc (dataL ((ix : Int) + 1) S.epoch p.known (newHd p.last ss)) := by
        rw [hwz]
        exact HKB.out.later (Below.refl _ _).drew
      rw [← hwz]
      have HKZ := Lib.hid hkz
      clear hwz hkz HKB
      have hol : (dataL ((ix : Int) + 1) S.epoch p.known (newHd p.last ss)).length = k := by
        unfold dataL
        rw [List.length_map, newHd_len, HNS.out]
      have HOL := Lib.hid hol
      clear hol z0 z1 z2 z3 t0 t1 t2 t3 u0 u1 u2 u3 c2
      go_wp2_with fail
      go_returns
      refine ⟨Vo, vc, F', ?_, HKZ.out.out, ?_, fun k e => (HKZ.out.nV k e).2.1⟩
      · show Ending.returned (.tuple #[.slice Vo k vc, .int .i64 0]) = _
        rw [HOL.out]
      · show RStep _ _ _ _ { S with peers := S.peers.set ix (holdP p ss) } _ _
        rw [HQQ.out]
        exact HKZ.out.stp
end Go.Proofs.Ytjfejfhdohpfbaa.Ses
