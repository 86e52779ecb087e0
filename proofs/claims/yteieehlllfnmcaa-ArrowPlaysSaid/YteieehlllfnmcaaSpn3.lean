/-
  Layer 15: Path. Conditions: none.
-/
import Derived.Test.YteieehlllfnmcaaSpn2
namespace Go.Proofs.Yteieehlllfnmcaa.Spn
set_option maxRecDepth 100000
open Go.RowKit Go.Deep Go.Proofs.Yteieehlllfnmcaa.Mem

def pathI (f t m : Int) : List Nat := if hasB f m && hasB t m then pathL f.toNat t.toNat else []
/-- While a path is looked for: its two ends' rows. -/
structure Pst (B : Nat) (w wr : World) (U : Option Addr) (uc : Nat) (D : Option Addr) (dc : Nat) (u d : List Nat) : Prop where
  ru : NR B wr (.slice U u.length uc) u
  rd : NR B wr (.slice D d.length dc) d
  ap : ∀ k, blk U = some k → blk D ≠ some k
  bel : Below B w wr
  siz : B ≤ wr.heap.size
theorem Pst.up {B : Nat} {w wr : World} {U D : Option Addr} {uc dc : Nat} {u d : List Nat} (h : Pst B w wr U uc D dc u d) (x : Nat) (hl : u.length ≤ 2000) :
    ∃ A' c' w', (Builtin.append_ #[24, 24] 24 #[.slice U u.length uc, .slice (some ⟨wr.heap.size, 0, none⟩) 1 1]).run Try.prog (wr.alloc (.cells #[.int .i64 (x : Int)] 3)) = .ok (.slice A' (u.length + 1) c') w' ∧ Pst B w w' A' c' D dc (u ++ [x]) d := by
  obtain ⟨A', n', c', w', hrun, hrow, ho, hg⟩ := h.ru.iapp x h.siz hl
  obtain rfl : n' = u.length + 1 := by have := (OwnG.irow hrow).1; simpa using this
  refine ⟨A', c', w', hrun, ⟨by rw [List.length_append]; exact hrow, h.rd.only ho fun k e e2 => h.ap k e2.symm (by rw [← own_blk]; exact e), fun k e e2 => ?_, h.bel.trans (ho.below h.siz fun k e => (h.ru.lt (by rw [own_blk]; exact e.symm)).1), Nat.le_trans h.siz ho.size⟩⟩
  rcases hg k e with e3 | e3
  · exact h.ap k e3.symm e2
  · have := (h.rd.lt (by rw [own_blk]; exact e2)).2
    omega
theorem Pst.flip {B : Nat} {w wr : World} {U D : Option Addr} {uc dc : Nat} {u d : List Nat} (h : Pst B w wr U uc D dc u d) : Pst B w wr D dc U uc d u := ⟨h.rd, h.ru, fun k e e2 => h.ap k e2 e, h.bel, h.siz⟩
theorem Pst.go {B : Nat} {w wr wq : World} {U D : Option Addr} {uc dc : Nat} {u d : List Nat} (h : Pst B w wr U uc D dc u d) (hb : Below wr.heap.size wr wq) : Pst B w wq U uc D dc u d :=
  ⟨h.ru.later hb, h.rd.later hb, h.ap, h.bel.trans (hb.mono h.siz), Nat.le_trans h.siz hb.size⟩
theorem goP_step {f x y : Nat} (hx : 1 ≤ x) (hy : 1 ≤ y) (hf : x + y ≤ f) : ∃ g, f = g + 1 := ⟨f - 1, by omega⟩
set_option maxHeartbeats 2000000 in
theorem Path_any (f t m : Int) (w : World) : Calls Try.prog 34 #[.int .i64 f, .int .i64 t, .int .i64 m] w fun e w' => ∃ v, e = .returned v ∧ NR w.heap.size w' v (pathI f t m) ∧ Below w.heap.size w w' := by
  have HH := Lib.hid (has_any f m w)
  have HH2 := Lib.hid (has_any t m w)
  unfold pathI
  cases hb : hasB f m with
  | false =>
    rw [hb] at HH
    rw [Bool.false_and, if_neg Bool.false_ne_true]
    clear hb
    go_enter Try.func34, Try.ntmps34
    go_wp2_with fail
    refine HH.out.mono ?_
    rintro e w1 ⟨rfl, rfl⟩
    go_wp2_with fail
    go_returns
    exact ⟨_, rfl, OwnG.nil _ _ _ _ _, Below.refl _ _⟩
  | true =>
    rw [hb] at HH
    rw [Bool.true_and]
    cases hc : hasB t m with
    | false =>
      rw [hc] at HH2
      rw [if_neg Bool.false_ne_true]
      clear hb hc
      go_enter Try.func34, Try.ntmps34
      go_wp2_with fail
      refine HH.out.mono ?_
      rintro e w1 ⟨rfl, rfl⟩
      go_wp2_with fail
      refine HH2.out.mono ?_
      rintro e w1 ⟨rfl, rfl⟩
      go_wp2_with fail
      go_returns
      exact ⟨_, rfl, OwnG.nil _ _ _ _ _, Below.refl _ _⟩
    | true =>
      rw [hc] at HH2
      rw [if_pos rfl]
      obtain ⟨a, b, rfl, rfl, h1, h2, h3⟩ := has_nat hb
      obtain ⟨t, _, rfl, hq, h4, h5, _⟩ := has_nat hc
      obtain rfl := Int.natCast_inj.1 hq
      simp only [Int.toNat_natCast]
      have h6 : t ≤ 16 := by omega
      have h7 : a ≤ 16 := by omega
      have HP0 : Hid (Pst w.heap.size w w none 0 none 0 [] []) := Lib.hid ⟨OwnG.nil _ _ _ _ _, OwnG.nil _ _ _ _ _, fun k e => (by cases e), Below.refl _ _, Nat.le_refl _⟩
      have HPL : Hid (pathL a t = (goP 40 a t [] []).1 ++ (goP 40 a t [] []).2.1 :: (goP 40 a t [] []).2.2.reverse) := Lib.hid rfl
      obtain ⟨z, hz⟩ : ∃ z, goP 40 a t [] [] = z := ⟨_, rfl⟩
      rw [hz] at HPL
      have HZ := Lib.hid hz
      clear hb hc hq hz h2 h3 h5
      go_enter Try.func34, Try.ntmps34
      go_wp2_with fail
      refine HH.out.mono ?_
      rintro e w1 ⟨rfl, rfl⟩
      go_wp2_with fail
      refine HH2.out.mono ?_
      rintro e w1 ⟨rfl, rfl⟩
      clear HH HH2
      go_wp2_with fail
      go_loopw [0, 1, 7, 8] (fun p q s v wr => ∃ (g x y : Nat) (U : Option Addr) (uc : Nat) (D : Option Addr) (dc : Nat) (u d : List Nat), p = .int .i64 (x : Int) ∧ q = .int .i64 (y : Int) ∧ s = .slice U u.length uc ∧ v = .slice D d.length dc ∧ 1 ≤ x ∧ 1 ≤ y ∧ x ≤ 16 ∧ y ≤ 16 ∧ x + y ≤ g ∧ g ≤ 40 ∧ u.length + d.length + g ≤ 40 ∧ Hid (goP g x y u d = z) ∧ Hid (Pst w1.heap.size w1 wr U uc D dc u d)) (fun p q _ _ _ => (intOf p).toNat + (intOf q).toNat)
      case atStart => exact ⟨40, a, t, none, 0, none, 0, [], [], rfl, rfl, rfl, rfl, h1, h4, h7, h6, by omega, by omega, by simp, HZ, HP0⟩
      case round =>
        clear HP0 HZ h1 h4 h6 h7
        obtain ⟨g, x, y, U, uc, D, dc, u, d, rfl, rfl, rfl, rfl, k1, k2, k3, k4, k5, k6, k7, HG, HS⟩ := hrel
        obtain ⟨g, rfl⟩ := goP_step k1 k2 k5
        obtain ⟨nu, hnu⟩ : ∃ n, u.length = n := ⟨_, rfl⟩
        obtain ⟨nd, hnd⟩ : ∃ n, d.length = n := ⟨_, rfl⟩
        rcases Nat.lt_trichotomy y x with hlt | heq | hlt
        · obtain ⟨A2, c2, w2, hrun, hs2⟩ := HS.out.up x (by omega)
          have HRUN := Lib.hid hrun
          have HS2 := Lib.hid hs2
          have HG2 : Hid (goP g (x / 2) y (u ++ [x]) d = z) := Lib.hid (by rw [← HG.out, goP_up hlt])
          have HPA := Lib.hid (Parent_any (x : Int) (by omega) w2)
          rw [show parI (x : Int) = ((x / 2 : Nat) : Int) by unfold parI; rw [if_neg (by omega)]; omega] at HPA
          have HLN : Hid ((u ++ [x]).length = nu + 1) := Lib.hid (by rw [List.length_append, hnu]; rfl)
          have hx1 : 1 ≤ x / 2 := by omega
          have hx2 : x / 2 < x := by omega
          obtain ⟨x2, hx2e⟩ : ∃ q, x / 2 = q := ⟨_, rfl⟩
          rw [hx2e] at HG2 HPA hx1 hx2
          rw [hnu] at HRUN k7
          rw [hnd] at k7
          have HNU := Lib.hid hnu
          have HND := Lib.hid hnd
          rw [hnu, hnd]
          clear hrun hs2 HG HS hx2e hnu hnd
          have e1 : decide ((x : Int) > (y : Int)) = true := decide_eq_true (by omega)
          have e2 : ((x : Int) == (y : Int)) = false := by simp; omega
          go_wp2_with (at_builtin
                       refine Lib.wpList_append_run _ rfl (.tmp 25) (.tmp 27) 24 24 rfl (.slice U nu uc) (.slice (some ⟨wr.heap.size, 0, none⟩) 1 1) rfl rfl _ _ HRUN.out ?_)
          refine HPA.out.mono ?_
          rintro e w3 ⟨rfl, rfl⟩
          go_wp2_with fail
          go_roundw
          case rel => exact ⟨g, x2, y, A2, c2, D, dc, u ++ [x], d, rfl, rfl, by rw [HLN.out], by rw [HND.out], hx1, k2, by omega, k4, by omega, by omega, by rw [HLN.out, HND.out]; omega, HG2, HS2⟩
          case measure => simp [intOf]; omega
        · subst heq
          rw [goP_eq] at HG
          have hz := HG.out
          have HW : Hid (pathL a t = u ++ y :: d.reverse) := Lib.hid (by rw [HPL.out, ← hz])
          rw [hnu] at k7
          rw [hnd] at k7
          have HNU := Lib.hid hnu
          have HND := Lib.hid hnd
          have HRV := Lib.hid (reverse_int HS.out.rd (by omega) HS.out.siz)
          rw [hnd] at HRV
          rw [hnu, hnd]
          clear hz HG HPL hnu hnd
          go_wp2_with fail
          refine HRV.out.mono ?_
          rintro e w2 ⟨⟨_, rfl⟩, hrd, ho⟩
          have hru := HS.out.ru.only ho fun k e e2 => HS.out.ap k (by rw [← own_blk]; exact e) e2.symm
          have hbe := HS.out.bel.trans (ho.below HS.out.siz fun k e => (HS.out.rd.lt (by rw [own_blk]; exact e.symm)).1)
          have hsz := Nat.le_trans HS.out.siz ho.size
          obtain ⟨wa, hwa⟩ : ∃ W, W = w2.alloc (.cells #[.int .i64 (y : Int)] 3) := ⟨_, rfl⟩
          have hba : Below w2.heap.size w2 wa := by rw [hwa]; exact below_alloc _ _
          obtain ⟨wb, hwb⟩ : ∃ W, W = wa.alloc (.cells #[.slice U nu uc, .slice (some ⟨w2.heap.size, 0, none⟩) 1 1, .slice D nd dc] 24) := ⟨_, rfl⟩
          have hbb : Below wa.heap.size wa wb := by rw [hwb]; exact below_alloc _ _
          have hba2 := hba.trans (hbb.mono hba.size)
          have hcx : Cells wa w2.heap.size 3 (nv y) := by rw [hwa]; exact cells_new _ _ _ _ rfl
          have hsx : Sl wb (some ⟨w2.heap.size, 0, none⟩) 1 ([y].map nv) := (cells_sl (by simpa using hcx) fun v hv => (fit_fv _ [y]).len v hv).later hbb
          obtain ⟨_, _, eu, _, hsu, hUn⟩ := hru.islice
          obtain ⟨_, _, ed, _, hsd, hDn⟩ := hrd.islice
          simp only [Value.slice.injEq] at eu ed
          obtain ⟨rfl, eu2, rfl⟩ := eu
          obtain ⟨rfl, ed2, rfl⟩ := ed
          clear eu2 ed2
          have hcl : Cells wb wa.heap.size 24 [.slice U nu uc, .slice (some ⟨w2.heap.size, 0, none⟩) 1 1, .slice D nd dc] := by rw [hwb]; exact cells_new _ _ _ _ rfl
          have HCC := Lib.hid (concat_int (some ⟨wa.heap.size, 0, none⟩) [(U, uc, u), (some ⟨w2.heap.size, 0, none⟩, 1, [y]), (D, dc, d.reverse)] 3 wb (fun k hk => by
            refine ⟨wa.heap.size, 0, rfl, ?_⟩
            rw [Nat.zero_add]
            match k, hk with
            | 0, _ => exact ⟨by rw [show [(U, uc, u), (some (⟨w2.heap.size, 0, none⟩ : Addr), 1, [y]), (D, dc, d.reverse)][0].2.2.length = nu from HNU.out]; exact hcl.cell rfl, hsu.later hba2, hUn⟩
            | 1, _ => exact ⟨hcl.cell rfl, hsx, fun e => by cases e⟩
            | 2, _ => exact ⟨by rw [show [(U, uc, u), (some (⟨w2.heap.size, 0, none⟩ : Addr), 1, [y]), (D, dc, d.reverse)][2].2.2.length = nd from by simp [HND.out]]; exact hcl.cell rfl, hsd.later hba2, hDn⟩) (by simp) (by simp [allN]; have := HNU.out; have := HND.out; omega))
          have HB2 := Lib.hid (hbe.trans (hba2.mono hsz))
          have hwsz : w1.heap.size ≤ wb.heap.size := Nat.le_trans hsz hba2.size
          have HSZ := Lib.hid hwsz
          rw [hwa] at hwb
          have hsa : wa.heap.size = w2.heap.size + 1 := by rw [hwa]; exact World.size_alloc _ _
          rw [hsa] at HCC
          clear hrd ho hru hbe hsz hba hwa hbb hba2 hcx hsx hsu hsd hUn hDn hcl HRV HS hwsz hsa
          go_wp2_with (rw [← hwb])
          refine HCC.out.mono ?_
          rintro e w3 ⟨v, rfl, hrow, hb3⟩
          have HRW := Lib.hid hrow
          have HB3 := Lib.hid (HB2.out.trans (hb3.mono HSZ.out))
          clear hrow hb3 HCC
          go_wp2_with fail
          go_returns
          refine ⟨_, rfl, ?_, HB3.out⟩
          have h9 := HRW.out.up HSZ.out
          rw [HW.out]
          have e9 : allN [(U, uc, u), (some (⟨w2.heap.size, 0, none⟩ : Addr), 1, [y]), (D, dc, d.reverse)] = u ++ y :: d.reverse := by simp [allN]
          rw [e9] at h9
          exact h9
        · obtain ⟨A2, c2, w2, hrun, hs2⟩ := HS.out.flip.up y (by omega)
          have HRUN := Lib.hid hrun
          have HS2 := Lib.hid hs2.flip
          have HG2 : Hid (goP g x (y / 2) u (d ++ [y]) = z) := Lib.hid (by rw [← HG.out, goP_down hlt])
          have HPA := Lib.hid (Parent_any (y : Int) (by omega) w2)
          rw [show parI (y : Int) = ((y / 2 : Nat) : Int) by unfold parI; rw [if_neg (by omega)]; omega] at HPA
          have HLN : Hid ((d ++ [y]).length = nd + 1) := Lib.hid (by rw [List.length_append, hnd]; rfl)
          have hx1 : 1 ≤ y / 2 := by omega
          have hx2 : y / 2 < y := by omega
          obtain ⟨y2, hx2e⟩ : ∃ q, y / 2 = q := ⟨_, rfl⟩
          rw [hx2e] at HG2 HPA hx1 hx2
          rw [hnd] at HRUN k7
          rw [hnu] at k7
          have HNU := Lib.hid hnu
          have HND := Lib.hid hnd
          rw [hnu, hnd]
          clear hrun hs2 HG HS hx2e hnu hnd
          have e1 : decide ((x : Int) > (y : Int)) = false := decide_eq_false (by omega)
          have e2 : ((x : Int) == (y : Int)) = false := by simp; omega
          go_wp2_with (at_builtin
                       refine Lib.wpList_append_run _ rfl (.tmp 31) (.tmp 33) 24 24 rfl (.slice D nd dc) (.slice (some ⟨wr.heap.size, 0, none⟩) 1 1) rfl rfl _ _ HRUN.out ?_)
          refine HPA.out.mono ?_
          rintro e w3 ⟨rfl, rfl⟩
          go_wp2_with fail
          go_roundw
          case rel => exact ⟨g, x, y2, U, uc, A2, c2, u, d ++ [y], rfl, rfl, by rw [HNU.out], by rw [HLN.out], k1, hx1, k3, by omega, by omega, by omega, by rw [HLN.out, HNU.out]; omega, HG2, HS2⟩
          case measure => simp [intOf]; omega
end Go.Proofs.Yteieehlllfnmcaa.Spn
