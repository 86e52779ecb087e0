/-
  Layer 11: Cut, Heal, HealAll. Conditions: none.
-/
import Derived.Test.YtfhcfiebhagbeaaNetAsk
namespace Go.Proofs.Ytfhcfiebhagbeaa.Net
set_option maxRecDepth 100000
open Go.RowKit Go.Deep Go.Proofs.Ytfhcfiebhagbeaa.Mem

/-- A way is cut, or whole. -/
def setCut (N : Nt) (x y : Int) (v : Bool) : Nt := { N with cut := fun a b => if a = min x y ∧ b = max x y then v else N.cut a b }
theorem way_inj {a b x y : Int} (h : wayV a b = wayV x y) : a = x ∧ b = y := by
  unfold wayV at h
  simpa using h
/-- The map of ways turns alone. -/
theorem NetAt.newMap {base b m c n : Nat} {w w' : World} {N : Nt} {A : Option Addr} {cut : Int → Int → Bool} (h : NetAt base w b m N A c) (hk : KM Try.prog 72 w' m n (cutR cut)) (ho : Only (fun k => k = m) w w') : NStep base b m A w { N with cut := cut } w' := by
  refine ⟨A, c, ⟨cells_only h.cel ho h.bm, row_only h.row ho fun k he e => ?_, ⟨n, hk⟩, h.low, h.bm, h.bA, h.mA, h.nodes, h.len, h.pks⟩, ho.mono fun k _ e => Or.inr (Or.inl e), fun k e => Or.inl e⟩
  rw [own_blk] at he
  subst e
  exact h.mA he
theorem NStep.base' {base b m : Nat} {A : Option Addr} {w w' : World} {N : Nt} (h : NStep base b m A w.drew N w') : NStep base b m A w N w' := h.before (Below.refl _ _).drew
theorem cutR_put (cut : Int → Int → Bool) (p q : Int) (k v : Value) : ((k = wayV p q ∧ v = .agg #[]) ∨ (k ≠ wayV p q ∧ cutR cut k v)) ↔ cutR (fun a b => if a = p ∧ b = q then true else cut a b) k v := by
  constructor
  · rintro (⟨rfl, rfl⟩ | ⟨hne, a', b', e, e', hcut⟩)
    · exact ⟨p, q, rfl, rfl, by simp⟩
    · refine ⟨a', b', e, e', ?_⟩
      have : ¬ (a' = p ∧ b' = q) := by
        rintro ⟨rfl, rfl⟩
        exact hne e
      dsimp only
      rw [if_neg this]
      exact hcut
  · rintro ⟨a', b', e, e', hcut⟩
    dsimp only at hcut
    split at hcut
    · rename_i he
      obtain ⟨rfl, rfl⟩ := he
      exact Or.inl ⟨e, e'⟩
    · rename_i he
      exact Or.inr ⟨fun e2 => he (way_inj (e.symm.trans e2)), a', b', e, e', hcut⟩
theorem cutR_del (cut : Int → Int → Bool) (p q : Int) (k v : Value) : (k ≠ wayV p q ∧ cutR cut k v) ↔ cutR (fun a b => if a = p ∧ b = q then false else cut a b) k v := by
  constructor
  · rintro ⟨hne, a', b', e, e', hcut⟩
    refine ⟨a', b', e, e', ?_⟩
    have : ¬ (a' = p ∧ b' = q) := by
      rintro ⟨rfl, rfl⟩
      exact hne e
    dsimp only
    rw [if_neg this]
    exact hcut
  · rintro ⟨a', b', e, e', hcut⟩
    dsimp only at hcut
    split at hcut
    · cases hcut
    · rename_i he
      exact ⟨fun e2 => he (way_inj (e.symm.trans e2)), a', b', e, e', hcut⟩
set_option maxHeartbeats 1000000 in
theorem Cut_any {base b m c : Nat} {w : World} {N : Nt} {A : Option Addr} (h : NetAt base w b m N A c) (x y : Int) :
    Calls Try.prog 18 #[.pointer (some ⟨b, 0, none⟩), .int .i64 x, .int .i64 y] w fun e w' => e = .returned (.int .i64 (if betw N.nodes x y then 0 else 1)) ∧ NStep base b m A w (if betw N.nodes x y then setCut N x y true else N) w' := by
  have HC := Lib.hid (between_any N.nodes x y b 0 w (h.cel.cell (j := 0) rfl))
  have HN := Lib.hid h
  obtain ⟨p, q, hv, hp, hq, hpq⟩ := betwV_eq N.nodes x y h.nodes.2
  rw [hv] at HC
  have HPQ := Lib.hid hpq
  have HP := Lib.hid (And.intro hp hq)
  obtain ⟨B, hB⟩ : ∃ B, betw N.nodes x y = B := ⟨_, rfl⟩
  rw [hB] at HC HPQ ⊢
  clear h hv hp hq hpq hB
  unfold wayV at HC
  go_enter Try.func18, Try.ntmps18
  go_wp2_with fail
  refine HC.out.mono ?_
  rintro e w2 ⟨rfl, hb2⟩
  obtain ⟨w3, hw3⟩ : ∃ W, W = w2.alloc (.cells #[.int .i64 p, .int .i64 q] 72) := ⟨_, rfl⟩
  have hb3 : Below w2.heap.size w2 w3 := by rw [hw3]; exact below_alloc _ _
  have hc : Cells w3 w2.heap.size 72 [.int .i64 p, .int .i64 q] := by rw [hw3]; exact cells_new _ _ _ _ rfl
  have HN3 := Lib.hid ((HN.out.later hb2).later hb3)
  have k0 := hc.cell (j := 0) rfl
  have k1 := hc.cell (j := 1) rfl
  have HB3 := Lib.hid (hb2.trans (hb3.mono hb2.size))
  clear hb2 hb3 hc HC
  cases B
  · go_wp2_with fail
    rw [← hw3]
    go_returns
    exact ⟨rfl, NStep.same HN.out HB3.out⟩
  · go_upto_region 6 with (fail)
    rw [← hw3]
    have c1 := HN3.out.cel.cell (j := 1) rfl
    obtain ⟨n, hmap⟩ := HN3.out.map
    obtain ⟨kl, hkl⟩ := keyOf_way HP.out.1 HP.out.2
    have hmd := hmap.later (w' := w3.drew) (Below.refl _ _).drew
    obtain ⟨w4, h4, k4, o4⟩ := hmd.store way_keyed Try.underlying62 (val := .agg #[]) hkl
    have HST : Hid (NStep base b m A w (setCut N x y true) w4) := Lib.hid (by
      obtain ⟨e1, e2⟩ := HPQ.out (by trivial)
      refine NStep.before HB3.out (NStep.base' (NetAt.newMap (HN3.out.later (Below.refl _ _).drew) (k4.congr (fun k v => ?_) (Nat.le_refl _)) o4))
      rw [← e1, ← e2]
      exact cutR_put N.cut p q k v)
    unfold wayV at h4
    clear hw3 hmap hmd hkl k4 o4
    go_region
    all_goals
      go_wp2_with fail
      go_returns
      exact ⟨rfl, HST.out⟩
set_option maxHeartbeats 1000000 in
theorem Heal_any {base b m c : Nat} {w : World} {N : Nt} {A : Option Addr} (h : NetAt base w b m N A c) (x y : Int) :
    Calls Try.prog 20 #[.pointer (some ⟨b, 0, none⟩), .int .i64 x, .int .i64 y] w fun e w' => e = .returned (.int .i64 (if betw N.nodes x y then 0 else 1)) ∧ NStep base b m A w (if betw N.nodes x y then setCut N x y false else N) w' := by
  have HC := Lib.hid (between_any N.nodes x y b 0 w (h.cel.cell (j := 0) rfl))
  have HN := Lib.hid h
  obtain ⟨p, q, hv, hp, hq, hpq⟩ := betwV_eq N.nodes x y h.nodes.2
  rw [hv] at HC
  have HPQ := Lib.hid hpq
  have HP := Lib.hid (And.intro hp hq)
  obtain ⟨B, hB⟩ : ∃ B, betw N.nodes x y = B := ⟨_, rfl⟩
  rw [hB] at HC HPQ ⊢
  clear h hv hp hq hpq hB
  unfold wayV at HC
  go_enter Try.func20, Try.ntmps20
  go_wp2_with fail
  refine HC.out.mono ?_
  rintro e w2 ⟨rfl, hb2⟩
  obtain ⟨w3, hw3⟩ : ∃ W, W = w2.alloc (.cells #[.int .i64 p, .int .i64 q] 72) := ⟨_, rfl⟩
  have hb3 : Below w2.heap.size w2 w3 := by rw [hw3]; exact below_alloc _ _
  have hc : Cells w3 w2.heap.size 72 [.int .i64 p, .int .i64 q] := by rw [hw3]; exact cells_new _ _ _ _ rfl
  have HN3 := Lib.hid ((HN.out.later hb2).later hb3)
  have k0 := hc.cell (j := 0) rfl
  have k1 := hc.cell (j := 1) rfl
  have HB3 := Lib.hid (hb2.trans (hb3.mono hb2.size))
  clear hb2 hb3 hc HC
  cases B
  · go_wp2_with fail
    rw [← hw3]
    go_returns
    exact ⟨rfl, NStep.same HN.out HB3.out⟩
  · go_upto_region 6 with (fail)
    rw [← hw3]
    have c1 := HN3.out.cel.cell (j := 1) rfl
    obtain ⟨n, hmap⟩ := HN3.out.map
    obtain ⟨kl, hkl⟩ := keyOf_way HP.out.1 HP.out.2
    have hmd := hmap.later (w' := w3.drew) (Below.refl _ _).drew
    obtain ⟨w4, h4, k4, o4⟩ := hmd.drop way_keyed Try.underlying62 hkl 0
    have HST : Hid (NStep base b m A w (setCut N x y false) w4) := Lib.hid (by
      obtain ⟨e1, e2⟩ := HPQ.out (by trivial)
      refine NStep.before HB3.out (NStep.base' (NetAt.newMap (HN3.out.later (Below.refl _ _).drew) (k4.congr (fun k v => ?_) (Nat.le_refl _)) o4))
      rw [← e1, ← e2]
      exact cutR_del N.cut p q k v)
    unfold wayV at h4
    clear hw3 hmap hmd hkl k4 o4
    go_region
    all_goals
      go_wp2_with fail
      go_returns
      exact ⟨rfl, HST.out⟩
theorem Cut_nil (w : World) (x y : Value) : Calls Try.prog 18 #[.pointer none, x, y] w fun e w' => e = .returned (.int .i64 1) ∧ w' = w := by
  go_enter Try.func18, Try.ntmps18
  go_wp2_with fail
  go_returns
  exact ⟨rfl, rfl⟩
theorem Heal_nil (w : World) (x y : Value) : Calls Try.prog 20 #[.pointer none, x, y] w fun e w' => e = .returned (.int .i64 1) ∧ w' = w := by
  go_enter Try.func20, Try.ntmps20
  go_wp2_with fail
  go_returns
  exact ⟨rfl, rfl⟩
theorem HealAll_nil (w : World) : Calls Try.prog 21 #[.pointer none] w fun e w' => e = .returned (.tuple #[]) ∧ w' = w := by
  go_enter Try.func21, Try.ntmps21
  go_wp2_with fail
  go_returns
  exact ⟨rfl, rfl⟩
theorem HealAll_any {base b m c : Nat} {w : World} {N : Nt} {A : Option Addr} (h : NetAt base w b m N A c) :
    Calls Try.prog 21 #[.pointer (some ⟨b, 0, none⟩)] w fun e w' => e = .returned (.tuple #[]) ∧ NStep base b m A w { N with cut := fun _ _ => false } w' := by
  have c1 := h.cel.cell (j := 1) rfl
  obtain ⟨n, hmap⟩ := h.map
  obtain ⟨w4, h4, k4, o4⟩ := hmap.clear (t := 62) Try.underlying62 0
  have HST : Hid (NStep base b m A w { N with cut := fun _ _ => false } w4) := Lib.hid (NetAt.newMap h (k4.congr (fun k v => ⟨fun h => h.elim, fun ⟨_, _, _, _, h⟩ => by cases h⟩) (Nat.le_refl _)) o4)
  clear h hmap k4 o4
  go_enter Try.func21, Try.ntmps21
  go_wp2_with fail
  go_returns
  exact ⟨rfl, HST.out⟩
end Go.Proofs.Ytfhcfiebhagbeaa.Net
