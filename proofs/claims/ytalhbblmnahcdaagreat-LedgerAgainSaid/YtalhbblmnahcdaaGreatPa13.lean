/-
  Layer 8: lists of clones.
  Conditions: none.
-/
import Derived.Test.YtalhbblmnahcdaaGreatPa12
namespace Go.Proofs.YtalhbblmnahcdaaGreat.Led
set_option maxRecDepth 100000
open Go.RowKit Go.Deep Go.Proofs.YtalhbblmnahcdaaGreat.Mem Go.Proofs.YtalhbblmnahcdaaGreat.Item Go.Proofs.YtalhbblmnahcdaaGreat.Rec
/-- Two lists lie there, and stay there whatever is written into S. -/
def Fr (S : Nat → Prop) (w : World) (x : List It) (n : List Int) (y : Lay) : Prop := ∀ w', Only S w w' → Two w' x n y
theorem Fr.two {S : Nat → Prop} {w : World} {x : List It} {n : List Int} {y : Lay} (h : Fr S w x n y) : Two w x n y := h w (Only.refl _ _)
theorem Fr.next {S T : Nat → Prop} {w w' : World} {x : List It} {n : List Int} {y : Lay} (h : Fr S w x n y) (ho : Only S w w') (ht : ∀ k, T k → S k ∨ w.heap.size ≤ k) : Fr T w' x n y := fun w2 h2 => h w2 (ho.trans h2 fun k hk ht' => (ht k ht').resolve_right (by omega))
theorem Fr.later {S : Nat → Prop} {w w' : World} {x : List It} {n : List Int} {y : Lay} (h : Fr S w x n y) (hb : Below w.heap.size w w') : Fr S w' x n y := h.next (Only.of_below hb) fun _ hk => Or.inl hk
theorem Fr.of_fresh {B : Nat} {w : World} {x : List It} {n : List Int} {y : Lay} (h : Fresh B w x n y) : Fr (fun k => k < B) w x n y := h
/-- A list of clones, in a row of the call's own. -/
def Cop_prep (B : Nat) (l : List Pr) (v : Value) (w : World) : Prop := ∃ zs : List Lay, zs.length = l.length ∧ w.ownsRow B 86 5 v l.length (List.zipWith Pr.vals l zs).flatten ∧
  ∀ k (h : k < l.length) (h' : k < zs.length), Fr (fun j => some j = v.ownBlock ∨ j < B) w l[k].items l[k].nodes zs[k]
theorem Cop_prep.nil (B : Nat) (w : World) : Cop_prep B [] (.slice none 0 0) w := ⟨[], rfl, by simpa using World.ownsRow_nil _ _ _ _, fun j h _ => absurd h (by simp)⟩
theorem Cop_prep.later {B : Nat} {l : List Pr} {v : Value} {w w' : World} (h : Cop_prep B l v w) (hb : Below w.heap.size w w') : Cop_prep B l v w' := by
  obtain ⟨zs, hz, hrow, hin⟩ := h
  exact ⟨zs, hz, row_only hrow (Only.of_below (S := fun _ => False) hb) fun _ _ e => e, fun k h1 h2 => (hin k h1 h2).later hb⟩
/-- One clone more. -/
theorem Cop_prep.more {B : Nat} {l : List Pr} {v : Value} {w : World} (h : Cop_prep B l v w) (hB : B ≤ w.heap.size) (p : Pr) (z : Lay) (w1 : World) (hb1 : Below w.heap.size w w1) (hfr : Fresh w.heap.size w1 p.items p.nodes z) (hl : l.length ≤ 100000) (wb : World) (hwb : Below w1.heap.size w1 wb) (g : Nat) (hg : Cells wb g 86 (p.vals z)) :
    ∃ v' w', (Builtin.append_ #[28, 28] 28 #[v, .slice (some ⟨g, 0, none⟩) 1 1]).run Tryz.prog wb = .ok v' w' ∧ Cop_prep B (l ++ [p]) v' w' ∧ Only (fun k => some k = v.ownBlock) w w' := by
  obtain ⟨zs, hz, hrow, hin⟩ := h
  have hb2 : Below w.heap.size w wb := hb1.trans (hwb.mono hb1.size)
  have hlen : (List.zipWith Pr.vals l zs).length = l.length := by rw [List.length_zipWith, hz]; exact Nat.min_self _
  have hrow' : wb.ownsRow B 86 5 v (List.zipWith Pr.vals l zs).length (List.zipWith Pr.vals l zs).flatten := by
    rw [hlen]
    exact row_only hrow (Only.of_below (S := fun _ => False) hb2) fun _ _ e => e
  have hfx : Fit 5 [p.vals z] := ⟨fun u hu => by rw [List.mem_singleton.1 hu]; rfl, fun u hu => by rw [List.mem_singleton.1 hu]; exact pr_one p z⟩
  obtain ⟨v', w', hrun, hr2, hgr, hnew⟩ := run_append_rows el_prep wb 28 B v (List.zipWith Pr.vals l zs) [p.vals z] (some ⟨g, 0, none⟩) 1 (fit_prep l zs) hfx hrow' (cells_sl (by simpa using hg) hfx.len) (fun e => by cases e) (by rw [hlen, List.length_singleton]; omega) (Nat.le_trans hB hb2.size)
  have hgo := Only.of_grown hgr
  have hvlt : ∀ k, some k = v.ownBlock → k < w.heap.size := fun k hk => (hrow.lt k hk.symm).2
  have hT : ∀ (W : World), wb.heap.size ≥ W.heap.size → ∀ k, (some k = v'.ownBlock ∨ k < B) → (some k = v.ownBlock ∨ k < B) ∨ W.heap.size ≤ k := fun W hW k hk => by
    rcases hk with hk | hk
    · rcases hnew with e | e
      · rw [e] at hk; exact Or.inl (Or.inl hk)
      · rw [e] at hk; obtain rfl := Option.some.inj hk; exact Or.inr hW
    · exact Or.inl (Or.inr hk)
  refine ⟨v', w', hrun, ⟨zs ++ [z], by simp [hz], ?_, ?_⟩, (Only.of_below hb2).trans hgo fun _ _ e => e⟩
  · have e1 : List.zipWith Pr.vals (l ++ [p]) (zs ++ [z]) = List.zipWith Pr.vals l zs ++ [p.vals z] := by rw [List.zipWith_append hz.symm]; rfl
    rw [e1]
    have e2 : (List.zipWith Pr.vals l zs ++ [p.vals z]).length = (l ++ [p]).length := by rw [List.length_append, List.length_append, hlen]; rfl
    rw [← e2]
    exact hr2
  · intro k hk hk'
    by_cases hlt : k < l.length
    · rw [List.getElem_append_left hlt, List.getElem_append_left (by omega)]
      exact ((hin k hlt (by omega)).later hb2).next (hgo.mono fun _ _ e => Or.inl e) (hT wb (Nat.le_refl _))
    · have hk2 : k = l.length := by simp at hk; omega
      subst hk2
      rw [List.getElem_append_right (Nat.le_refl _), List.getElem_append_right (by omega)]
      simp only [Nat.sub_self, hz, List.getElem_singleton]
      refine ((Fr.of_fresh hfr).later hwb).next (hgo.mono fun k _ e => by exact hvlt k e) fun k hk => ?_
      rcases hT wb (Nat.le_refl _) k hk with (e | e) | e
      · exact Or.inl (hvlt k e)
      · exact Or.inl (Nat.lt_of_lt_of_le e hB)
      · exact Or.inr e
set_option maxHeartbeats 2000000 in
theorem copies_prep (A : Option Addr) (l : List Pr) (ys : List Lay) (cap : Nat) (w : World) (h : Sl w A 5 (List.zipWith Pr.vals l ys)) (hy : ys.length = l.length) (hl : l.length ≤ 100000)
    (ht : ∀ k (h : k < l.length) (h' : k < ys.length), Two w l[k].items l[k].nodes ys[k]) (hs : ∀ p ∈ l, p.items.length ≤ 100000 ∧ p.nodes.length ≤ 100000) :
    Calls Tryz.prog 61 #[.slice A l.length cap, .func (.func 62) #[] #[]] w fun e w' => (∃ v, e = .returned v ∧ Cop_prep w.heap.size l v w') ∧ Below w.heap.size w w' := by
  obtain ⟨n, hn⟩ : ∃ n, l.length = n := ⟨_, rfl⟩
  have HH := Lib.hid h
  have HT := Lib.hid ht
  have HS := Lib.hid hs
  have HN := Lib.hid hn
  have HY := Lib.hid hy
  rw [hn] at hl ⊢
  clear h ht hs hn hy
  go_enter Tryz.func61, Tryz.ntmps61
  go_wp2_with fail
  go_loopw [5, 10] (fun v i wr => ∃ k : Nat, k ≤ n ∧ i = .int .i64 (k : Int) ∧ Hid (Cop_prep w.heap.size (l.take k) v wr) ∧ Hid (Below w.heap.size w wr)) (fun _ i _ => n - (intOf i).toNat)
  case atStart => exact ⟨0, Nat.zero_le _, rfl, Lib.hid (by rw [List.take_zero]; exact Cop_prep.nil _ _), Lib.hid (Below.refl _ _)⟩
  case round =>
    obtain ⟨k, hk, rfl, HR, HB⟩ := hrel
    by_cases hlt : k < n
    · have hlk : k < l.length := by have := HN.out; omega
      have hyk : k < ys.length := by have := HY.out; omega
      obtain ⟨b, off, hA, hr0⟩ := HH.out k (by rw [List.length_zipWith]; omega)
      subst hA
      rw [List.getElem_zipWith] at hr0
      have hr := range_later hr0 HB.out
      clear hr0
      have HTK := Lib.hid (HT.out k hlk hyk)
      have HSK := Lib.hid (HS.out l[k] (List.getElem_mem hlk))
      obtain ⟨p, hp⟩ : ∃ p, l[k] = p := ⟨_, rfl⟩
      obtain ⟨y, hy⟩ : ∃ y, ys[k] = y := ⟨_, rfl⟩
      have HP : Hid (l.take k ++ [p] = l.take (k + 1)) := Lib.hid (by rw [← hp, List.take_succ_eq_append_getElem hlk])
      rw [hp, hy] at HTK
      rw [hp, hy] at hr
      rw [hp] at HSK
      clear hy hp
      have z0 : wr.cell? ⟨b, off + k * 5, none⟩ = some (.int .i64 p.tid.node) := hr 0 _ rfl
      have z1 : wr.cell? ⟨b, off + k * 5 + 1, none⟩ = some (.int .i64 p.tid.epoch) := hr 1 _ rfl
      have z2 : wr.cell? ⟨b, off + k * 5 + 2, none⟩ = some (.int .i64 p.tid.seq) := hr 2 _ rfl
      have z3 : wr.cell? ⟨b, off + k * 5 + 3, none⟩ = some (.slice y.A p.items.length y.c) := hr 3 _ rfl
      have z4 : wr.cell? ⟨b, off + k * 5 + 4, none⟩ = some (.slice y.B p.nodes.length y.d) := hr 4 _ rfl
      clear hr
      go_wp2_with fail
      obtain ⟨wz, hwz⟩ : ∃ v, v = wr.alloc (.cells #[.int .i64 p.tid.node, .int .i64 p.tid.epoch, .int .i64 p.tid.seq, .slice y.A p.items.length y.c, .slice y.B p.nodes.length y.d] 86) := ⟨_, rfl⟩
      have hbz : Below wr.heap.size wr wz := by rw [hwz]; exact below_alloc _ _
      rw [← hwz]
      clear hwz
      refine (clone_prep p y wz (HTK.out.later ((HB.out).trans (hbz.mono HB.out.size))) HSK.out).mono ?_
      rintro e w1 ⟨⟨z, rfl, hfr⟩, hb1⟩
      obtain ⟨v', w', hrun, hcop, hon⟩ := (HR.out.later hbz).more (Nat.le_trans HB.out.size hbz.size) p z w1 hb1 hfr (by rw [List.length_take]; omega) (w1.alloc (.cells #[.int .i64 p.tid.node, .int .i64 p.tid.epoch, .int .i64 p.tid.seq, .slice z.A p.items.length z.c, .slice z.B p.nodes.length z.d] 86)) (below_alloc _ _) w1.heap.size (cells_new w1 86 (p.vals z) _ rfl)
      rw [HP.out] at hcop
      have HRUN := Lib.hid hrun
      have HCOP := Lib.hid hcop
      have HBN : Hid (Below w.heap.size w w') := Lib.hid (HB.out.trans ((hbz.mono HB.out.size).trans (hon.below (Nat.le_trans HB.out.size hbz.size) fun j hj => by
        obtain ⟨zs, _, hrow, _⟩ := HR.out
        exact (hrow.lt j hj.symm).1)))
      clear hrun hcop hon hfr hb1 hbz
      unfold Pr.vals
      go_wp2_with (at_builtin
                   refine Lib.wpList_append_run _ rfl _ _ 28 28 rfl _ _ rfl rfl _ _ HRUN.out ?_)
      go_roundw
      case rel => exact ⟨k + 1, by omega, by go_num, HCOP, HBN⟩
      case measure => simp [intOf]; omega
    · have HR2 : Hid (Cop_prep w.heap.size l u5 wr) := Lib.hid (by
        have h := HR.out
        rw [List.take_of_length_le (by have := HN.out; omega)] at h
        exact h)
      go_wp2_with fail
      go_returns
      exact ⟨⟨_, rfl, HR2.out⟩, HB.out⟩
/-- A list of clones, in a row of the call's own. -/
def Cop_com (B : Nat) (l : List Co) (v : Value) (w : World) : Prop := ∃ zs : List Lay, zs.length = l.length ∧ w.ownsRow B 88 6 v l.length (List.zipWith Co.vals l zs).flatten ∧
  ∀ k (h : k < l.length) (h' : k < zs.length), Fr (fun j => some j = v.ownBlock ∨ j < B) w l[k].items l[k].nodes zs[k]
theorem Cop_com.nil (B : Nat) (w : World) : Cop_com B [] (.slice none 0 0) w := ⟨[], rfl, by simpa using World.ownsRow_nil _ _ _ _, fun j h _ => absurd h (by simp)⟩
theorem Cop_com.later {B : Nat} {l : List Co} {v : Value} {w w' : World} (h : Cop_com B l v w) (hb : Below w.heap.size w w') : Cop_com B l v w' := by
  obtain ⟨zs, hz, hrow, hin⟩ := h
  exact ⟨zs, hz, row_only hrow (Only.of_below (S := fun _ => False) hb) fun _ _ e => e, fun k h1 h2 => (hin k h1 h2).later hb⟩
/-- One clone more. -/
theorem Cop_com.more {B : Nat} {l : List Co} {v : Value} {w : World} (h : Cop_com B l v w) (hB : B ≤ w.heap.size) (p : Co) (z : Lay) (w1 : World) (hb1 : Below w.heap.size w w1) (hfr : Fresh w.heap.size w1 p.items p.nodes z) (hl : l.length ≤ 100000) (wb : World) (hwb : Below w1.heap.size w1 wb) (g : Nat) (hg : Cells wb g 88 (p.vals z)) :
    ∃ v' w', (Builtin.append_ #[30, 30] 30 #[v, .slice (some ⟨g, 0, none⟩) 1 1]).run Tryz.prog wb = .ok v' w' ∧ Cop_com B (l ++ [p]) v' w' ∧ Only (fun k => some k = v.ownBlock) w w' := by
  obtain ⟨zs, hz, hrow, hin⟩ := h
  have hb2 : Below w.heap.size w wb := hb1.trans (hwb.mono hb1.size)
  have hlen : (List.zipWith Co.vals l zs).length = l.length := by rw [List.length_zipWith, hz]; exact Nat.min_self _
  have hrow' : wb.ownsRow B 88 6 v (List.zipWith Co.vals l zs).length (List.zipWith Co.vals l zs).flatten := by
    rw [hlen]
    exact row_only hrow (Only.of_below (S := fun _ => False) hb2) fun _ _ e => e
  have hfx : Fit 6 [p.vals z] := ⟨fun u hu => by rw [List.mem_singleton.1 hu]; rfl, fun u hu => by rw [List.mem_singleton.1 hu]; exact co_one p z⟩
  obtain ⟨v', w', hrun, hr2, hgr, hnew⟩ := run_append_rows el_com wb 30 B v (List.zipWith Co.vals l zs) [p.vals z] (some ⟨g, 0, none⟩) 1 (fit_com l zs) hfx hrow' (cells_sl (by simpa using hg) hfx.len) (fun e => by cases e) (by rw [hlen, List.length_singleton]; omega) (Nat.le_trans hB hb2.size)
  have hgo := Only.of_grown hgr
  have hvlt : ∀ k, some k = v.ownBlock → k < w.heap.size := fun k hk => (hrow.lt k hk.symm).2
  have hT : ∀ (W : World), wb.heap.size ≥ W.heap.size → ∀ k, (some k = v'.ownBlock ∨ k < B) → (some k = v.ownBlock ∨ k < B) ∨ W.heap.size ≤ k := fun W hW k hk => by
    rcases hk with hk | hk
    · rcases hnew with e | e
      · rw [e] at hk; exact Or.inl (Or.inl hk)
      · rw [e] at hk; obtain rfl := Option.some.inj hk; exact Or.inr hW
    · exact Or.inl (Or.inr hk)
  refine ⟨v', w', hrun, ⟨zs ++ [z], by simp [hz], ?_, ?_⟩, (Only.of_below hb2).trans hgo fun _ _ e => e⟩
  · have e1 : List.zipWith Co.vals (l ++ [p]) (zs ++ [z]) = List.zipWith Co.vals l zs ++ [p.vals z] := by rw [List.zipWith_append hz.symm]; rfl
    rw [e1]
    have e2 : (List.zipWith Co.vals l zs ++ [p.vals z]).length = (l ++ [p]).length := by rw [List.length_append, List.length_append, hlen]; rfl
    rw [← e2]
    exact hr2
  · intro k hk hk'
    by_cases hlt : k < l.length
    · rw [List.getElem_append_left hlt, List.getElem_append_left (by omega)]
      exact ((hin k hlt (by omega)).later hb2).next (hgo.mono fun _ _ e => Or.inl e) (hT wb (Nat.le_refl _))
    · have hk2 : k = l.length := by simp at hk; omega
      subst hk2
      rw [List.getElem_append_right (Nat.le_refl _), List.getElem_append_right (by omega)]
      simp only [Nat.sub_self, hz, List.getElem_singleton]
      refine ((Fr.of_fresh hfr).later hwb).next (hgo.mono fun k _ e => by exact hvlt k e) fun k hk => ?_
      rcases hT wb (Nat.le_refl _) k hk with (e | e) | e
      · exact Or.inl (hvlt k e)
      · exact Or.inl (Nat.lt_of_lt_of_le e hB)
      · exact Or.inr e
set_option maxHeartbeats 2000000 in
theorem copies_com (A : Option Addr) (l : List Co) (ys : List Lay) (cap : Nat) (w : World) (h : Sl w A 6 (List.zipWith Co.vals l ys)) (hy : ys.length = l.length) (hl : l.length ≤ 100000)
    (ht : ∀ k (h : k < l.length) (h' : k < ys.length), Two w l[k].items l[k].nodes ys[k]) (hs : ∀ p ∈ l, p.items.length ≤ 100000 ∧ p.nodes.length ≤ 100000) :
    Calls Tryz.prog 63 #[.slice A l.length cap, .func (.func 64) #[] #[]] w fun e w' => (∃ v, e = .returned v ∧ Cop_com w.heap.size l v w') ∧ Below w.heap.size w w' := by
  obtain ⟨n, hn⟩ : ∃ n, l.length = n := ⟨_, rfl⟩
  have HH := Lib.hid h
  have HT := Lib.hid ht
  have HS := Lib.hid hs
  have HN := Lib.hid hn
  have HY := Lib.hid hy
  rw [hn] at hl ⊢
  clear h ht hs hn hy
  go_enter Tryz.func63, Tryz.ntmps63
  go_wp2_with fail
  go_loopw [5, 10] (fun v i wr => ∃ k : Nat, k ≤ n ∧ i = .int .i64 (k : Int) ∧ Hid (Cop_com w.heap.size (l.take k) v wr) ∧ Hid (Below w.heap.size w wr)) (fun _ i _ => n - (intOf i).toNat)
  case atStart => exact ⟨0, Nat.zero_le _, rfl, Lib.hid (by rw [List.take_zero]; exact Cop_com.nil _ _), Lib.hid (Below.refl _ _)⟩
  case round =>
    obtain ⟨k, hk, rfl, HR, HB⟩ := hrel
    by_cases hlt : k < n
    · have hlk : k < l.length := by have := HN.out; omega
      have hyk : k < ys.length := by have := HY.out; omega
      obtain ⟨b, off, hA, hr0⟩ := HH.out k (by rw [List.length_zipWith]; omega)
      subst hA
      rw [List.getElem_zipWith] at hr0
      have hr := range_later hr0 HB.out
      clear hr0
      have HTK := Lib.hid (HT.out k hlk hyk)
      have HSK := Lib.hid (HS.out l[k] (List.getElem_mem hlk))
      obtain ⟨p, hp⟩ : ∃ p, l[k] = p := ⟨_, rfl⟩
      obtain ⟨y, hy⟩ : ∃ y, ys[k] = y := ⟨_, rfl⟩
      have HP : Hid (l.take k ++ [p] = l.take (k + 1)) := Lib.hid (by rw [← hp, List.take_succ_eq_append_getElem hlk])
      rw [hp, hy] at HTK
      rw [hp, hy] at hr
      rw [hp] at HSK
      clear hy hp
      have z0 : wr.cell? ⟨b, off + k * 6, none⟩ = some (.int .i64 p.tid.node) := hr 0 _ rfl
      have z1 : wr.cell? ⟨b, off + k * 6 + 1, none⟩ = some (.int .i64 p.tid.epoch) := hr 1 _ rfl
      have z2 : wr.cell? ⟨b, off + k * 6 + 2, none⟩ = some (.int .i64 p.tid.seq) := hr 2 _ rfl
      have z3 : wr.cell? ⟨b, off + k * 6 + 3, none⟩ = some (.slice y.A p.items.length y.c) := hr 3 _ rfl
      have z4 : wr.cell? ⟨b, off + k * 6 + 4, none⟩ = some (.slice y.B p.nodes.length y.d) := hr 4 _ rfl
      have z5 : wr.cell? ⟨b, off + k * 6 + 5, none⟩ = some (.bool p.over) := hr 5 _ rfl
      clear hr
      go_wp2_with fail
      obtain ⟨wz, hwz⟩ : ∃ v, v = wr.alloc (.cells #[.int .i64 p.tid.node, .int .i64 p.tid.epoch, .int .i64 p.tid.seq, .slice y.A p.items.length y.c, .slice y.B p.nodes.length y.d, .bool p.over] 88) := ⟨_, rfl⟩
      have hbz : Below wr.heap.size wr wz := by rw [hwz]; exact below_alloc _ _
      rw [← hwz]
      clear hwz
      refine (clone_com p y wz (HTK.out.later ((HB.out).trans (hbz.mono HB.out.size))) HSK.out).mono ?_
      rintro e w1 ⟨⟨z, rfl, hfr⟩, hb1⟩
      obtain ⟨v', w', hrun, hcop, hon⟩ := (HR.out.later hbz).more (Nat.le_trans HB.out.size hbz.size) p z w1 hb1 hfr (by rw [List.length_take]; omega) (w1.alloc (.cells #[.int .i64 p.tid.node, .int .i64 p.tid.epoch, .int .i64 p.tid.seq, .slice z.A p.items.length z.c, .slice z.B p.nodes.length z.d, .bool p.over] 88)) (below_alloc _ _) w1.heap.size (cells_new w1 88 (p.vals z) _ rfl)
      rw [HP.out] at hcop
      have HRUN := Lib.hid hrun
      have HCOP := Lib.hid hcop
      have HBN : Hid (Below w.heap.size w w') := Lib.hid (HB.out.trans ((hbz.mono HB.out.size).trans (hon.below (Nat.le_trans HB.out.size hbz.size) fun j hj => by
        obtain ⟨zs, _, hrow, _⟩ := HR.out
        exact (hrow.lt j hj.symm).1)))
      clear hrun hcop hon hfr hb1 hbz
      unfold Co.vals
      go_wp2_with (at_builtin
                   refine Lib.wpList_append_run _ rfl _ _ 30 30 rfl _ _ rfl rfl _ _ HRUN.out ?_)
      go_roundw
      case rel => exact ⟨k + 1, by omega, by go_num, HCOP, HBN⟩
      case measure => simp [intOf]; omega
    · have HR2 : Hid (Cop_com w.heap.size l u5 wr) := Lib.hid (by
        have h := HR.out
        rw [List.take_of_length_le (by have := HN.out; omega)] at h
        exact h)
      go_wp2_with fail
      go_returns
      exact ⟨⟨_, rfl, HR2.out⟩, HB.out⟩
end Go.Proofs.YtalhbblmnahcdaaGreat.Led
