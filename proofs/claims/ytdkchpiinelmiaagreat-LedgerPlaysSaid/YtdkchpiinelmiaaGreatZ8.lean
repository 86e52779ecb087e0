/- Part 8 of the proof. Conditions: none. -/
import Derived.Test.YtdkchpiinelmiaaGreatZ7
namespace Go.Proofs.YtdkchpiinelmiaaGreat.Led
set_option maxRecDepth 100000
open Go.RowKit Go.Deep Mem fN Rec
def Fr (S : Nat -> Prop) (w : World) (x : List It) (n : List Int) (y : Lay) : Prop := ∀ w', Only S w w' -> Two w' x n y
theorem Fr.two {S : Nat -> Prop} {w : World} {x : List It} {n : List Int} {y : Lay} (h : Fr S w x n y) : Two w x n y := h w (Only.refl _ _)
theorem Fr.next {S T : Nat -> Prop} {w w' : World} {x : List It} {n : List Int} {y : Lay} (h : Fr S w x n y) (ho : Only S w w') (ht : ∀ k, T k -> S k \/ w.heap.size <= k) : Fr T w' x n y := fun w2 h2 => h w2 (ho.trans h2 fun k hk ht' => (ht k ht').resolve_right (by omega))
theorem Fr.later {S : Nat -> Prop} {w w' : World} {x : List It} {n : List Int} {y : Lay} (h : Fr S w x n y) (hb : Below w.heap.size w w') : Fr S w' x n y := h.next (Only.of_below hb) fun _ hk => Or.inl hk
theorem Fr.mF {B : Nat} {w : World} {x : List It} {n : List Int} {y : Lay} (h : qZ B w x n y) : Fr (fun k => k < B) w x n y := h
def bX (B : Nat) (l : List Pr) (v : Value) (w : World) : Prop := ∃ zs : List Lay, zs.length = l.length /\ w.ownsRow B 78 5 v l.length (List.zipWith Pr.vals l zs).flatten /\
  ∀ k (h : k < l.length) (h' : k < zs.length), Fr (fun j => some j = v.ownBlock \/ j < B) w l[k].items l[k].nodes zs[k]
theorem bX.nil (B : Nat) (w : World) : bX B [] (.slice none 0 0) w := ⟨[], rfl, by simpa using World.ownsRow_nil _ _ _ _, fun j h _ => absurd h (by simp)⟩
theorem bX.later {B : Nat} {l : List Pr} {v : Value} {w w' : World} (h : bX B l v w) (hb : Below w.heap.size w w') : bX B l v w' := by
  obtain ⟨zs, hz, hrow, hin⟩ := h; exact ⟨zs, hz, aF hrow (Only.of_below (S := fun _ => False) hb) fun _ _ e => e, fun k h1 h2 => (hin k h1 h2).later hb⟩
theorem bX.more {B : Nat} {l : List Pr} {v : Value} {w : World} (h : bX B l v w) (hB : B <= w.heap.size) (p : Pr) (z : Lay) (w1 : World) (hb1 : Below w.heap.size w w1) (hfr : qZ w.heap.size w1 p.items p.nodes z) (hl : l.length <= 100000) (wb : World) (hwb : Below w1.heap.size w1 wb) (g : Nat) (hg : Cells wb g 78 (p.vals z)) :
    ∃ v' w', (Builtin.append_ #[28, 28] 28 #[v, .slice (some ⟨g, 0, none⟩) 1 1]).run Tryz.prog wb = .ok v' w' /\ bX B (l ++ [p]) v' w' /\ Only (fun k => some k = v.ownBlock) w w' := by
  obtain ⟨zs, hz, hrow, hin⟩ := h; have hb2 : Below w.heap.size w wb := hb1.trans (hwb.mono hb1.size); have hlen : (List.zipWith Pr.vals l zs).length = l.length := by rw [List.length_zipWith, hz]; exact Nat.min_self _
  have hrow' : wb.ownsRow B 78 5 v (List.zipWith Pr.vals l zs).length (List.zipWith Pr.vals l zs).flatten := by
    rw [hlen]; exact aF hrow (Only.of_below (S := fun _ => False) hb2) fun _ _ e => e
  have hfx : Fit 5 [p.vals z] := ⟨fun u hu => by rw [List.mem_singleton.1 hu]; rfl, fun u hu => by rw [List.mem_singleton.1 hu]; exact vP p z⟩; obtain ⟨v', w', hrun, hr2, hgr, hnew⟩ := aZ mA wb 28 B v (List.zipWith Pr.vals l zs) [p.vals z] (some ⟨g, 0, none⟩) 1 (h_ l zs) hfx hrow' (cW (by simpa using hg) hfx.len) (fun e => by cases e) (by rw [hlen, List.length_singleton]; omega) (Nat.le_trans hB hb2.size); have hgo := Only.fP hgr; have Gj : ∀ k, some k = v.ownBlock -> k < w.heap.size := fun k hk => (hrow.lt k hk.symm).2
  have hT : ∀ (W : World), wb.heap.size >= W.heap.size -> ∀ k, (some k = v'.ownBlock \/ k < B) -> (some k = v.ownBlock \/ k < B) \/ W.heap.size <= k := fun W hW k hk => by
    rcases hk with hk | hk
    · rcases hnew with e | e
      · rw [e] at hk; exact Or.inl (Or.inl hk)
      rw [e] at hk; obtain rfl := Option.some.inj hk; exact Or.inr hW
    exact Or.inl (Or.inr hk)
  refine ⟨v', w', hrun, ⟨zs ++ [z], by simp [hz], ?_, ?_⟩, (Only.of_below hb2).trans hgo fun _ _ e => e⟩
  · have e1 : List.zipWith Pr.vals (l ++ [p]) (zs ++ [z]) = List.zipWith Pr.vals l zs ++ [p.vals z] := by rw [List.zipWith_append hz.symm]; rfl
    rw [e1]; have e2 : (List.zipWith Pr.vals l zs ++ [p.vals z]).length = (l ++ [p]).length := by rw [List.length_append, List.length_append, hlen]; rfl
    rw [<- e2]; exact hr2
  intro k hk hk'
  by_cases hlt : k < l.length
  · rw [List.getElem_append_left hlt, List.getElem_append_left (by omega)]
    exact ((hin k hlt (by omega)).later hb2).next (hgo.mono fun _ _ e => Or.inl e) (hT wb (Nat.le_refl _))
  have hk2 : k = l.length := by simp at hk; omega
  subst hk2; rw [List.getElem_append_right (Nat.le_refl _), List.getElem_append_right (by omega)]; simp only [Nat.sub_self, hz, List.getElem_singleton]; refine ((Fr.mF hfr).later hwb).next (hgo.mono fun k _ e => by exact Gj k e) fun k hk => ?_
  rcases hT wb (Nat.le_refl _) k hk with (e | e) | e
  · exact Or.inl (Gj k e)
  · exact Or.inl (Nat.lt_of_lt_of_le e hB)
  exact Or.inr e
set_option maxHeartbeats 2000000 in
theorem yY (A : Option Addr) (l : List Pr) (ys : List Lay) (cap : Nat) (w : World) (h : Sl w A 5 (List.zipWith Pr.vals l ys)) (hy : ys.length = l.length) (hl : l.length <= 100000)
    (ht : ∀ k (h : k < l.length) (h' : k < ys.length), Two w l[k].items l[k].nodes ys[k]) (hs : ∀ p ∈ l, p.items.length <= 100000 /\ p.nodes.length <= 100000) :
    Calls Tryz.prog 52 #[.slice A l.length cap, .func (.func 53) #[] #[]] w fun e w' => (∃ v, e = .returned v /\ bX w.heap.size l v w') /\ Below w.heap.size w w' := by
  obtain ⟨n, hn⟩ := ah l.length; have HH := ak h; have HT := ak ht; have HS := ak hs; have HN := ak hn; have HY := ak hy; rw [hn] at hl ⊢; clear h ht hs hn hy
  go_enter Tryz.func52, Tryz.ntmps52
  go_wp2_with fail
  go_loopw [5, 10] (fun v i wr => ∃ k : Nat, k <= n /\ i = iv (k : Int) /\ Hid (bX w.heap.size (l.take k) v wr) /\ Hid (Below w.heap.size w wr)) (fun _ i _ => n - (intOf i).toNat)
  case atStart => exact ⟨0, Nat.zero_le _, rfl, ak (by rw [List.take_zero]; exact bX.nil _ _), ak (Below.refl _ _)⟩
  case round =>
    obtain ⟨k, hk, rfl, HR, HB⟩ := hrel
    by_cases hlt : k < n
    · have hlk : k < l.length := by have := HN.o; omega
      have hyk : k < ys.length := by have := HY.o; omega
      obtain ⟨b, off, hA, bS⟩ := HH.o k (by rw [List.length_zipWith]; omega); subst hA; rw [List.getElem_zipWith] at bS; have hr := aM bS HB.o; clear bS; have qW := ak (HT.o k hlk hyk); have Lc := ak (HS.o l[k] (List.getElem_mem hlk)); obtain ⟨p, hp⟩ := ah (l[k]); obtain ⟨y, hy⟩ := ah (ys[k]); have HP : Hid (l.take k ++ [p] = l.take (k + 1)) := ak (by rw [<- hp, List.take_succ_eq_append_getElem hlk]); rw [hp, hy] at qW; rw [hp, hy] at hr; rw [hp] at Lc; clear hy hp; have z0 : wr.cell? ⟨b, off + k * 5, none⟩ = some (iv p.tid.node) := hr 0 _ rfl; have z1 : wr.cell? ⟨b, off + k * 5 + 1, none⟩ = some (iv p.tid.epoch) := hr 1 _ rfl; have z2 : wr.cell? ⟨b, off + k * 5 + 2, none⟩ = some (iv p.tid.seq) := hr 2 _ rfl; have z3 : wr.cell? ⟨b, off + k * 5 + 3, none⟩ = some (.slice y.A p.items.length y.c) := hr 3 _ rfl; have z4 : wr.cell? ⟨b, off + k * 5 + 4, none⟩ = some (.slice y.B p.nodes.length y.d) := hr 4 _ rfl; clear hr
      go_wp2_with fail
      obtain ⟨wz, hwz⟩ := aj (wr.alloc (.cells #[iv p.tid.node, iv p.tid.epoch, iv p.tid.seq, .slice y.A p.items.length y.c, .slice y.B p.nodes.length y.d] 78)); have hbz : Below wr.heap.size wr wz := by rw [hwz]; exact av _ _
      rw [<- hwz]; clear hwz; refine (tJ p y wz (qW.o.later ((HB.o).trans (hbz.mono HB.o.size))) Lc.o).mono ?_; rintro e w1 ⟨⟨z, rfl, hfr⟩, hb1⟩; obtain ⟨v', w', hrun, zK, tU⟩ := (HR.o.later hbz).more (Nat.le_trans HB.o.size hbz.size) p z w1 hb1 hfr (by rw [List.length_take]; omega) (w1.alloc (.cells #[iv p.tid.node, iv p.tid.epoch, iv p.tid.seq, .slice z.A p.items.length z.c, .slice z.B p.nodes.length z.d] 78)) (av _ _) w1.heap.size (aB w1 78 (p.vals z) _ rfl); rw [HP.o] at zK; have dQ := ak hrun; have Tx := ak zK; have Y0 : Hid (Below w.heap.size w w') := ak (HB.o.trans ((hbz.mono HB.o.size).trans (tU.below (Nat.le_trans HB.o.size hbz.size) fun j hj => by
        obtain ⟨zs, _, hrow, _⟩ := HR.o; exact (hrow.lt j hj.symm).1)))
      clear hrun zK tU hfr hb1 hbz; unfold Pr.vals
      go_wp2_with (at_builtin
                   refine Lib.wpList_append_run _ rfl _ _ 28 28 rfl _ _ rfl rfl _ _ dQ.o ?_)
      go_roundw
      case rel => exact ⟨k + 1, by omega, by go_num, Tx, Y0⟩
      case measure => simp [intOf]; omega
    have vH : Hid (bX w.heap.size l u5 wr) := ak (by
      have h := HR.o; rw [List.take_of_length_le (by have := HN.o; omega)] at h
      exact h)
    go_wp2_with fail
    go_returns
    exact ⟨⟨_, rfl, vH.o⟩, HB.o⟩
def cZ (B : Nat) (l : List Co) (v : Value) (w : World) : Prop := ∃ zs : List Lay, zs.length = l.length /\ w.ownsRow B 80 6 v l.length (List.zipWith Co.vals l zs).flatten /\
  ∀ k (h : k < l.length) (h' : k < zs.length), Fr (fun j => some j = v.ownBlock \/ j < B) w l[k].items l[k].nodes zs[k]
theorem cZ.nil (B : Nat) (w : World) : cZ B [] (.slice none 0 0) w := ⟨[], rfl, by simpa using World.ownsRow_nil _ _ _ _, fun j h _ => absurd h (by simp)⟩
theorem cZ.later {B : Nat} {l : List Co} {v : Value} {w w' : World} (h : cZ B l v w) (hb : Below w.heap.size w w') : cZ B l v w' := by
  obtain ⟨zs, hz, hrow, hin⟩ := h; exact ⟨zs, hz, aF hrow (Only.of_below (S := fun _ => False) hb) fun _ _ e => e, fun k h1 h2 => (hin k h1 h2).later hb⟩
theorem cZ.more {B : Nat} {l : List Co} {v : Value} {w : World} (h : cZ B l v w) (hB : B <= w.heap.size) (p : Co) (z : Lay) (w1 : World) (hb1 : Below w.heap.size w w1) (hfr : qZ w.heap.size w1 p.items p.nodes z) (hl : l.length <= 100000) (wb : World) (hwb : Below w1.heap.size w1 wb) (g : Nat) (hg : Cells wb g 80 (p.vals z)) :
    ∃ v' w', (Builtin.append_ #[30, 30] 30 #[v, .slice (some ⟨g, 0, none⟩) 1 1]).run Tryz.prog wb = .ok v' w' /\ cZ B (l ++ [p]) v' w' /\ Only (fun k => some k = v.ownBlock) w w' := by
  obtain ⟨zs, hz, hrow, hin⟩ := h; have hb2 : Below w.heap.size w wb := hb1.trans (hwb.mono hb1.size); have hlen : (List.zipWith Co.vals l zs).length = l.length := by rw [List.length_zipWith, hz]; exact Nat.min_self _
  have hrow' : wb.ownsRow B 80 6 v (List.zipWith Co.vals l zs).length (List.zipWith Co.vals l zs).flatten := by
    rw [hlen]; exact aF hrow (Only.of_below (S := fun _ => False) hb2) fun _ _ e => e
  have hfx : Fit 6 [p.vals z] := ⟨fun u hu => by rw [List.mem_singleton.1 hu]; rfl, fun u hu => by rw [List.mem_singleton.1 hu]; exact vQ p z⟩; obtain ⟨v', w', hrun, hr2, hgr, hnew⟩ := aZ GV wb 30 B v (List.zipWith Co.vals l zs) [p.vals z] (some ⟨g, 0, none⟩) 1 (iI l zs) hfx hrow' (cW (by simpa using hg) hfx.len) (fun e => by cases e) (by rw [hlen, List.length_singleton]; omega) (Nat.le_trans hB hb2.size); have hgo := Only.fP hgr; have Gj : ∀ k, some k = v.ownBlock -> k < w.heap.size := fun k hk => (hrow.lt k hk.symm).2
  have hT : ∀ (W : World), wb.heap.size >= W.heap.size -> ∀ k, (some k = v'.ownBlock \/ k < B) -> (some k = v.ownBlock \/ k < B) \/ W.heap.size <= k := fun W hW k hk => by
    rcases hk with hk | hk
    · rcases hnew with e | e
      · rw [e] at hk; exact Or.inl (Or.inl hk)
      rw [e] at hk; obtain rfl := Option.some.inj hk; exact Or.inr hW
    exact Or.inl (Or.inr hk)
  refine ⟨v', w', hrun, ⟨zs ++ [z], by simp [hz], ?_, ?_⟩, (Only.of_below hb2).trans hgo fun _ _ e => e⟩
  · have e1 : List.zipWith Co.vals (l ++ [p]) (zs ++ [z]) = List.zipWith Co.vals l zs ++ [p.vals z] := by rw [List.zipWith_append hz.symm]; rfl
    rw [e1]; have e2 : (List.zipWith Co.vals l zs ++ [p.vals z]).length = (l ++ [p]).length := by rw [List.length_append, List.length_append, hlen]; rfl
    rw [<- e2]; exact hr2
  intro k hk hk'
  by_cases hlt : k < l.length
  · rw [List.getElem_append_left hlt, List.getElem_append_left (by omega)]
    exact ((hin k hlt (by omega)).later hb2).next (hgo.mono fun _ _ e => Or.inl e) (hT wb (Nat.le_refl _))
  have hk2 : k = l.length := by simp at hk; omega
  subst hk2; rw [List.getElem_append_right (Nat.le_refl _), List.getElem_append_right (by omega)]; simp only [Nat.sub_self, hz, List.getElem_singleton]; refine ((Fr.mF hfr).later hwb).next (hgo.mono fun k _ e => by exact Gj k e) fun k hk => ?_
  rcases hT wb (Nat.le_refl _) k hk with (e | e) | e
  · exact Or.inl (Gj k e)
  · exact Or.inl (Nat.lt_of_lt_of_le e hB)
  exact Or.inr e
set_option maxHeartbeats 2000000 in
theorem AX (A : Option Addr) (l : List Co) (ys : List Lay) (cap : Nat) (w : World) (h : Sl w A 6 (List.zipWith Co.vals l ys)) (hy : ys.length = l.length) (hl : l.length <= 100000)
    (ht : ∀ k (h : k < l.length) (h' : k < ys.length), Two w l[k].items l[k].nodes ys[k]) (hs : ∀ p ∈ l, p.items.length <= 100000 /\ p.nodes.length <= 100000) :
    Calls Tryz.prog 54 #[.slice A l.length cap, .func (.func 55) #[] #[]] w fun e w' => (∃ v, e = .returned v /\ cZ w.heap.size l v w') /\ Below w.heap.size w w' := by
  obtain ⟨n, hn⟩ := ah l.length; have HH := ak h; have HT := ak ht; have HS := ak hs; have HN := ak hn; have HY := ak hy; rw [hn] at hl ⊢; clear h ht hs hn hy
  go_enter Tryz.func54, Tryz.ntmps54
  go_wp2_with fail
  go_loopw [5, 10] (fun v i wr => ∃ k : Nat, k <= n /\ i = iv (k : Int) /\ Hid (cZ w.heap.size (l.take k) v wr) /\ Hid (Below w.heap.size w wr)) (fun _ i _ => n - (intOf i).toNat)
  case atStart => exact ⟨0, Nat.zero_le _, rfl, ak (by rw [List.take_zero]; exact cZ.nil _ _), ak (Below.refl _ _)⟩
  case round =>
    obtain ⟨k, hk, rfl, HR, HB⟩ := hrel
    by_cases hlt : k < n
    · have hlk : k < l.length := by have := HN.o; omega
      have hyk : k < ys.length := by have := HY.o; omega
      obtain ⟨b, off, hA, bS⟩ := HH.o k (by rw [List.length_zipWith]; omega); subst hA; rw [List.getElem_zipWith] at bS; have hr := aM bS HB.o; clear bS; have qW := ak (HT.o k hlk hyk); have Lc := ak (HS.o l[k] (List.getElem_mem hlk)); obtain ⟨p, hp⟩ := ah (l[k]); obtain ⟨y, hy⟩ := ah (ys[k]); have HP : Hid (l.take k ++ [p] = l.take (k + 1)) := ak (by rw [<- hp, List.take_succ_eq_append_getElem hlk]); rw [hp, hy] at qW; rw [hp, hy] at hr; rw [hp] at Lc; clear hy hp; have z0 : wr.cell? ⟨b, off + k * 6, none⟩ = some (iv p.tid.node) := hr 0 _ rfl; have z1 : wr.cell? ⟨b, off + k * 6 + 1, none⟩ = some (iv p.tid.epoch) := hr 1 _ rfl; have z2 : wr.cell? ⟨b, off + k * 6 + 2, none⟩ = some (iv p.tid.seq) := hr 2 _ rfl; have z3 : wr.cell? ⟨b, off + k * 6 + 3, none⟩ = some (.slice y.A p.items.length y.c) := hr 3 _ rfl; have z4 : wr.cell? ⟨b, off + k * 6 + 4, none⟩ = some (.slice y.B p.nodes.length y.d) := hr 4 _ rfl; have z5 : wr.cell? ⟨b, off + k * 6 + 5, none⟩ = some (.bool p.over) := hr 5 _ rfl; clear hr
      go_wp2_with fail
      obtain ⟨wz, hwz⟩ := aj (wr.alloc (.cells #[iv p.tid.node, iv p.tid.epoch, iv p.tid.seq, .slice y.A p.items.length y.c, .slice y.B p.nodes.length y.d, .bool p.over] 80)); have hbz : Below wr.heap.size wr wz := by rw [hwz]; exact av _ _
      rw [<- hwz]; clear hwz; refine (vo p y wz (qW.o.later ((HB.o).trans (hbz.mono HB.o.size))) Lc.o).mono ?_; rintro e w1 ⟨⟨z, rfl, hfr⟩, hb1⟩; obtain ⟨v', w', hrun, zK, tU⟩ := (HR.o.later hbz).more (Nat.le_trans HB.o.size hbz.size) p z w1 hb1 hfr (by rw [List.length_take]; omega) (w1.alloc (.cells #[iv p.tid.node, iv p.tid.epoch, iv p.tid.seq, .slice z.A p.items.length z.c, .slice z.B p.nodes.length z.d, .bool p.over] 80)) (av _ _) w1.heap.size (aB w1 80 (p.vals z) _ rfl); rw [HP.o] at zK; have dQ := ak hrun; have Tx := ak zK; have Y0 : Hid (Below w.heap.size w w') := ak (HB.o.trans ((hbz.mono HB.o.size).trans (tU.below (Nat.le_trans HB.o.size hbz.size) fun j hj => by
        obtain ⟨zs, _, hrow, _⟩ := HR.o; exact (hrow.lt j hj.symm).1)))
      clear hrun zK tU hfr hb1 hbz; unfold Co.vals
      go_wp2_with (at_builtin
                   refine Lib.wpList_append_run _ rfl _ _ 30 30 rfl _ _ rfl rfl _ _ dQ.o ?_)
      go_roundw
      case rel => exact ⟨k + 1, by omega, by go_num, Tx, Y0⟩
      case measure => simp [intOf]; omega
    have vH : Hid (cZ w.heap.size l u5 wr) := ak (by
      have h := HR.o; rw [List.take_of_length_le (by have := HN.o; omega)] at h
      exact h)
    go_wp2_with fail
    go_returns
    exact ⟨⟨_, rfl, vH.o⟩, HB.o⟩
