/-
  Layer 8's laws: a state as the document has it.
  Conditions: none.
-/
import Derived.Test.YtalhbblmnahcdaaGreatPa14
import Derived.Test.YtalhbblmnahcdaaGreatPa15
namespace Go.Proofs.YtalhbblmnahcdaaGreat.Led
set_option maxRecDepth 100000
open Go.RowKit Go.Deep Go.Proofs.YtalhbblmnahcdaaGreat.Mem Go.Proofs.YtalhbblmnahcdaaGreat.Item Go.Proofs.YtalhbblmnahcdaaGreat.Rec
def sT : Nat → TypeId
  | 0 => 36
  | 1 => 37
  | 2 => 38
  | _ => 39
def eT : Nat → TypeId
  | 0 => 77
  | 1 => 79
  | 2 => 83
  | _ => 85
def szT : Nat → Nat
  | 0 => 5
  | 1 => 5
  | 2 => 4
  | _ => 6
def byT : Nat → Nat
  | 0 => 40
  | 1 => 72
  | 2 => 32
  | _ => 80
def zT : Nat → Value
  | 0 => .agg #[.int .i64 0, .int .i64 0, .int .i64 0, .int .i64 0, .int .i64 0]
  | 1 => .agg #[.int .i64 0, .int .i64 0, .int .i64 0, .slice none 0 0, .slice none 0 0]
  | 2 => .agg #[.int .i64 0, .int .i64 0, .int .i64 0, .bool false]
  | _ => .agg #[.int .i64 0, .int .i64 0, .int .i64 0, .slice none 0 0, .slice none 0 0, .bool false]
theorem el_ref : ∀ k, Elem (sT k) (eT k) (zT k) (szT k) (byT k)
  | 0 => ⟨Tryz.underlying36, by kernel_rfl, rfl, by decide, by decide⟩
  | 1 => ⟨Tryz.underlying37, by kernel_rfl, rfl, by decide, by decide⟩
  | 2 => ⟨Tryz.underlying38, by kernel_rfl, rfl, by decide, by decide⟩
  | _ + 3 => ⟨Tryz.underlying39, by kernel_rfl, rfl, by show 0 < 6; decide, by show 80 ≤ 100; decide⟩
def upd {α : Type} (f : Nat → α) (k : Nat) (v : α) : Nat → α := fun j => if j = k then v else f j
theorem upd_same {α : Type} (f : Nat → α) (k : Nat) (v : α) : upd f k v k = v := if_pos rfl
theorem upd_other {α : Type} (f : Nat → α) {j k : Nat} (v : α) (h : j ≠ k) : upd f k v j = f j := if_neg h
def rs0 : List Value := [.int .i64 0, .int .i64 0, .int .i64 0, .int .i64 0, .slice none 0 0, .slice none 0 0, .slice none 0 0, .slice none 0 0]
def hd4 (a b c d : Int) (V : Nat → Value) : List Value := [.int .i64 a, .int .i64 b, .int .i64 c, .int .i64 d, V 0, V 1, V 2, V 3]
/-- Structs that lie there, whatever is written up to block g. -/
def SlAt (g : Nat) (w : World) (A : Option Addr) (sz : Nat) (vs : List (List Value)) : Prop := ∀ w', Only (fun k => k ≤ g) w w' → Sl w' A sz vs
theorem sl_only {g g2 : Nat} {w w' : World} {A : Option Addr} {sz : Nat} {vs : List (List Value)} (h : SlAt g w A sz vs) (ho : Only (fun k => k = g2) w w') (hg : g2 ≤ g) : Sl w' A sz vs := h w' (ho.mono fun k _ e => by omega)
/-- Where the document's state is being made: the answer's cells at g2, the variable at g3, four rows of the call's own behind it. -/
structure Pn (W : World) (g2 g3 : Nat) (a b c d : Int) (V : Nat → Value) (L : Nat → List (List Value)) (wr : World) : Prop where
  low : Below W.heap.size W wr
  gt : W.heap.size ≤ g2 ∧ g2 < g3 ∧ g3 < wr.heap.size
  res : Cells wr g2 41 rs0
  cel : Cells wr g3 41 (hd4 a b c d V)
  row : ∀ k, k < 4 → wr.ownsRow (g3 + 1) (eT k) (szT k) (V k) (L k).length (L k).flatten
  fit : ∀ k, k < 4 → Fit (szT k) (L k)
  dis : ∀ j k, j < 4 → k < 4 → j ≠ k → ∀ i, (V j).ownBlock = some i → (V k).ownBlock ≠ some i
section
variable {W wr wq : World} {g2 g3 : Nat} {a b c d : Int} {V : Nat → Value} {L : Nat → List (List Value)}
theorem Pn.later (h : Pn W g2 g3 a b c d V L wr) (hb : Below wr.heap.size wr wq) : Pn W g2 g3 a b c d V L wq :=
  ⟨h.low.trans (hb.mono h.low.size), ⟨h.gt.1, h.gt.2.1, Nat.lt_of_lt_of_le h.gt.2.2 hb.size⟩, h.res.later hb, h.cel.later hb, fun k hk => row_only (h.row k hk) (Only.of_below (S := fun _ => False) hb) fun _ _ e => e, h.fit, h.dis⟩
/-- A struct more in a row. -/
theorem Pn.more (h : Pn W g2 g3 a b c d V L wr) (k : Nat) (hk : k < 4) (x : List Value) (hx : Fit (szT k) [x]) (hl : (L k).length ≤ 100000) (wb : World) (hb : Below wr.heap.size wr wb) (g : Nat) (hg : Cells wb g (eT k) x) :
    ∃ A n m w', (Builtin.append_ #[sT k, sT k] (sT k) #[V k, .slice (some ⟨g, 0, none⟩) 1 1]).run Tryz.prog wb = .ok (.slice A n m) w' ∧ w'.cell? ⟨g3, 4 + k, none⟩ = some (V k) ∧ w'.frozen? ⟨g3, 4 + k, none⟩ = false ∧
      Pn W g2 g3 a b c d (upd V k (.slice A n m)) (upd L k (L k ++ [x])) (w'.setCell ⟨g3, 4 + k, none⟩ (.slice A n m)) := by
  have h1 := h.later hb
  obtain ⟨v', w', hrun, hrow, hgr, hat⟩ := run_append_rows (el_ref k) wb (sT k) (g3 + 1) (V k) (L k) [x] (some ⟨g, 0, none⟩) 1 (h.fit k hk) hx (h1.row k hk) (cells_sl (by simpa using hg) hx.len) (fun e => by cases e) (by rw [List.length_singleton]; omega) h1.gt.2.2
  obtain ⟨A, m, hv, _⟩ := own_sl hrow ((h.fit k hk).app hx).len
  obtain ⟨n, hn⟩ : ∃ n, (L k ++ [x]).length = n := ⟨_, rfl⟩
  rw [hn] at hv
  subst hv
  have ho := Only.of_grown hgr
  have hV : ∀ j i, j < 4 → (V j).ownBlock = some i → g3 + 1 ≤ i ∧ i < wb.heap.size := fun j i hj hi => (h1.row j hj).lt i hi
  have hc := cells_only h1.cel ho fun e => by have := (hV k _ hk e.symm).1; omega
  have hat4 : (hd4 a b c d V)[4 + k]? = some (V k) := by
    rcases (show k = 0 ∨ k = 1 ∨ k = 2 ∨ k = 3 by omega) with rfl | rfl | rfl | rfl <;> rfl
  have hset : (hd4 a b c d V).set (4 + k) (.slice A n m) = hd4 a b c d (upd V k (.slice A n m)) := by
    rcases (show k = 0 ∨ k = 1 ∨ k = 2 ∨ k = 3 by omega) with rfl | rfl | rfl | rfl <;> rfl
  refine ⟨A, n, m, w', hrun, hc.cell hat4, hc.frozen (by show 4 + k < 8; omega), ?_⟩
  have ho2 : Only (fun i => some i = (V k).ownBlock ∨ i = g3) wb (w'.setCell ⟨g3, 4 + k, none⟩ (.slice A n m)) := (ho.mono fun _ _ e => Or.inl e).trans (Only.of_set w' ⟨g3, 4 + k, none⟩ _) fun _ _ e => Or.inr e
  have hs3 := Only.of_set w' ⟨g3, 4 + k, none⟩ (.slice A n m)
  refine ⟨h1.low.trans (ho2.below h1.low.size fun i hi => ?_), ⟨h1.gt.1, h1.gt.2.1, Nat.lt_of_lt_of_le h1.gt.2.2 ho2.size⟩, cells_only h1.res ho2 ?_, ?_, fun j hj => ?_, fun j hj => ?_, fun i j hi hj hij q hq => ?_⟩
  · rcases hi with e | e
    · have := (hV k i hk e.symm).1; have := h1.gt; omega
    · have := h1.gt; omega
  · rintro (e | e)
    · have := (hV k _ hk e.symm).1; have := h1.gt; omega
    · have := h1.gt; omega
  · rw [← hset]; exact hc.set_ (4 + k) _
  · by_cases hjk : j = k
    · subst hjk
      rw [upd_same, upd_same]
      exact row_only hrow hs3 fun i hi e => by have := (hrow.lt i hi).1; have e2 : i = g3 := e; omega
    · rw [upd_other _ _ hjk, upd_other _ _ hjk]
      refine row_only (h1.row j hj) ho2 fun i hi e => ?_
      rcases e with e | e
      · exact h.dis j k hj hk hjk i hi e.symm
      · have := (hV j i hj hi).1; omega
  · by_cases hjk : j = k
    · subst hjk; rw [upd_same]; exact (h.fit j hj).app hx
    · rw [upd_other _ _ hjk]; exact h.fit j hj
  · have hnew : ∀ q, (Value.slice A n m).ownBlock = some q → (V k).ownBlock = some q ∨ wb.heap.size ≤ q := fun q hq => by
      rcases hat with e | e
      · exact Or.inl (e.symm.trans hq)
      · exact Or.inr (by have := Option.some.inj (e.symm.trans hq); omega)
    by_cases hik : i = k
    · subst hik
      rw [upd_same] at hq
      rw [upd_other _ _ (fun e => hij e.symm)]
      rcases hnew q hq with e | e
      · exact h.dis i j hi hj hij q e
      · intro e2; have := (hV j q hj e2).2; omega
    · rw [upd_other _ _ hik] at hq
      by_cases hjk : j = k
      · subst hjk
        rw [upd_same]
        intro e2
        rcases hnew q e2 with e | e
        · exact h.dis i j hi hj hij q hq e
        · have := (hV i q hi hq).2; omega
      · rw [upd_other _ _ hjk]
        exact h.dis i j hi hj hij q hq
/-- A row that is laid. -/
theorem Pn.fin (h : Pn W g2 g3 a b c d V L wr) (k : Nat) (hk : k < 4) : ∃ A m, V k = .slice A (L k).length m ∧ SlAt g3 wr A (szT k) (L k) ∧ (A = none → m = 0) := by
  have h0 := h.row k hk
  obtain ⟨A, m, e, h1, h2, h3⟩ := own_sl h0 (h.fit k hk).len
  refine ⟨A, m, e, fun w' ho => ?_, h2⟩
  obtain ⟨A', m', e', h1', _, _⟩ := own_sl (row_only h0 ho fun i hi hs => by have := (h0.lt i hi).1; omega) (h.fit k hk).len
  rw [e] at e'
  simp only [Value.slice.injEq] at e'
  obtain ⟨rfl, _, _⟩ := e'
  exact h1'
end
/-- The lists as they are being made. -/
def lsts (l0 l1 l2 l3 : List (List Value)) : Nat → List (List Value)
  | 0 => l0
  | 1 => l1
  | 2 => l2
  | _ => l3
theorem Pn.cast {W wr : World} {g2 g3 : Nat} {a b c d : Int} {V : Nat → Value} {L L' : Nat → List (List Value)} (h : Pn W g2 g3 a b c d V L wr) (e : ∀ k, k < 4 → L k = L' k) : Pn W g2 g3 a b c d V L' wr :=
  ⟨h.low, h.gt, h.res, h.cel, fun k hk => (by rw [← e k hk]; exact h.row k hk), fun k hk => (by rw [← e k hk]; exact h.fit k hk), h.dis⟩
theorem lt4 {k : Nat} (h : k < 4) : k = 0 ∨ k = 1 ∨ k = 2 ∨ k = 3 := by omega
set_option maxHeartbeats 4000000 in
theorem plainS_any (s : St) (y : Sy) (w : World) (h : Sees w s y) (hs : Small s) :
    Calls Tryz.prog 11 #[s.val y] w fun e w' => (∃ z, e = .returned (s.val z) ∧ Sees w' s z) ∧ Below w.heap.size w w' := by
  obtain ⟨yP, yp, yQ, yq, yD, yd, yC, yc, yps, ycs⟩ := y
  have HP := Lib.hid h.places
  have HQ := Lib.hid h.prep
  have HD := Lib.hid h.dec
  have HC := Lib.hid h.com
  have HSEE := Lib.hid h
  have HSM := Lib.hid hs
  obtain ⟨nP, hnP⟩ : ∃ n, s.places.length = n := ⟨_, rfl⟩
  obtain ⟨nQ, hnQ⟩ : ∃ n, s.prep.length = n := ⟨_, rfl⟩
  obtain ⟨nD, hnD⟩ : ∃ n, s.dec.length = n := ⟨_, rfl⟩
  obtain ⟨nC, hnC⟩ : ∃ n, s.com.length = n := ⟨_, rfl⟩
  have HN : Hid (s.places.length = nP ∧ s.prep.length = nQ ∧ s.dec.length = nD ∧ s.com.length = nC) := Lib.hid ⟨hnP, hnQ, hnD, hnC⟩
  obtain ⟨v0, hv0⟩ : ∃ v, s.places.map Pl.vals = v := ⟨_, rfl⟩
  obtain ⟨v1, hv1⟩ : ∃ v, List.zipWith Pr.vals s.prep yps = v := ⟨_, rfl⟩
  obtain ⟨v2, hv2⟩ : ∃ v, s.dec.map De.vals = v := ⟨_, rfl⟩
  obtain ⟨v3, hv3⟩ : ∃ v, List.zipWith Co.vals s.com ycs = v := ⟨_, rfl⟩
  have HV : Hid (s.places.map Pl.vals = v0 ∧ List.zipWith Pr.vals s.prep yps = v1 ∧ s.dec.map De.vals = v2 ∧ List.zipWith Co.vals s.com ycs = v3) := Lib.hid ⟨hv0, hv1, hv2, hv3⟩
  have HL : Hid (v0.length = nP ∧ v1.length = nQ ∧ v2.length = nD ∧ v3.length = nC) := Lib.hid (by
    refine ⟨by rw [← hv0, List.length_map]; exact hnP, by rw [← hv1, zip_len _ h.ps]; exact hnQ, by rw [← hv2, List.length_map]; exact hnD, by rw [← hv3, zip_len _ h.cs]; exact hnC⟩)
  have HF : Hid (Fit 5 v0 ∧ Fit 5 v1 ∧ Fit 4 v2 ∧ Fit 6 v3) := Lib.hid ⟨by rw [← hv0]; exact fit_places _, by rw [← hv1]; exact fit_prep _ _, by rw [← hv2]; exact fit_dec _, by rw [← hv3]; exact fit_com _ _⟩
  have HNB : Hid (nP ≤ 100000 ∧ nQ ≤ 100000 ∧ nD ≤ 100000 ∧ nC ≤ 100000) := Lib.hid ⟨by rw [← hnP]; exact hs.places, by rw [← hnQ]; exact hs.prep, by rw [← hnD]; exact hs.dec, by rw [← hnC]; exact hs.com⟩
  rw [hv0] at HP
  rw [hv1] at HQ
  rw [hv2] at HD
  rw [hv3] at HC
  unfold St.val
  simp only [hnP, hnQ, hnD, hnC]
  obtain ⟨w1, hw1⟩ : ∃ v, v = w.alloc (.cells #[.int .i64 s.node, .int .i64 s.nodes, .int .i64 s.cells, .int .i64 s.epoch, .slice yP nP yp, .slice yQ nQ yq, .slice yD nD yd, .slice yC nC yc] 32) := ⟨_, rfl⟩
  obtain ⟨w3, hw3⟩ : ∃ v, v = (w1.alloc (.cells #[.int .i64 0, .int .i64 0, .int .i64 0, .int .i64 0, .slice none 0 0, .slice none 0 0, .slice none 0 0, .slice none 0 0] 41)).alloc (.cells #[.int .i64 s.node, .int .i64 s.nodes, .int .i64 s.cells, .int .i64 s.epoch, .slice none 0 0, .slice none 0 0, .slice none 0 0, .slice none 0 0] 41) := ⟨_, rfl⟩
  have hb1 : Below w.heap.size w w1 := by rw [hw1]; exact below_alloc _ _
  have hz1 : w1.heap.size = w.heap.size + 1 := by rw [hw1, World.size_alloc]
  have hb3 : Below w1.heap.size w1 w3 := by rw [hw3]; exact (below_alloc w1 _).alloc (by rw [World.size_alloc]; omega) _
  have HX : Hid (∀ w', Below w1.heap.size w1 w' → Cells w' w.heap.size 32 [.int .i64 s.node, .int .i64 s.nodes, .int .i64 s.cells, .int .i64 s.epoch, .slice yP nP yp, .slice yQ nQ yq, .slice yD nD yd, .slice yC nC yc]) := Lib.hid (fun w' hb' => by
    have q : Cells w1 w.heap.size 32 [.int .i64 s.node, .int .i64 s.nodes, .int .i64 s.cells, .int .i64 s.epoch, .slice yP nP yp, .slice yQ nQ yq, .slice yD nD yd, .slice yC nC yc] := by rw [hw1]; exact cells_new w 32 [.int .i64 s.node, .int .i64 s.nodes, .int .i64 s.cells, .int .i64 s.epoch, .slice yP nP yp, .slice yQ nQ yq, .slice yD nD yd, .slice yC nC yc] _ rfl
    exact q.later hb')
  have HPN : Hid (Pn w1 w1.heap.size (w1.heap.size + 1) s.node s.nodes s.cells s.epoch (fun _ => .slice none 0 0) (lsts [] [] [] []) w3) := Lib.hid (by
    refine ⟨hb3, ⟨Nat.le_refl _, by omega, by rw [hw3, World.size_alloc, World.size_alloc]; omega⟩, ?_, ?_, fun k hk => ?_, fun k hk => ?_, fun i j _ _ _ q hq => by cases hq⟩
    · rw [hw3]; exact (cells_new w1 41 rs0 _ rfl).later (below_alloc _ _)
    · have q := cells_new (w1.alloc (.cells #[.int .i64 0, .int .i64 0, .int .i64 0, .int .i64 0, .slice none 0 0, .slice none 0 0, .slice none 0 0, .slice none 0 0] 41)) 41 (hd4 s.node s.nodes s.cells s.epoch (fun _ => .slice none 0 0)) #[.int .i64 s.node, .int .i64 s.nodes, .int .i64 s.cells, .int .i64 s.epoch, .slice none 0 0, .slice none 0 0, .slice none 0 0, .slice none 0 0] rfl
      rw [World.size_alloc] at q
      rw [hw3]
      exact q
    · rcases lt4 hk with rfl | rfl | rfl | rfl <;> exact World.ownsRow_nil _ _ _ _
    · rcases lt4 hk with rfl | rfl | rfl | rfl <;> exact Fit.nil _)
  have HB1 := Lib.hid hb1
  have HZ1 := Lib.hid hz1
  obtain ⟨g2, hg2⟩ : ∃ g, w1.heap.size = g := ⟨_, rfl⟩
  obtain ⟨g3, hg3⟩ : ∃ g, g2 + 1 = g := ⟨_, rfl⟩
  have hgg : w.heap.size + 1 = g2 := by omega
  rw [hg2, hg3] at HPN
  clear h hs hnP hnQ hnD hnC hv0 hv1 hv2 hv3 hb1 hb3 hz1
  obtain ⟨hnb0, hnb1, hnb2, hnb3⟩ := HNB.out
  go_enter Tryz.func11, Tryz.ntmps11
  go_upto_region 2 with (fail)
  rw [← hw1]
  rw [← hw3]
  try rw [hgg]
  try rw [hg2]
  try rw [hg3]
  clear hw1 hw3 hgg hg2 hg3
  have hcx := (HX.out _ HPN.out.low).cell (j := 4) rfl
  go_wp2_with fail
  go_loopw [5, 24] (fun _ i wr => ∃ (j : Nat) (V : Nat → Value), j ≤ nP ∧ i = .int .i64 (j : Int) ∧ Hid (Pn w1 g2 g3 s.node s.nodes s.cells s.epoch V (lsts (v0.take j) [] [] []) wr)) (fun _ i _ => nP - (intOf i).toNat)
  case atStart => exact ⟨0, _, Nat.zero_le _, rfl, HPN⟩
  case round =>
    obtain ⟨j, V, hj, rfl, HR⟩ := hrel
    by_cases hlt : j < nP
    · have hlv : j < v0.length := by have := HL.out; omega
      obtain ⟨bb, off, hA, hr0⟩ := HP.out j hlv
      have HFX : Hid (Fit 5 [v0[j]]) := Lib.hid (HF.out.1.sub fun v hv => by rw [List.mem_singleton.1 hv]; exact List.getElem_mem hlv)
      have HTK : Hid (v0.take j ++ [v0[j]] = v0.take (j + 1)) := Lib.hid (by rw [List.take_succ_eq_append_getElem hlv])
      obtain ⟨p, hp⟩ : ∃ p, v0[j] = Pl.vals p := ⟨s.places[j]'(by have := HN.out; omega), by have h := HV.out.1; subst h; rw [List.getElem_map]⟩
      rw [hp] at hr0 HFX HTK
      have hr := range_later hr0 (HB1.out.trans (HR.out.low.mono HB1.out.size))
      clear hr0 hp hlv
      have z0 : wr.cell? ⟨bb, off + j * 5, none⟩ = some (.int .i64 p.status) := hr 0 _ rfl
      have z1 : wr.cell? ⟨bb, off + j * 5 + 1, none⟩ = some (.int .i64 p.hop) := hr 1 _ rfl
      have z2 : wr.cell? ⟨bb, off + j * 5 + 2, none⟩ = some (.int .i64 p.to) := hr 2 _ rfl
      have z3 : wr.cell? ⟨bb, off + j * 5 + 3, none⟩ = some (.int .i64 p.version) := hr 3 _ rfl
      have z4 : wr.cell? ⟨bb, off + j * 5 + 4, none⟩ = some (.int .i64 p.value) := hr 4 _ rfl
      subst hA
      clear hr
      obtain ⟨wa, hwa⟩ : ∃ v, v = wr.alloc (.cells #[.int .i64 p.status, .int .i64 p.hop, .int .i64 p.to, .int .i64 p.version, .int .i64 p.value] 74) := ⟨_, rfl⟩
      obtain ⟨wb, hwb⟩ : ∃ v, v = wa.alloc (.cells #[.int .i64 p.status, .int .i64 p.hop, .int .i64 p.to, .int .i64 p.version, .int .i64 p.value] 77) := ⟨_, rfl⟩
      have hba : Below wr.heap.size wr wa := by rw [hwa]; exact below_alloc _ _
      have hbb : Below wr.heap.size wr wb := hba.trans ((show Below wa.heap.size wa wb by rw [hwb]; exact below_alloc _ _).mono hba.size)
      have hcb : Cells wb (wr.heap.size + 1) 77 [.int .i64 p.status, .int .i64 p.hop, .int .i64 p.to, .int .i64 p.version, .int .i64 p.value] := by
        have q := cells_new wa 77 [.int .i64 p.status, .int .i64 p.hop, .int .i64 p.to, .int .i64 p.version, .int .i64 p.value] #[.int .i64 p.status, .int .i64 p.hop, .int .i64 p.to, .int .i64 p.version, .int .i64 p.value] rfl
        rw [← hwb, hwa, World.size_alloc] at q
        exact q
      have hq3 := HR.out.cel.cell (j := 4) rfl
      have hl3 := HR.out.gt.2.2
      obtain ⟨A, n, m, w', hrun, hcell, hfro, hpn⟩ := HR.out.more 0 (by decide) [.int .i64 p.status, .int .i64 p.hop, .int .i64 p.to, .int .i64 p.version, .int .i64 p.value] HFX.out (by show (v0.take j).length ≤ 100000; rw [List.length_take]; have := HNB.out; omega) wb hbb (wr.heap.size + 1) hcb
      have HPN' : Hid (Pn w1 g2 g3 s.node s.nodes s.cells s.epoch (upd V 0 (.slice A n m)) (lsts (v0.take (j + 1)) [] [] []) (w'.setCell ⟨g3, 4, none⟩ (.slice A n m))) := Lib.hid (hpn.cast fun q hq => by
        rcases lt4 hq with rfl | rfl | rfl | rfl <;> first | rfl | exact HTK.out)
      have HRUN : Hid ((Builtin.append_ #[36, 36] 36 #[V 0, .slice (some ⟨wr.heap.size + 1, 0, none⟩) 1 1]).run Tryz.prog wb = .ok (.slice A n m) w') := Lib.hid hrun
      have HCF := Lib.hid (And.intro hcell hfro)
      clear hpn hrun hcell hfro hcb hba hbb
      go_wp2_with (at_builtin
                   rw [← hwa]
                   rw [← hwb]
                   have hcell := HCF.out.1
                   have hfro := HCF.out.2
                   refine Lib.wpList_append_run _ rfl _ _ 36 36 rfl _ _ rfl rfl _ _ HRUN.out ?_)
      go_roundw
      case rel => exact ⟨j + 1, _, by omega, by go_num, HPN'⟩
      case measure => simp [intOf]; omega
    · have hjn : j = nP := by omega
      have HPN1 : Hid (Pn w1 g2 g3 s.node s.nodes s.cells s.epoch V (lsts v0 [] [] []) wr) := Lib.hid (HR.out.cast fun q hq => by
        rcases lt4 hq with rfl | rfl | rfl | rfl <;> first | rfl | exact List.take_of_length_le (by have := HL.out; omega))
      clear hjn
      obtain ⟨V1, hVV⟩ : ∃ v, v = V := ⟨_, rfl⟩
      obtain ⟨wk0, hWW⟩ : ∃ v, v = wr := ⟨_, rfl⟩
      rw [← hVV, ← hWW] at HPN1
      rw [← hWW]
      clear hVV hWW HR hj
      have hcx := (HX.out _ HPN1.out.low).cell (j := 5) rfl
      go_wp2_with fail
      go_loopw [7, 38] (fun _ i wr => ∃ (j : Nat) (V : Nat → Value), j ≤ nQ ∧ i = .int .i64 (j : Int) ∧ Hid (Pn w1 g2 g3 s.node s.nodes s.cells s.epoch V (lsts v0 (v1.take j) [] []) wr)) (fun _ i _ => nQ - (intOf i).toNat)
      case atStart => exact ⟨0, _, Nat.zero_le _, rfl, HPN1⟩
      case round =>
        obtain ⟨j, V, hj, rfl, HR⟩ := hrel
        by_cases hlt : j < nQ
        · have hlv : j < v1.length := by have := HL.out; omega
          obtain ⟨bb, off, hA, hr0⟩ := HQ.out j hlv
          have HFX : Hid (Fit 5 [v1[j]]) := Lib.hid (HF.out.2.1.sub fun v hv => by rw [List.mem_singleton.1 hv]; exact List.getElem_mem hlv)
          have HTK : Hid (v1.take j ++ [v1[j]] = v1.take (j + 1)) := Lib.hid (by rw [List.take_succ_eq_append_getElem hlv])
          obtain ⟨p, lay, hp⟩ : ∃ p lay, v1[j] = Pr.vals p lay := by
            have h := mem_zip (f := Pr.vals) (l := s.prep) (m := yps) (v := v1[j]) (by rw [HV.out.2.1]; exact List.getElem_mem hlv)
            exact h
          rw [hp] at hr0 HFX HTK
          have hr := range_later hr0 (HB1.out.trans (HR.out.low.mono HB1.out.size))
          clear hr0 hp hlv
          have z0 : wr.cell? ⟨bb, off + j * 5, none⟩ = some (.int .i64 p.tid.node) := hr 0 _ rfl
          have z1 : wr.cell? ⟨bb, off + j * 5 + 1, none⟩ = some (.int .i64 p.tid.epoch) := hr 1 _ rfl
          have z2 : wr.cell? ⟨bb, off + j * 5 + 2, none⟩ = some (.int .i64 p.tid.seq) := hr 2 _ rfl
          have z3 : wr.cell? ⟨bb, off + j * 5 + 3, none⟩ = some (.slice lay.A p.items.length lay.c) := hr 3 _ rfl
          have z4 : wr.cell? ⟨bb, off + j * 5 + 4, none⟩ = some (.slice lay.B p.nodes.length lay.d) := hr 4 _ rfl
          subst hA
          clear hr
          obtain ⟨wa, hwa⟩ : ∃ v, v = wr.alloc (.cells #[.int .i64 p.tid.node, .int .i64 p.tid.epoch, .int .i64 p.tid.seq, .slice lay.A p.items.length lay.c, .slice lay.B p.nodes.length lay.d] 86) := ⟨_, rfl⟩
          obtain ⟨wb, hwb⟩ : ∃ v, v = wa.alloc (.cells #[.int .i64 p.tid.node, .int .i64 p.tid.epoch, .int .i64 p.tid.seq, .slice lay.A p.items.length lay.c, .slice lay.B p.nodes.length lay.d] 79) := ⟨_, rfl⟩
          have hba : Below wr.heap.size wr wa := by rw [hwa]; exact below_alloc _ _
          have hbb : Below wr.heap.size wr wb := hba.trans ((show Below wa.heap.size wa wb by rw [hwb]; exact below_alloc _ _).mono hba.size)
          have hcb : Cells wb (wr.heap.size + 1) 79 [.int .i64 p.tid.node, .int .i64 p.tid.epoch, .int .i64 p.tid.seq, .slice lay.A p.items.length lay.c, .slice lay.B p.nodes.length lay.d] := by
            have q := cells_new wa 79 [.int .i64 p.tid.node, .int .i64 p.tid.epoch, .int .i64 p.tid.seq, .slice lay.A p.items.length lay.c, .slice lay.B p.nodes.length lay.d] #[.int .i64 p.tid.node, .int .i64 p.tid.epoch, .int .i64 p.tid.seq, .slice lay.A p.items.length lay.c, .slice lay.B p.nodes.length lay.d] rfl
            rw [← hwb, hwa, World.size_alloc] at q
            exact q
          have hq3 := HR.out.cel.cell (j := 5) rfl
          have hl3 := HR.out.gt.2.2
          obtain ⟨A, n, m, w', hrun, hcell, hfro, hpn⟩ := HR.out.more 1 (by decide) [.int .i64 p.tid.node, .int .i64 p.tid.epoch, .int .i64 p.tid.seq, .slice lay.A p.items.length lay.c, .slice lay.B p.nodes.length lay.d] HFX.out (by show (v1.take j).length ≤ 100000; rw [List.length_take]; have := HNB.out; omega) wb hbb (wr.heap.size + 1) hcb
          have HPN' : Hid (Pn w1 g2 g3 s.node s.nodes s.cells s.epoch (upd V 1 (.slice A n m)) (lsts v0 (v1.take (j + 1)) [] []) (w'.setCell ⟨g3, 5, none⟩ (.slice A n m))) := Lib.hid (hpn.cast fun q hq => by
            rcases lt4 hq with rfl | rfl | rfl | rfl <;> first | rfl | exact HTK.out)
          have HRUN : Hid ((Builtin.append_ #[37, 37] 37 #[V 1, .slice (some ⟨wr.heap.size + 1, 0, none⟩) 1 1]).run Tryz.prog wb = .ok (.slice A n m) w') := Lib.hid hrun
          have HCF := Lib.hid (And.intro hcell hfro)
          clear hpn hrun hcell hfro hcb hba hbb
          go_wp2_with (at_builtin
                       rw [← hwa]
                       rw [← hwb]
                       have hcell := HCF.out.1
                       have hfro := HCF.out.2
                       refine Lib.wpList_append_run _ rfl _ _ 37 37 rfl _ _ rfl rfl _ _ HRUN.out ?_)
          go_roundw
          case rel => exact ⟨j + 1, _, by omega, by go_num, HPN'⟩
          case measure => simp [intOf]; omega
        · have hjn : j = nQ := by omega
          have HPN2 : Hid (Pn w1 g2 g3 s.node s.nodes s.cells s.epoch V (lsts v0 v1 [] []) wr) := Lib.hid (HR.out.cast fun q hq => by
            rcases lt4 hq with rfl | rfl | rfl | rfl <;> first | rfl | exact List.take_of_length_le (by have := HL.out; omega))
          clear hjn
          obtain ⟨V2, hVV⟩ : ∃ v, v = V := ⟨_, rfl⟩
          obtain ⟨wk1, hWW⟩ : ∃ v, v = wr := ⟨_, rfl⟩
          rw [← hVV, ← hWW] at HPN2
          rw [← hWW]
          clear hVV hWW HR hj
          have hcx := (HX.out _ HPN2.out.low).cell (j := 6) rfl
          go_wp2_with fail
          go_loopw [9, 52] (fun _ i wr => ∃ (j : Nat) (V : Nat → Value), j ≤ nD ∧ i = .int .i64 (j : Int) ∧ Hid (Pn w1 g2 g3 s.node s.nodes s.cells s.epoch V (lsts v0 v1 (v2.take j) []) wr)) (fun _ i _ => nD - (intOf i).toNat)
          case atStart => exact ⟨0, _, Nat.zero_le _, rfl, HPN2⟩
          case round =>
            obtain ⟨j, V, hj, rfl, HR⟩ := hrel
            by_cases hlt : j < nD
            · have hlv : j < v2.length := by have := HL.out; omega
              obtain ⟨bb, off, hA, hr0⟩ := HD.out j hlv
              have HFX : Hid (Fit 4 [v2[j]]) := Lib.hid (HF.out.2.2.1.sub fun v hv => by rw [List.mem_singleton.1 hv]; exact List.getElem_mem hlv)
              have HTK : Hid (v2.take j ++ [v2[j]] = v2.take (j + 1)) := Lib.hid (by rw [List.take_succ_eq_append_getElem hlv])
              obtain ⟨p, hp⟩ : ∃ p, v2[j] = De.vals p := ⟨s.dec[j]'(by have := HN.out; omega), by have h := HV.out.2.2.1; subst h; rw [List.getElem_map]⟩
              rw [hp] at hr0 HFX HTK
              have hr := range_later hr0 (HB1.out.trans (HR.out.low.mono HB1.out.size))
              clear hr0 hp hlv
              have z0 : wr.cell? ⟨bb, off + j * 4, none⟩ = some (.int .i64 p.tid.node) := hr 0 _ rfl
              have z1 : wr.cell? ⟨bb, off + j * 4 + 1, none⟩ = some (.int .i64 p.tid.epoch) := hr 1 _ rfl
              have z2 : wr.cell? ⟨bb, off + j * 4 + 2, none⟩ = some (.int .i64 p.tid.seq) := hr 2 _ rfl
              have z3 : wr.cell? ⟨bb, off + j * 4 + 3, none⟩ = some (.bool p.yes) := hr 3 _ rfl
              subst hA
              clear hr
              obtain ⟨wa, hwa⟩ : ∃ v, v = wr.alloc (.cells #[.int .i64 p.tid.node, .int .i64 p.tid.epoch, .int .i64 p.tid.seq, .bool p.yes] 87) := ⟨_, rfl⟩
              obtain ⟨wb, hwb⟩ : ∃ v, v = wa.alloc (.cells #[.int .i64 p.tid.node, .int .i64 p.tid.epoch, .int .i64 p.tid.seq, .bool p.yes] 83) := ⟨_, rfl⟩
              have hba : Below wr.heap.size wr wa := by rw [hwa]; exact below_alloc _ _
              have hbb : Below wr.heap.size wr wb := hba.trans ((show Below wa.heap.size wa wb by rw [hwb]; exact below_alloc _ _).mono hba.size)
              have hcb : Cells wb (wr.heap.size + 1) 83 [.int .i64 p.tid.node, .int .i64 p.tid.epoch, .int .i64 p.tid.seq, .bool p.yes] := by
                have q := cells_new wa 83 [.int .i64 p.tid.node, .int .i64 p.tid.epoch, .int .i64 p.tid.seq, .bool p.yes] #[.int .i64 p.tid.node, .int .i64 p.tid.epoch, .int .i64 p.tid.seq, .bool p.yes] rfl
                rw [← hwb, hwa, World.size_alloc] at q
                exact q
              have hq3 := HR.out.cel.cell (j := 6) rfl
              have hl3 := HR.out.gt.2.2
              obtain ⟨A, n, m, w', hrun, hcell, hfro, hpn⟩ := HR.out.more 2 (by decide) [.int .i64 p.tid.node, .int .i64 p.tid.epoch, .int .i64 p.tid.seq, .bool p.yes] HFX.out (by show (v2.take j).length ≤ 100000; rw [List.length_take]; have := HNB.out; omega) wb hbb (wr.heap.size + 1) hcb
              have HPN' : Hid (Pn w1 g2 g3 s.node s.nodes s.cells s.epoch (upd V 2 (.slice A n m)) (lsts v0 v1 (v2.take (j + 1)) []) (w'.setCell ⟨g3, 6, none⟩ (.slice A n m))) := Lib.hid (hpn.cast fun q hq => by
                rcases lt4 hq with rfl | rfl | rfl | rfl <;> first | rfl | exact HTK.out)
              have HRUN : Hid ((Builtin.append_ #[38, 38] 38 #[V 2, .slice (some ⟨wr.heap.size + 1, 0, none⟩) 1 1]).run Tryz.prog wb = .ok (.slice A n m) w') := Lib.hid hrun
              have HCF := Lib.hid (And.intro hcell hfro)
              clear hpn hrun hcell hfro hcb hba hbb
              go_wp2_with (at_builtin
                           rw [← hwa]
                           rw [← hwb]
                           have hcell := HCF.out.1
                           have hfro := HCF.out.2
                           refine Lib.wpList_append_run _ rfl _ _ 38 38 rfl _ _ rfl rfl _ _ HRUN.out ?_)
              go_roundw
              case rel => exact ⟨j + 1, _, by omega, by go_num, HPN'⟩
              case measure => simp [intOf]; omega
            · have hjn : j = nD := by omega
              have HPN3 : Hid (Pn w1 g2 g3 s.node s.nodes s.cells s.epoch V (lsts v0 v1 v2 []) wr) := Lib.hid (HR.out.cast fun q hq => by
                rcases lt4 hq with rfl | rfl | rfl | rfl <;> first | rfl | exact List.take_of_length_le (by have := HL.out; omega))
              clear hjn
              obtain ⟨V3, hVV⟩ : ∃ v, v = V := ⟨_, rfl⟩
              obtain ⟨wk2, hWW⟩ : ∃ v, v = wr := ⟨_, rfl⟩
              rw [← hVV, ← hWW] at HPN3
              rw [← hWW]
              clear hVV hWW HR hj
              have hcx := (HX.out _ HPN3.out.low).cell (j := 7) rfl
              go_wp2_with fail
              go_loopw [11, 66] (fun _ i wr => ∃ (j : Nat) (V : Nat → Value), j ≤ nC ∧ i = .int .i64 (j : Int) ∧ Hid (Pn w1 g2 g3 s.node s.nodes s.cells s.epoch V (lsts v0 v1 v2 (v3.take j)) wr)) (fun _ i _ => nC - (intOf i).toNat)
              case atStart => exact ⟨0, _, Nat.zero_le _, rfl, HPN3⟩
              case round =>
                obtain ⟨j, V, hj, rfl, HR⟩ := hrel
                by_cases hlt : j < nC
                · have hlv : j < v3.length := by have := HL.out; omega
                  obtain ⟨bb, off, hA, hr0⟩ := HC.out j hlv
                  have HFX : Hid (Fit 6 [v3[j]]) := Lib.hid (HF.out.2.2.2.sub fun v hv => by rw [List.mem_singleton.1 hv]; exact List.getElem_mem hlv)
                  have HTK : Hid (v3.take j ++ [v3[j]] = v3.take (j + 1)) := Lib.hid (by rw [List.take_succ_eq_append_getElem hlv])
                  obtain ⟨p, lay, hp⟩ : ∃ p lay, v3[j] = Co.vals p lay := by
                    have h := mem_zip (f := Co.vals) (l := s.com) (m := ycs) (v := v3[j]) (by rw [HV.out.2.2.2]; exact List.getElem_mem hlv)
                    exact h
                  rw [hp] at hr0 HFX HTK
                  have hr := range_later hr0 (HB1.out.trans (HR.out.low.mono HB1.out.size))
                  clear hr0 hp hlv
                  have z0 : wr.cell? ⟨bb, off + j * 6, none⟩ = some (.int .i64 p.tid.node) := hr 0 _ rfl
                  have z1 : wr.cell? ⟨bb, off + j * 6 + 1, none⟩ = some (.int .i64 p.tid.epoch) := hr 1 _ rfl
                  have z2 : wr.cell? ⟨bb, off + j * 6 + 2, none⟩ = some (.int .i64 p.tid.seq) := hr 2 _ rfl
                  have z3 : wr.cell? ⟨bb, off + j * 6 + 3, none⟩ = some (.slice lay.A p.items.length lay.c) := hr 3 _ rfl
                  have z4 : wr.cell? ⟨bb, off + j * 6 + 4, none⟩ = some (.slice lay.B p.nodes.length lay.d) := hr 4 _ rfl
                  have z5 : wr.cell? ⟨bb, off + j * 6 + 5, none⟩ = some (.bool p.over) := hr 5 _ rfl
                  subst hA
                  clear hr
                  obtain ⟨wa, hwa⟩ : ∃ v, v = wr.alloc (.cells #[.int .i64 p.tid.node, .int .i64 p.tid.epoch, .int .i64 p.tid.seq, .slice lay.A p.items.length lay.c, .slice lay.B p.nodes.length lay.d, .bool p.over] 88) := ⟨_, rfl⟩
                  obtain ⟨wb, hwb⟩ : ∃ v, v = wa.alloc (.cells #[.int .i64 p.tid.node, .int .i64 p.tid.epoch, .int .i64 p.tid.seq, .slice lay.A p.items.length lay.c, .slice lay.B p.nodes.length lay.d, .bool p.over] 85) := ⟨_, rfl⟩
                  have hba : Below wr.heap.size wr wa := by rw [hwa]; exact below_alloc _ _
                  have hbb : Below wr.heap.size wr wb := hba.trans ((show Below wa.heap.size wa wb by rw [hwb]; exact below_alloc _ _).mono hba.size)
                  have hcb : Cells wb (wr.heap.size + 1) 85 [.int .i64 p.tid.node, .int .i64 p.tid.epoch, .int .i64 p.tid.seq, .slice lay.A p.items.length lay.c, .slice lay.B p.nodes.length lay.d, .bool p.over] := by
                    have q := cells_new wa 85 [.int .i64 p.tid.node, .int .i64 p.tid.epoch, .int .i64 p.tid.seq, .slice lay.A p.items.length lay.c, .slice lay.B p.nodes.length lay.d, .bool p.over] #[.int .i64 p.tid.node, .int .i64 p.tid.epoch, .int .i64 p.tid.seq, .slice lay.A p.items.length lay.c, .slice lay.B p.nodes.length lay.d, .bool p.over] rfl
                    rw [← hwb, hwa, World.size_alloc] at q
                    exact q
                  have hq3 := HR.out.cel.cell (j := 7) rfl
                  have hl3 := HR.out.gt.2.2
                  obtain ⟨A, n, m, w', hrun, hcell, hfro, hpn⟩ := HR.out.more 3 (by decide) [.int .i64 p.tid.node, .int .i64 p.tid.epoch, .int .i64 p.tid.seq, .slice lay.A p.items.length lay.c, .slice lay.B p.nodes.length lay.d, .bool p.over] HFX.out (by show (v3.take j).length ≤ 100000; rw [List.length_take]; have := HNB.out; omega) wb hbb (wr.heap.size + 1) hcb
                  have HPN' : Hid (Pn w1 g2 g3 s.node s.nodes s.cells s.epoch (upd V 3 (.slice A n m)) (lsts v0 v1 v2 (v3.take (j + 1))) (w'.setCell ⟨g3, 7, none⟩ (.slice A n m))) := Lib.hid (hpn.cast fun q hq => by
                    rcases lt4 hq with rfl | rfl | rfl | rfl <;> first | rfl | exact HTK.out)
                  have HRUN : Hid ((Builtin.append_ #[39, 39] 39 #[V 3, .slice (some ⟨wr.heap.size + 1, 0, none⟩) 1 1]).run Tryz.prog wb = .ok (.slice A n m) w') := Lib.hid hrun
                  have HCF := Lib.hid (And.intro hcell hfro)
                  clear hpn hrun hcell hfro hcb hba hbb
                  go_wp2_with (at_builtin
                               rw [← hwa]
                               rw [← hwb]
                               have hcell := HCF.out.1
                               have hfro := HCF.out.2
                               refine Lib.wpList_append_run _ rfl _ _ 39 39 rfl _ _ rfl rfl _ _ HRUN.out ?_)
                  go_roundw
                  case rel => exact ⟨j + 1, _, by omega, by go_num, HPN'⟩
                  case measure => simp [intOf]; omega
                · have hjn : j = nC := by omega
                  have HPN4 : Hid (Pn w1 g2 g3 s.node s.nodes s.cells s.epoch V (lsts v0 v1 v2 v3) wr) := Lib.hid (HR.out.cast fun q hq => by
                    rcases lt4 hq with rfl | rfl | rfl | rfl <;> first | rfl | exact List.take_of_length_le (by have := HL.out; omega))
                  clear hjn
                  obtain ⟨P', p', e0, s0, c0⟩ := HPN4.out.fin 0 (by decide)
                  obtain ⟨Q', q', e1, s1, c1⟩ := HPN4.out.fin 1 (by decide)
                  obtain ⟨D', d', e2, s2, c2⟩ := HPN4.out.fin 2 (by decide)
                  obtain ⟨C', c', e3, s3, c3⟩ := HPN4.out.fin 3 (by decide)
                  have hl := HL.out
                  rw [show (lsts v0 v1 v2 v3 0).length = nP from hl.1] at e0
                  rw [show (lsts v0 v1 v2 v3 1).length = nQ from hl.2.1] at e1
                  rw [show (lsts v0 v1 v2 v3 2).length = nD from hl.2.2.1] at e2
                  rw [show (lsts v0 v1 v2 v3 3).length = nC from hl.2.2.2] at e3
                  have hcel := HPN4.out.cel
                  unfold hd4 at hcel
                  rw [e0, e1, e2, e3] at hcel
                  have HCQ := Lib.hid hcel
                  have HRES := Lib.hid HPN4.out.res
                  have HLOW := Lib.hid HPN4.out.low
                  have HSL := Lib.hid (And.intro s0 (And.intro s1 (And.intro s2 s3)))
                  have HCP := Lib.hid (And.intro c0 (And.intro c1 (And.intro c2 c3)))
                  clear e0 e1 e2 e3 s0 s1 s2 s3 c0 c1 c2 c3 hcel hl hcx HR hj
                  go_upto_region 22 with (fail)
                  apply wp_region_lit
                  refine wpList_load_cells rfl 41 _ rfl g3 #[.int .i64 s.node, .int .i64 s.nodes, .int .i64 s.cells, .int .i64 s.epoch, .slice P' nP p', .slice Q' nQ q', .slice D' nD d', .slice C' nC c'] rfl rfl HCQ.out Tryz.underlying41 rfl (by kernel_rfl) ?_
                  refine wpList_store_cells rfl 41 _ _ rfl g2 #[.int .i64 s.node, .int .i64 s.nodes, .int .i64 s.cells, .int .i64 s.epoch, .slice P' nP p', .slice Q' nQ q', .slice D' nD d', .slice C' nC c'] [.int .i64 s.node, .int .i64 s.nodes, .int .i64 s.cells, .int .i64 s.epoch, .slice P' nP p', .slice Q' nQ q', .slice D' nD d', .slice C' nC c'] rfl rfl rfl HRES.out rfl (by kernel_rfl) (by kernel_rfl) fun wv hpt hov => ?_
                  have HPT := Lib.hid hpt
                  have HO := Lib.hid hov
                  clear hpt hov
                  go_wp2_with fail
                  refine bodyPost_ret (v := .agg #[.int .i64 s.node, .int .i64 s.nodes, .int .i64 s.cells, .int .i64 s.epoch, .slice P' nP p', .slice Q' nQ q', .slice D' nD d', .slice C' nC c']) ?_ rfl ?_
                  · exact (ret_cell (p := 2) (ty := 41) (by rfl) _ HPT.out _ (by rfl) Tryz.underlying41 rfl (by kernel_rfl)).trans (by rfl)
                  · have hx := HPN4.out.gt
                    have hlw : Below w1.heap.size w1 wv := HLOW.out.trans (HO.out.below (by have := HLOW.out.size; omega) fun i hi => by omega)
                    have hbw : Below w.heap.size w wv := HB1.out.trans (hlw.mono HB1.out.size)
                    have hn := HN.out
                    have hse := HSEE.out.later hbw
                    obtain ⟨t0, t1, t2, t3⟩ := HSL.out
                    obtain ⟨u0, u1, u2, u3⟩ := HCP.out
                    have hv := HV.out
                    refine ⟨⟨⟨P', p', Q', q', D', d', C', c', yps, ycs⟩, rfl, ?_⟩, hbw⟩
                    refine ⟨?_, ?_, ?_, ?_, hse.ps, hse.cs, hse.pin, hse.cin, u0, u1, u2, u3⟩
                    · rw [hv.1]; exact sl_only t0 HO.out (by omega)
                    · rw [hv.2.1]; exact sl_only t1 HO.out (by omega)
                    · rw [hv.2.2.1]; exact sl_only t2 HO.out (by omega)
                    · rw [hv.2.2.2]; exact sl_only t3 HO.out (by omega)
end Go.Proofs.YtalhbblmnahcdaaGreat.Led
