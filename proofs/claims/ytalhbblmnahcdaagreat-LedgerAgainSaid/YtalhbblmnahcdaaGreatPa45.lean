/-
  Layer 8: the first state.
 Layer 8's laws: records that came in.
 Layer 8's laws: are records more than what is played?
 Layer 8's laws: the state behind those records that can follow.
 Layer 8's laws: the document's example (awake).
 Layer 8, without memory: what holds of every state that records come to; whatever is prepared can be decided, either way; what was decided, committed, prepared, locked stays.
 Layer 8's laws: a first state's numbers that came in; what the state behind records holds.
  Conditions: none.
-/
import Derived.Test.YtalhbblmnahcdaaGreatPa44
namespace Go.Proofs.YtalhbblmnahcdaaGreat.Led
set_option maxRecDepth 100000
open Go.RowKit Go.Deep Go.Proofs.YtalhbblmnahcdaaGreat.Mem Go.Proofs.YtalhbblmnahcdaaGreat.Item Go.Proofs.YtalhbblmnahcdaaGreat.Rec
def rcB (node nodes cells : Int) : Rc := ⟨1, ⟨0, 0, 0⟩, [], [], node, nodes, cells, 0, 0, 0, 0, 0, false⟩
def firstPl (node nodes : Int) (n k : Nat) : List Pl := (List.range n).map fun c => if c < k ∧ home (c : Int) nodes = node then ⟨1, 0, 0, 0, 0⟩ else pl0
def firstS (node nodes : Int) (n : Nat) : St := ⟨node, nodes, n, 0, firstPl node nodes n n, [], [], []⟩
def firstL (node nodes cells : Int) : St × Int := if right (rcB node nodes cells) = false then (stZ, 1) else (firstS node nodes cells.toNat, 0)
theorem firstPl_len (node nodes : Int) (n k : Nat) : (firstPl node nodes n k).length = n := by unfold firstPl; simp
theorem firstPl_zero (node nodes : Int) (n : Nat) : firstPl node nodes n 0 = List.replicate n pl0 := by
 unfold firstPl
 apply List.ext_getElem
 ·simp
 ·intro i h1 h2
  simp
theorem firstPl_at {node nodes : Int} {n k : Nat} (h : k < n) : (firstPl node nodes n k)[k]? = some pl0 := by
 unfold firstPl
 rw [List.getElem?_map, List.getElem?_range h]
 simp
theorem firstPl_get (node nodes : Int) (n k i : Nat) : (firstPl node nodes n k)[i]? = if i < n then some (if i < k ∧ home (i : Int) nodes = node then ⟨1, 0, 0, 0, 0⟩ else pl0) else none := by
 unfold firstPl
 rw [List.getElem?_map]
 by_cases h : i < n
 ·rw [List.getElem?_range h, if_pos h]
  rfl
 ·rw [List.getElem?_eq_none (by rw [List.length_range]; omega), if_neg h]
  rfl
theorem firstPl_yes {node nodes : Int} {n k : Nat} (h : k < n) (hh : home (k : Int) nodes = node) : firstPl node nodes n (k + 1) = (firstPl node nodes n k).set k ⟨1, 0, 0, 0, 0⟩ := by
 apply List.ext_getElem?
 intro i
 rw [firstPl_get, List.getElem?_set, firstPl_get, firstPl_len]
 by_cases e : k = i
 ·subst e
  rw [if_pos rfl, if_pos h, if_pos h, if_pos ⟨Nat.lt_succ_self k, hh⟩]
 ·have : (i < k + 1) ↔ (i < k) := by omega
  rw [if_neg e]
  simp only [this]
theorem firstPl_no {node nodes : Int} {n k : Nat} (hh : ¬ home (k : Int) nodes = node) : firstPl node nodes n (k + 1) = firstPl node nodes n k := by
 apply List.ext_getElem?
 intro i
 rw [firstPl_get, firstPl_get]
 by_cases e : i = k
 ·subst e
  by_cases hi : i < n
  ·rw [if_pos hi, if_pos hi, if_neg (fun h => hh h.2), if_neg (fun h => hh h.2)]
  ·rw [if_neg hi, if_neg hi]
 ·have : (i < k + 1) ↔ (i < k) := by omega
  simp only [this]
theorem place_first {w : World} {B pb p n k : Nat} {L : List Pl} {q : Pl} (h : w.ownsRow B 74 5 (.slice (some ⟨pb, 0, none⟩) n p) n (L.map Pl.vals).flatten) (hq : L[k]? = some q) : w.cell? ⟨pb, k * 5, none⟩ = some (.int .i64 q.status) ∧ w.frozen? ⟨pb, k * 5, none⟩ = false := by
 obtain ⟨hk, hkq⟩ := List.getElem?_eq_some_iff.1 hq
 obtain ⟨hc, _⟩ := cells_of_own h
 have hf := flatten_len (vs := L.map Pl.vals) (sz := 5) (fit_places _).len
 rw [List.length_map] at hf
 have hm := Nat.mul_le_mul_right 5 hk
 refine ⟨hc.cell ?_, hc.frozen (by omega)⟩
 have e := flatten_at (sz := 5) (fit_places L).len k (by rw [List.length_map]; exact hk) 0 (by decide)
 rw [Nat.add_zero, List.getElem_map, hkq] at e
 exact e
theorem right_nodes {r : Rc} (h : right r = true) (hk : r.kind = 1) : 1 ≤ r.count ∧ r.count ≤ 16 := by
 unfold right at h
 simp only [Bool.and_eq_true] at h
 have h2 := h.2
 rw [hk] at h2
 have h3 := List.all_eq_true.1 h2 1 (by decide)
 simp [rf, lims, Rc.get, Rc.numV] at h3
 exact h3
/-- Some cells of a place are written, in a row. -/
theorem places_put {w : World} {B pb p n k : Nat} {L : List Pl} {q pl : Pl} (h : w.ownsRow B 74 5 (.slice (some ⟨pb, 0, none⟩) n p) n (L.map Pl.vals).flatten) (hn : L.length = n) (hq : L[k]? = some q) (l : List Value) (h1 : ∀ v ∈ l, v.oneCell' = true) (ho : l.length ≤ 5) (he : over q.vals 0 l = pl.vals) :
  (w.setCells pb (k * 5) l).ownsRow B 74 5 (.slice (some ⟨pb, 0, none⟩) n p) n ((L.set k pl).map Pl.vals).flatten ∧ Only (fun k => k = pb) w (w.setCells pb (k * 5) l) := by
 obtain ⟨hk, hkq⟩ := List.getElem?_eq_some_iff.1 hq
 have hle : k * 5 + l.length ≤ n * 5 := by have := Nat.mul_le_mul_right 5 (show k + 1 ≤ n by omega); omega
 obtain ⟨r1, r2, r3⟩ := row_put h hle h1
 refine ⟨?_, r2⟩
 have e : over (L.map Pl.vals).flatten (k * 5) l = ((L.set k pl).map Pl.vals).flatten := by
  rw [List.map_set, ← over_at (sz := 5) (fit_places _).len rfl (by rw [List.length_map]; exact hk), ← he]
  have hf := flatten_len (vs := L.map Pl.vals) (sz := 5) (fit_places _).len
  rw [List.length_map] at hf
  have hqq : (L.map Pl.vals).flatten.drop (k * 5) = q.vals ++ (L.map Pl.vals).flatten.drop ((k + 1) * 5) := by
   rw [flat_drop (fit_places _).len k (by rw [List.length_map]; omega), flat_drop (fit_places _).len (k + 1) (by rw [List.length_map]; omega), List.drop_eq_getElem_cons (by rw [List.length_map]; exact hk), List.getElem_map, List.flatten_cons, hkq]
  have hs : (L.map Pl.vals).flatten = (L.map Pl.vals).flatten.take (k * 5) ++ (q.vals ++ (L.map Pl.vals).flatten.drop ((k + 1) * 5)) := by rw [← hqq, List.take_append_drop]
  have hA : ((L.map Pl.vals).flatten.take (k * 5)).length = k * 5 := by rw [List.length_take]; omega
  generalize (L.map Pl.vals).flatten.take (k * 5) = A at hs hA
  generalize (L.map Pl.vals).flatten.drop ((k + 1) * 5) = Z at hs hqq
  rw [hs, ← hA]
  have h0 := over_mid A q.vals Z 0 l (by show 0 + l.length ≤ 5; omega)
  rw [Nat.add_zero] at h0
  rw [h0, over_mid0 A q.vals Z (over q.vals 0 l) (over_len (show 0 + l.length ≤ q.vals.length by show 0 + l.length ≤ 5; omega))]
 rw [← e]
 exact r1
/-- Where First stands ahead of a cell. -/
structure FiSt (w wr : World) (node nodes : Int) (n k pb p b8 : Nat) (z : Sy) : Prop where
 row : wr.ownsRow w.heap.size 74 5 (.slice (some ⟨pb, 0, none⟩) n p) n ((firstPl node nodes n k).map Pl.vals).flatten
 box : Cells wr b8 32 [.int .i64 node, .int .i64 nodes, .int .i64 (n : Int), .int .i64 0, .slice (some ⟨pb, 0, none⟩) n p, .slice z.Q 0 z.q, .slice z.D 0 z.d, .slice z.C 0 z.c]
 res : Cells wr w.heap.size 32 [.int .i64 0, .int .i64 0, .int .i64 0, .int .i64 0, .slice none 0 0, .slice none 0 0, .slice none 0 0, .slice none 0 0]
 low : Below w.heap.size w wr
 far : pb ≠ b8 ∧ pb ≠ w.heap.size ∧ b8 ≠ w.heap.size ∧ w.heap.size ≤ pb
set_option maxHeartbeats 4000000 in
theorem First_any (node nodes cells : Int) (w : World) :
  Calls Tryz.prog 8 #[.int .i64 node, .int .i64 nodes, .int .i64 cells] w fun e w' => (∃ y', e = .returned (.tuple #[(firstL node nodes cells).1.val y', .int .i64 (firstL node nodes cells).2]) ∧ Stays w.heap.size w' (firstL node nodes cells).1 y') ∧ Below w.heap.size w w' := by
 obtain ⟨wb, hwb⟩ : ∃ v, v = w.alloc (.cells #[.int .i64 0, .int .i64 0, .int .i64 0, .int .i64 0, .slice none 0 0, .slice none 0 0, .slice none 0 0, .slice none 0 0] 32) := ⟨_, rfl⟩
 have hb : Below w.heap.size w wb := by rw [hwb]; exact below_alloc _ _
 have hc : Cells wb w.heap.size 32 [.int .i64 0, .int .i64 0, .int .i64 0, .int .i64 0, .slice none 0 0, .slice none 0 0, .slice none 0 0, .slice none 0 0] := by rw [hwb]; exact cells_new _ _ _ _ rfl
 have HC := Lib.hid hc
 have HB := Lib.hid hb
 have HRT := Lib.hid (right_any (rcB node nodes cells) lay0 wb ⟨items_nil _ _, nums_nil _ _⟩ (Nat.zero_le _) (Nat.zero_le _))
 have HNL : Hid (firstL node nodes cells = if right (rcB node nodes cells) = false then (stZ, 1) else (firstS node nodes cells.toNat, 0)) := Lib.hid rfl
 obtain ⟨F, hF⟩ : ∃ F, firstL node nodes cells = F := ⟨_, rfl⟩
 rw [hF] at HNL ⊢
 clear hb hc hF
 go_enter Tryz.func8, Tryz.ntmps8
 go_wp2_with fail
 rw [← hwb]
 clear hwb
 refine HRT.out.mono ?_
 rintro e wc ⟨rfl, hI⟩
 have HC2 := Lib.hid (HC.out.later hI)
 have HB2 := Lib.hid (HB.out.trans (hI.mono HB.out.size))
 clear hI
 cases hr : right (rcB node nodes cells) with
 | false =>
  have HFX : Hid (F = (stZ, 1)) := Lib.hid (by rw [HNL.out, if_pos hr])
  clear hr
  go_upto_region 2 with (fail)
  apply wp_region_lit
  refine Go.Great.wpList_runTo rfl (some 16) rfl (.agg #[.int .i64 0, .int .i64 0, .int .i64 0, .int .i64 0, .slice none 0 0, .slice none 0 0, .slice none 0 0, .slice none 0 0]) wc (by go_simp) ?_
  refine wpList_store_cells rfl 32 _ _ rfl w.heap.size #[.int .i64 0, .int .i64 0, .int .i64 0, .int .i64 0, .slice none 0 0, .slice none 0 0, .slice none 0 0, .slice none 0 0] [.int .i64 0, .int .i64 0, .int .i64 0, .int .i64 0, .slice none 0 0, .slice none 0 0, .slice none 0 0, .slice none 0 0] rfl rfl rfl HC2.out rfl (by kernel_rfl) (by simp [Value.oneCell']) fun w5 hpt hov => ?_
  have HPT := Lib.hid hpt
  have HOV := Lib.hid hov
  clear hpt hov
  go_wp2_with fail
  refine bodyPost_ret (v := .tuple #[.agg #[.int .i64 0, .int .i64 0, .int .i64 0, .int .i64 0, .slice none 0 0, .slice none 0 0, .slice none 0 0, .slice none 0 0], .int .i64 1]) ((ret_cell_tmp (p := 6) (q := 7) (ty := 32) (by rfl) _ HPT.out _ (by rfl) Tryz.underlying32 rfl (by kernel_rfl)).trans (by rfl)) rfl ?_
  rw [HFX.out]
  exact ⟨⟨_, rfl, fun _ _ => sees_zero _⟩, HB2.out.trans (HOV.out.below HB2.out.size fun j e => by rw [e]; exact Nat.le_refl _)⟩
 | true =>
  have hnm := right_num hr rfl
  have hnd := right_nodes hr rfl
  simp only [rcB] at hnm hnd
  obtain ⟨n, hn⟩ := Int.eq_ofNat_of_zero_le (show 0 ≤ cells by omega)
  have HFX : Hid (F = (firstS node nodes n, 0)) := Lib.hid (by rw [HNL.out, if_neg (by rw [hr]; decide), hn]; rfl)
  subst hn
  have hn16 : n ≤ 16 := by omega
  have hn1 : 1 ≤ n := by omega
  have hnd2 : nodes ≤ 16 := hnd.2
  clear hr hnm hnd HNL
  go_wp2_with fail
  refine (empty_any node nodes n wc hn16).mono ?_
  rintro e w2 ⟨⟨z, rfl, hl⟩, hb2⟩
  have HL := Lib.hid hl
  have HB3 := Lib.hid hb2
  clear hl hb2
  obtain ⟨pb, hP⟩ : ∃ pb, z.P = some ⟨pb, 0, none⟩ := by
   rcases HL.out.rowP.2 with ⟨_, h2⟩ | ⟨g, cap, cur, e, _⟩
   ·unfold emptyS at h2
    rw [List.length_replicate] at h2
    omega
   ·simp only [Value.slice.injEq] at e
    exact ⟨g, e.1⟩
  obtain ⟨w3, hw3⟩ : ∃ v, v = w2.alloc (.cells #[.int .i64 node, .int .i64 nodes, .int .i64 (n : Int), .int .i64 0, .slice (some ⟨pb, 0, none⟩) n z.p, .slice z.Q 0 z.q, .slice z.D 0 z.d, .slice z.C 0 z.c] 32) := ⟨_, rfl⟩
  have HST : Hid (FiSt w w3 node nodes n 0 pb z.p w2.heap.size z) := Lib.hid (by
   have hb3 : Below w2.heap.size w2 w3 := by rw [hw3]; exact below_alloc _ _
   have hrow := HL.out.rowP
   have hlt := HL.out.lt (k := pb) (Or.inl (by rw [hP]; rfl))
   have hcl := HC2.out.lt
   have hsz := HB3.out.size
   refine ⟨?_, by rw [hw3]; exact cells_new _ _ _ _ rfl, (HC2.out.later HB3.out).later hb3, HB2.out.trans ((HB3.out.trans (hb3.mono hsz)).mono HB2.out.size), by omega, by omega, by omega, by omega⟩
   have h9 := own_up (Nat.le_of_lt hcl) (row_only hrow (Only.of_below (S := fun _ => False) hb3) fun _ _ e => e)
   rw [hP] at h9
   unfold emptyS at h9
   simp only [List.length_replicate] at h9
   rw [firstPl_zero]
   exact h9)
  unfold St.val emptyS
  simp only [hP, List.length_replicate, List.length_nil]
  go_upto_region 4 with (fail)
  rw [← hw3]
  clear hw3
  have q4 := HST.out.box.cell (j := 4) rfl
  go_wp2_with fail
  clear q4
  obtain ⟨b8, hb8⟩ : ∃ b, w2.heap.size = b := ⟨_, rfl⟩
  rw [hb8] at HST
  simp only [hb8]
  clear hb8
  go_loopw [24] (fun i wr => ∃ k : Nat, k ≤ n ∧ i = .int .i64 (k : Int) ∧ Hid (FiSt w wr node nodes n k pb z.p b8 z)) (fun i _ => n - (intOf i).toNat)
  case atStart => exact ⟨0, Nat.zero_le _, rfl, HST⟩
  case round =>
   obtain ⟨k, hk, rfl, HFI⟩ := hrel
   by_cases hlt : k < n
   ·go_wp2_with fail
    refine (Home_any (k : Int) nodes wr (by omega)).mono ?_
    rintro e w4 ⟨rfl, rfl⟩
    by_cases hh : home (k : Int) nodes = node
    ·have HY := Lib.hid (firstPl_yes hlt hh)
     have hat := firstPl_at (node := node) (nodes := nodes) hlt
     obtain ⟨hp0, hp1⟩ := place_first HFI.out.row hat
     have q4 := HFI.out.box.cell (j := 4) rfl
     have HN2 : Hid (FiSt w (wr.setCell ⟨pb, k * 5, none⟩ (.int .i64 1)) node nodes n (k + 1) pb z.p b8 z) := Lib.hid (by
      obtain ⟨r1, r2⟩ := places_put HFI.out.row (firstPl_len _ _ _ _) hat [.int .i64 1] (by simp [Value.oneCell']) (by simp) (pl := ⟨1, 0, 0, 0, 0⟩) rfl
      have hf := HFI.out.far
      refine ⟨by rw [HY.out]; exact r1, cells_only HFI.out.box r2 (fun e => hf.1 e.symm), cells_only HFI.out.res r2 (fun e => hf.2.1 e.symm), HFI.out.low.trans (r2.below HFI.out.low.size fun j e => by rw [e]; exact hf.2.2.2), hf⟩)
     simp only [pl0] at hp0
     clear hat
     simp only [hh]
     clear hh
     go_wp2_with fail
     go_roundw
     case rel => exact ⟨k + 1, by omega, by go_num, HN2⟩
     case measure => simp [intOf]; omega
    ·have HN2 : Hid (FiSt w wr node nodes n (k + 1) pb z.p b8 z) := Lib.hid (by
      have h := HFI.out
      exact ⟨by rw [firstPl_no hh]; exact h.row, h.box, h.res, h.low, h.far⟩)
     obtain ⟨hv, hhv⟩ : ∃ v, home (k : Int) nodes = v := ⟨_, rfl⟩
     rw [hhv] at hh ⊢
     clear hhv
     go_wp2_with fail
     go_roundw
     case rel => exact ⟨k + 1, by omega, by go_num, HN2⟩
     case measure => simp [intOf]; omega
   ·obtain rfl : k = n := by omega
    go_upto_region 10 with (fail)
    apply wp_region_lit
    refine wpList_load_cells rfl 32 _ rfl b8 #[.int .i64 node, .int .i64 nodes, .int .i64 (k : Int), .int .i64 0, .slice (some ⟨pb, 0, none⟩) k z.p, .slice z.Q 0 z.q, .slice z.D 0 z.d, .slice z.C 0 z.c] rfl rfl HFI.out.box Tryz.underlying32 rfl (by kernel_rfl) ?_
    refine wpList_store_cells rfl 32 _ _ rfl w.heap.size #[.int .i64 node, .int .i64 nodes, .int .i64 (k : Int), .int .i64 0, .slice (some ⟨pb, 0, none⟩) k z.p, .slice z.Q 0 z.q, .slice z.D 0 z.d, .slice z.C 0 z.c] [.int .i64 node, .int .i64 nodes, .int .i64 (k : Int), .int .i64 0, .slice (some ⟨pb, 0, none⟩) k z.p, .slice z.Q 0 z.q, .slice z.D 0 z.d, .slice z.C 0 z.c] rfl rfl rfl HFI.out.res rfl (by kernel_rfl) (by simp [Value.oneCell']) fun w5 hpt hov => ?_
    have HPT := Lib.hid hpt
    have HOV := Lib.hid hov
    clear hpt hov
    go_wp2_with fail
    refine bodyPost_ret (v := .tuple #[.agg #[.int .i64 node, .int .i64 nodes, .int .i64 (k : Int), .int .i64 0, .slice (some ⟨pb, 0, none⟩) k z.p, .slice z.Q 0 z.q, .slice z.D 0 z.d, .slice z.C 0 z.c], .int .i64 0]) ((ret_cell_tmp (p := 6) (q := 7) (ty := 32) (by rfl) _ HPT.out _ (by rfl) Tryz.underlying32 rfl (by kernel_rfl)).trans (by rfl)) rfl ?_
    rw [HFX.out]
    refine ⟨⟨⟨some ⟨pb, 0, none⟩, z.p, z.Q, z.q, z.D, z.d, z.C, z.c, [], []⟩, ?_, ?_⟩, HFI.out.low.trans (HOV.out.below HFI.out.low.size fun j e => by rw [e]; exact Nat.le_refl _)⟩
    ·unfold St.val firstS
     simp only [firstPl_len, List.length_nil]
    ·intro w6 h6
     have hr5 := row_only (row_only HFI.out.row HOV.out fun j e e2 => HFI.out.far.2.1 (by rw [own_blk] at e; exact (Option.some.inj e).trans e2)) h6 fun j e e2 => by
      have hf := HFI.out.far.2.2.2
      have : pb = j := by rw [own_blk] at e; exact Option.some.inj e
      omega
     have hs5 := own_sl' (vs := (firstPl node nodes k k).map Pl.vals) (by rw [List.length_map, firstPl_len]; exact hr5) (fit_places _).len
     have hzs := HL.out.sees
     exact ⟨hs5.1, sl_nil _ _ _, sl_nil _ _ _, sl_nil _ _ _, rfl, rfl, fun j h => absurd h (by simp [firstS]), fun j h => absurd h (by simp [firstS]), fun e => (by cases e), hzs.capQ, hzs.capD, hzs.capC⟩
end Go.Proofs.YtalhbblmnahcdaaGreat.Led
namespace Go.Proofs.YtalhbblmnahcdaaGreat.Led
set_option maxRecDepth 100000
open Go.ChangeShapes Go.WideShapes Go.ChangeAt Go.RowKit Go.Deep Go.Proofs.YtalhbblmnahcdaaGreat.Mem Go.Proofs.YtalhbblmnahcdaaGreat.Item Go.Proofs.YtalhbblmnahcdaaGreat.Rec
theorem structRec : ∃ f0 f1 f2 f3 f4 f5 f6 f7 f8 f9 f10 f11 f12 : Field, Tryz.prog.underlying 51 = some (.struct #[f0, f1, f2, f3, f4, f5, f6, f7, f8, f9, f10, f11, f12]) ∧
  (f0.type = 3 ∧ f1.type = 47 ∧ f2.type = 48 ∧ f3.type = 49 ∧ f4.type = 3 ∧ f5.type = 3 ∧ f6.type = 3 ∧ f7.type = 3 ∧ f8.type = 3 ∧ f9.type = 3 ∧ f10.type = 3 ∧ f11.type = 3 ∧ f12.type = 4) ∧
  (f0.offset = 0 ∧ f1.offset = 1 ∧ f2.offset = 4 ∧ f3.offset = 5 ∧ f4.offset = 6 ∧ f5.offset = 7 ∧ f6.offset = 8 ∧ f7.offset = 9 ∧ f8.offset = 10 ∧ f9.offset = 11 ∧ f10.offset = 12 ∧ f11.offset = 13 ∧ f12.offset = 14) :=
 ⟨_, _, _, _, _, _, _, _, _, _, _, _, _, Tryz.underlying51, ⟨rfl, rfl, rfl, rfl, rfl, rfl, rfl, rfl, rfl, rfl, rfl, rfl, rfl⟩, ⟨rfl, rfl, rfl, rfl, rfl, rfl, rfl, rfl, rfl, rfl, rfl, rfl, rfl⟩⟩
theorem cellsRec : Tryz.prog.cellsOf 51 = 15 := by kernel_rfl
theorem cellsInt : Tryz.prog.cellsOf 3 = 1 := by kernel_rfl
theorem cellsBool : Tryz.prog.cellsOf 4 = 1 := by kernel_rfl
theorem cellsItems : Tryz.prog.cellsOf 48 = 1 := by kernel_rfl
theorem cellsInts : Tryz.prog.cellsOf 49 = 1 := by kernel_rfl
theorem list15 {α : Type} {cs : List α} (h : cs.length = 15) : ∃ c0 c1 c2 c3 c4 c5 c6 c7 c8 c9 c10 c11 c12 c13 c14, cs = [c0, c1, c2, c3, c4, c5, c6, c7, c8, c9, c10, c11, c12, c13, c14] := by
 match cs, h with
 | [c0, c1, c2, c3, c4, c5, c6, c7, c8, c9, c10, c11, c12, c13, c14], _ => exact ⟨c0, c1, c2, c3, c4, c5, c6, c7, c8, c9, c10, c11, c12, c13, c14, rfl⟩
theorem list13 {α : Type} {cs : List α} (h : cs.length = 13) : ∃ c0 c1 c2 c3 c4 c5 c6 c7 c8 c9 c10 c11 c12, cs = [c0, c1, c2, c3, c4, c5, c6, c7, c8, c9, c10, c11, c12] := by
 match cs, h with
 | [c0, c1, c2, c3, c4, c5, c6, c7, c8, c9, c10, c11, c12], _ => exact ⟨c0, c1, c2, c3, c4, c5, c6, c7, c8, c9, c10, c11, c12, rfl⟩
section
variable {H : Type} {enc : TypeId × Value → H} {W : World}
theorem int_cell {m : Nat} {c : Value} {y : DataW H × List MemPlace} (h : DataW.trod enc Tryz.prog W 0 (fun _ => true) true m 3 [c] = some y) : ∃ x, c = .int .i64 x ∧ I64 x := by
 obtain ⟨x, q, _, wf⟩ := DataW.trod_int Tryz.underlying3 h
 simp at q
 exact ⟨x, q, i64_wf wf⟩
theorem bool_cell {m : Nat} {c : Value} {y : DataW H × List MemPlace} (h : DataW.trod enc Tryz.prog W 0 (fun _ => true) true m 4 [c] = some y) : ∃ x, c = .bool x := by
 obtain ⟨x, q, _⟩ := DataW.trod_bool Tryz.underlying4 h
 simp at q
 exact ⟨x, q⟩
/-- A record that came in, as cells are read. -/
theorem rec_trod {fuel : Nat} {cs : List Value} {yy : DataW H × List MemPlace} (hlen15 : cs.length = 15) (hf : DataW.trod enc Tryz.prog W 0 (fun _ => true) true fuel 51 cs = some yy) : ∃ (r : Rc) (y : Lay), cs = r.vals y ∧ Two W r.items r.nodes y ∧ r.ok ∧ r.items.length ≤ maxLen ∧ r.nodes.length ≤ maxLen := by
 obtain ⟨f0, f1, f2, f3, f4, f5, f6, f7, f8, f9, f10, f11, f12, hst, ⟨e0, e1, e2, e3, e4, e5, e6, e7, e8, e9, e10, e11, e12⟩, o0, o1, o2, o3, o4, o5, o6, o7, o8, o9, o10, o11, o12⟩ := structRec
 obtain ⟨c0, c1, c2, c3, c4, c5, c6, c7, c8, c9, c10, c11, c12, c13, c14, rfl⟩ := list15 hlen15
 obtain ⟨xs, n, _, _, hlen, hxl, hg⟩ := DataW.trod_struct hst hf
 obtain ⟨y0, y1, y2, y3, y4, y5, y6, y7, y8, y9, y10, y11, y12, rfl⟩ := list13 hxl
 have g0 := hg 0 f0 rfl
 have g1 := hg 1 f1 rfl
 have g2 := hg 2 f2 rfl
 have g3 := hg 3 f3 rfl
 have g4 := hg 4 f4 rfl
 have g5 := hg 5 f5 rfl
 have g6 := hg 6 f6 rfl
 have g7 := hg 7 f7 rfl
 have g8 := hg 8 f8 rfl
 have g9 := hg 9 f9 rfl
 have g10 := hg 10 f10 rfl
 have g11 := hg 11 f11 rfl
 have g12 := hg 12 f12 rfl
 rw [e0, o0, cellsInt] at g0
 rw [e1, o1, cellsTid] at g1
 rw [e2, o2, cellsItems] at g2
 rw [e3, o3, cellsInts] at g3
 rw [e4, o4, cellsInt] at g4
 rw [e5, o5, cellsInt] at g5
 rw [e6, o6, cellsInt] at g6
 rw [e7, o7, cellsInt] at g7
 rw [e8, o8, cellsInt] at g8
 rw [e9, o9, cellsInt] at g9
 rw [e10, o10, cellsInt] at g10
 rw [e11, o11, cellsInt] at g11
 rw [e12, o12, cellsBool] at g12
 obtain ⟨x0, rfl, w0⟩ := int_cell (c := c0) g0
 obtain ⟨F0, F1, F2, hts, hone, t0, t1, t2⟩ : ∃ F0 F1 F2 : Field, Tryz.prog.underlying 47 = some (.struct #[F0, F1, F2]) ∧ oneCellFields Tryz.prog #[F0, F1, F2] = true ∧ F0.type = 3 ∧ F1.type = 3 ∧ F2.type = 3 := ⟨_, _, _, Tryz.underlying47, by kernel_rfl, rfl, rfl, rfl⟩
 obtain ⟨z0, z1, z2, m, _, _, h0, h1, h2⟩ := trod_struct3 hts g1
 obtain ⟨O0, K0⟩ := hone_of hone 0 F0 rfl
 obtain ⟨O1, K1⟩ := hone_of hone 1 F1 rfl
 obtain ⟨O2, K2⟩ := hone_of hone 2 F2 rfl
 rw [O0, K0, t0] at h0
 rw [O1, K1, t1] at h1
 rw [O2, K2, t2] at h2
 obtain ⟨x1, rfl, w1⟩ := int_cell (c := c1) h0
 obtain ⟨x2, rfl, w2⟩ := int_cell (c := c2) h1
 obtain ⟨x3, rfl, w3⟩ := int_cell (c := c3) h2
 change DataW.trod enc Tryz.prog W 0 (fun _ => true) true n 48 [c4] = some y2 at g2
 change DataW.trod enc Tryz.prog W 0 (fun _ => true) true n 49 [c5] = some y3 at g3
 obtain ⟨A, L, cc, q4⟩ := Go.Joins.slice_form Tryz.underlying48 g2
 obtain ⟨B, M, dd, q5⟩ := Go.Joins.slice_form Tryz.underlying49 g3
 obtain rfl : c4 = .slice A L cc := by simpa using q4
 obtain rfl : c5 = .slice B M dd := by simpa using q5
 obtain ⟨its, rfl, a1, a2, a3, a4⟩ := items_trod g2
 obtain ⟨nds, rfl, b1, b2, b3, b4⟩ := nums_trod g3
 obtain ⟨x6, rfl, w6⟩ := int_cell (c := c6) g4
 obtain ⟨x7, rfl, w7⟩ := int_cell (c := c7) g5
 obtain ⟨x8, rfl, w8⟩ := int_cell (c := c8) g6
 obtain ⟨x9, rfl, w9⟩ := int_cell (c := c9) g7
 obtain ⟨x10, rfl, w10⟩ := int_cell (c := c10) g8
 obtain ⟨x11, rfl, w11⟩ := int_cell (c := c11) g9
 obtain ⟨x12, rfl, w12⟩ := int_cell (c := c12) g10
 obtain ⟨x13, rfl, w13⟩ := int_cell (c := c13) g11
 obtain ⟨x14, rfl⟩ := bool_cell (c := c14) g12
 exact ⟨⟨x0, ⟨x1, x2, x3⟩, its, nds, x6, x7, x8, x9, x10, x11, x12, x13, x14⟩, ⟨A, cc, B, dd⟩, rfl, ⟨a1, b1, a4.1, b4.1⟩, ⟨w0, ⟨w1, w2, w3⟩, a3, b3, w6, w7, w8, w9, w10, w11, w12, w13⟩, a2, b2⟩
/-- A slice of records that came in. -/
theorem open_recs {base : Nat} {v : Value} {d : DataW H} {p : List MemPlace}
  (hv : Value.okWide Tryz.prog W .any base 24 v) (h : DataW.Trod enc Tryz.prog W 0 (fun _ => true) true 24 v d p) :
  ∃ (A : Option Addr) (l : List Rc) (zs : List Lay) (cap : Nat), v = .slice A l.length cap ∧ Recs W A l zs ∧ l.length ≤ maxLen ∧ (∀ r ∈ l, r.ok ∧ r.items.length ≤ maxLen ∧ r.nodes.length ≤ maxLen) ∧ Cap A l.length cap := by
 obtain ⟨a0, len, cap, rfl⟩ := okWide_slice Tryz.underlying24 hv
 obtain ⟨fuel, hf⟩ := h
 have hf : DataW.trod enc Tryz.prog W 0 (fun _ => true) true fuel 24 [.slice a0 len cap] = some (d, p) := by simpa [Value.cells] using hf
 rcases open_slice Tryz.underlying24 hf with ⟨hcs, hx⟩ | ⟨a, len', cap', m, n, D, Pl, hcs, _, hl, hm, hmm, hx, hi⟩
 ·simp at hcs
  obtain ⟨rfl, rfl, rfl⟩ := hcs
  exact ⟨none, [], [], 0, rfl, ⟨sl_nil _ _ _, rfl, fun k h => absurd h (by simp)⟩, by decide, fun x hx => (by cases hx), And.intro (fun _ => rfl) (Nat.le_refl _)⟩
 ·simp at hcs
  obtain ⟨rfl, rfl, rfl⟩ := hcs
  simp only [if_true] at hmm
  have each : ∀ i, i < len → ∃ x : Rc × Lay, (∀ j u, (x.1.vals x.2)[j]? = some u → W.cell? (a.add (i * 15 + j)) = some u) ∧ Two W x.1.items x.1.nodes x.2 ∧ x.1.ok ∧ x.1.items.length ≤ maxLen ∧ x.1.nodes.length ≤ maxLen := by
   intro i hil
   obtain ⟨cs', hc, hr⟩ := hi i (by omega)
   rw [cellsRec] at hc
   obtain ⟨_, hcl, hat⟩ := World.cells?_some hc
   obtain ⟨r, y, rfl, h2, h3, h4, h5⟩ := rec_trod hcl hr
   refine ⟨(r, y), fun j u hu => ?_, h2, h3, h4, h5⟩
   have hj : j < 15 := (List.getElem?_eq_some_iff.1 hu).1
   have := hat j (by omega)
   simp only [Go.Deep.add_add] at this
   exact this.trans hu
  obtain ⟨f, hfn⟩ := choose_below (rc0, lay0) each
  have hle : ((List.range len).map fun i => (f i).1).length = len := by simp
  refine ⟨some a, (List.range len).map fun i => (f i).1, (List.range len).map fun i => (f i).2, cap, by rw [hle], ⟨?_, by simp, ?_⟩, by simp; omega, ?_, And.intro (fun h => by cases h) (by simp; omega)⟩
  ·intro k hk
   have hk' : k < len := by simpa using hk
   have hspec := (hfn k hk').1
   have hspot : a.spot = none := by
    have := World.cell?_spot ((hfn 0 (by omega)).1 0 _ rfl)
    simpa [Addr.add] using this
   obtain ⟨ab, ao, asp⟩ := a
   simp only at hspot
   subst hspot
   refine ⟨ab, ao, rfl, fun j u hu => ?_⟩
   simp only [List.getElem_zipWith, List.getElem_map, List.getElem_range] at hu
   have := hspec j u hu
   simp only [add_plain, ← Nat.add_assoc] at this
   exact this
  ·intro k h1 h2
   simp only [List.getElem_map, List.getElem_range]
   exact (hfn k (by simpa using h1)).2.1
  ·intro x hx
   obtain ⟨i, hi, rfl⟩ := List.mem_map.1 hx
   exact (hfn i (List.mem_range.1 hi)).2.2
end
end Go.Proofs.YtalhbblmnahcdaaGreat.Led
namespace Go.Proofs.YtalhbblmnahcdaaGreat.Led
set_option maxRecDepth 100000
open Go.RowKit Go.Deep Go.Proofs.YtalhbblmnahcdaaGreat.Mem Go.Proofs.YtalhbblmnahcdaaGreat.Item Go.Proofs.YtalhbblmnahcdaaGreat.Rec
def bigR (r : Rc) : Bool := decide (60 < r.items.length) || decide (60 < r.nodes.length)
def greatB (l : List Rc) (most : Nat) : Bool := decide (most < l.length) || l.any bigR
theorem great_small {l : List Rc} {most : Nat} (h : greatB l most = false) : l.length ≤ most ∧ ∀ r ∈ l, r.items.length ≤ 60 ∧ r.nodes.length ≤ 60 := by
 unfold greatB bigR at h
 simp only [Bool.or_eq_false_iff, decide_eq_false_iff_not, List.any_eq_false, Bool.or_eq_true, decide_eq_true_eq] at h
 refine ⟨by omega, fun r hr => ?_⟩
 have := h.2 r hr
 omega
set_option maxHeartbeats 4000000 in
theorem great_any (A : Option Addr) (l : List Rc) (zs : List Lay) (cap most : Nat) (w : World) (hr : Recs w A l zs) (hl : l.length ≤ maxLen) (hs : ∀ r ∈ l, r.items.length ≤ maxLen ∧ r.nodes.length ≤ maxLen) (hm : most ≤ 1000) :
  Calls Tryz.prog 7 #[.slice A l.length cap, .int .i64 (most : Int)] w fun e w' => e = .returned (.bool (greatB l most)) ∧ Below w.heap.size w w' := by
 have HR := Lib.hid hr
 have HS := Lib.hid hs
 have HG : Hid (greatB l most = (decide (most < l.length) || l.any bigR)) := Lib.hid rfl
 obtain ⟨G, hG⟩ : ∃ G, greatB l most = G := ⟨_, rfl⟩
 rw [hG] at HG ⊢
 obtain ⟨n, hn⟩ : ∃ n, l.length = n := ⟨_, rfl⟩
 have HN := Lib.hid hn
 rw [hn] at hl HG ⊢
 have hn63 : n ≤ 9223372036854775807 := by unfold maxLen at hl; omega
 clear hr hs hG hn hl
 go_enter Tryz.func7, Tryz.ntmps7
 by_cases hmn : most < n
 ·have HGX : Hid (G = true) := Lib.hid (by rw [HG.out, decide_eq_true hmn]; rfl)
  have h2 : (most : Int) < (n : Int) := by omega
  go_wp2_with fail
  go_returns
  exact ⟨ret_bool HGX.out, Below.refl _ _⟩
 have h2 : ¬ (most : Int) < (n : Int) := by omega
 have HG2 : Hid (G = l.any bigR) := Lib.hid (by rw [HG.out, decide_eq_false hmn]; rfl)
 go_wp2_with fail
 go_loopw [13] (fun i wr => ∃ k : Nat, k ≤ n ∧ i = .int .i64 (k : Int) ∧ Hid (∀ j (hj : j < l.length), j < k → bigR l[j] = false) ∧ Hid (Below w.heap.size w wr)) (fun i _ => n - (intOf i).toNat)
 case atStart => exact ⟨0, Nat.zero_le _, rfl, Lib.hid fun j _ hj => absurd hj (by omega), Lib.hid (Below.refl _ _)⟩
 case round =>
  obtain ⟨k, hk, rfl, HD, HB⟩ := hrel
  by_cases hlt : k < n
  ·have hlk : k < l.length := by have := HN.out; omega
   have hzk : k < zs.length := by have := HR.out.len; omega
   obtain ⟨ab, off, hAA, hr0⟩ := (HR.out.later HB.out).row k (by rw [List.length_zipWith]; omega)
   rw [List.getElem_zipWith] at hr0
   have HT : Hid (bigR l[k] = true → G = true) := Lib.hid fun h => by rw [HG2.out]; exact List.any_eq_true.2 ⟨_, List.getElem_mem hlk, h⟩
   have HE : Hid (bigR l[k] = false → ∀ j (hj : j < l.length), j < k + 1 → bigR l[j] = false) := Lib.hid fun h j hj hjk => by
    by_cases e : j = k
    ·subst e; exact h
    ·exact HD.out j hj (by omega)
   have hss := HS.out l[k] (List.getElem_mem hlk)
   obtain ⟨r, hr⟩ : ∃ r, l[k] = r := ⟨_, rfl⟩
   obtain ⟨z1, hz1⟩ : ∃ z, zs[k] = z := ⟨_, rfl⟩
   rw [hr] at HT HE hss
   rw [hr, hz1] at hr0
   clear hr hz1
   have x0 : wr.cell? ⟨ab, off + k * 15, none⟩ = some (.int .i64 r.kind) := hr0 0 _ rfl
   have x1 : wr.cell? ⟨ab, off + k * 15 + 1, none⟩ = some (.int .i64 r.tid.node) := hr0 1 _ rfl
   have x2 : wr.cell? ⟨ab, off + k * 15 + 2, none⟩ = some (.int .i64 r.tid.epoch) := hr0 2 _ rfl
   have x3 : wr.cell? ⟨ab, off + k * 15 + 3, none⟩ = some (.int .i64 r.tid.seq) := hr0 3 _ rfl
   have x4 : wr.cell? ⟨ab, off + k * 15 + 4, none⟩ = some (.slice z1.A r.items.length z1.c) := hr0 4 _ rfl
   have x5 : wr.cell? ⟨ab, off + k * 15 + 5, none⟩ = some (.slice z1.B r.nodes.length z1.d) := hr0 5 _ rfl
   have x6 : wr.cell? ⟨ab, off + k * 15 + 6, none⟩ = some (.int .i64 r.node) := hr0 6 _ rfl
   have x7 : wr.cell? ⟨ab, off + k * 15 + 7, none⟩ = some (.int .i64 r.count) := hr0 7 _ rfl
   have x8 : wr.cell? ⟨ab, off + k * 15 + 8, none⟩ = some (.int .i64 r.num) := hr0 8 _ rfl
   have x9 : wr.cell? ⟨ab, off + k * 15 + 9, none⟩ = some (.int .i64 r.cell) := hr0 9 _ rfl
   have x10 : wr.cell? ⟨ab, off + k * 15 + 10, none⟩ = some (.int .i64 r.status) := hr0 10 _ rfl
   have x11 : wr.cell? ⟨ab, off + k * 15 + 11, none⟩ = some (.int .i64 r.hop) := hr0 11 _ rfl
   have x12 : wr.cell? ⟨ab, off + k * 15 + 12, none⟩ = some (.int .i64 r.version) := hr0 12 _ rfl
   have x13 : wr.cell? ⟨ab, off + k * 15 + 13, none⟩ = some (.int .i64 r.value) := hr0 13 _ rfl
   have x14 : wr.cell? ⟨ab, off + k * 15 + 14, none⟩ = some (.bool r.yes) := hr0 14 _ rfl
   clear hr0 hlk hzk
   simp only [hAA]
   clear hAA
   have HB2 : Hid (Below w.heap.size w (wr.alloc (.cells #[.int .i64 r.kind, .int .i64 r.tid.node, .int .i64 r.tid.epoch, .int .i64 r.tid.seq, .slice z1.A r.items.length z1.c, .slice z1.B r.nodes.length z1.d, .int .i64 r.node, .int .i64 r.count, .int .i64 r.num, .int .i64 r.cell, .int .i64 r.status, .int .i64 r.hop, .int .i64 r.version, .int .i64 r.value, .bool r.yes] 51))) := Lib.hid (HB.out.trans ((below_alloc _ _).mono HB.out.size))
   obtain ⟨ni, hni⟩ : ∃ n, r.items.length = n := ⟨_, rfl⟩
   obtain ⟨nd, hnd⟩ : ∃ n, r.nodes.length = n := ⟨_, rfl⟩
   have HBG : Hid (bigR r = (decide (60 < ni) || decide (60 < nd))) := Lib.hid (by unfold bigR; rw [hni, hnd])
   rw [hni, hnd] at HB2 hss
   rw [hni] at x4
   rw [hnd] at x5
   have hss1 : ni ≤ 9223372036854775807 := by unfold maxLen at hss; omega
   have hss2 : nd ≤ 9223372036854775807 := by unfold maxLen at hss; omega
   clear hni hnd hss
   by_cases g1 : 60 < ni
   ·have HGX : Hid (G = true) := Lib.hid (HT.out (by rw [HBG.out, decide_eq_true g1]; rfl))
    have g2 : (60 : Int) < (ni : Int) := by omega
    go_wp2_with fail
    go_returns
    exact ⟨ret_bool HGX.out, HB2.out⟩
   ·have g2 : ¬ (60 : Int) < (ni : Int) := by omega
    by_cases g3 : 60 < nd
    ·have HGX : Hid (G = true) := Lib.hid (HT.out (by rw [HBG.out, decide_eq_true g3, Bool.or_true]))
     have g4 : (60 : Int) < (nd : Int) := by omega
     go_wp2_with fail
     go_returns
     exact ⟨ret_bool HGX.out, HB2.out⟩
    ·have g4 : ¬ (60 : Int) < (nd : Int) := by omega
     have HE2 := Lib.hid (HE.out (by rw [HBG.out, decide_eq_false g1, decide_eq_false g3]; rfl))
     clear HD
     go_wp2_with fail
     go_roundw
     case rel => exact ⟨k + 1, by omega, by go_num, HE2, HB2⟩
     case measure => simp [intOf]; omega
  ·have HGX : Hid (G = false) := Lib.hid (by
    rw [HG2.out, List.any_eq_false]
    intro r hr
    obtain ⟨j, hj, rfl⟩ := List.mem_iff_getElem.1 hr
    rw [HD.out j hj (by have := HN.out; omega)]
    exact Bool.false_ne_true)
   clear HD
   go_wp2_with fail
   go_returns
   exact ⟨ret_bool HGX.out, HB.out⟩
end Go.Proofs.YtalhbblmnahcdaaGreat.Led
namespace Go.Proofs.YtalhbblmnahcdaaGreat.Led
set_option maxRecDepth 100000
open Go.RowKit Go.Deep Go.Proofs.YtalhbblmnahcdaaGreat.Mem Go.Proofs.YtalhbblmnahcdaaGreat.Item Go.Proofs.YtalhbblmnahcdaaGreat.Rec
/-- Behind a record that can follow, or as it was. -/
def goOn (s : St) (r : Rc) : St := if (fFollow s r).2 = 0 then (fFollow s r).1 else s
def reachL (s : St) (l : List Rc) : St := l.foldl goOn s
def reachM (b1 b2 b3 : Int) (l : List Rc) : St × Bool := if (firstL b1 b2 b3).2 = 0 then (reachL (firstL b1 b2 b3).1 l, true) else ((firstL b1 b2 b3).1, false)
theorem reachL_take {s : St} {l : List Rc} {k : Nat} (h : k < l.length) : reachL s (l.take (k + 1)) = goOn (reachL s (l.take k)) l[k] := by
 unfold reachL
 rw [List.take_succ_eq_append_getElem h, List.foldl_append]
 rfl
theorem Sz.goOn {m : Nat} {s : St} (h : Sz m s) (r : Rc) (hr : r.items.length ≤ 1000 ∧ r.nodes.length ≤ 1000) : Sz (m + 1) (goOn s r) := by
 unfold Led.goOn
 split
 ·exact h.follow r hr
 ·exact h.mono (Nat.le_succ m)
theorem Sz.first (b1 b2 b3 : Int) : Sz 0 (firstL b1 b2 b3).1 := by
 unfold firstL
 cases hr : right (rcB b1 b2 b3) with
 | false => exact ⟨Nat.zero_le _, Nat.zero_le _, Nat.zero_le _, Nat.zero_le _, fun p hp => (by cases hp), fun p hp => (by cases hp)⟩
 | true =>
  have hn := right_num hr rfl
  simp only [rcB] at hn
  refine ⟨?_, Nat.zero_le _, Nat.zero_le _, Nat.zero_le _, fun p hp => (by cases hp), fun p hp => (by cases hp)⟩
  rw [if_neg (by decide)]
  unfold firstS
  rw [firstPl_len]
  omega
theorem Sz.reach {s : St} {l : List Rc} (h : Sz 0 s) (hs : ∀ r ∈ l, r.items.length ≤ 1000 ∧ r.nodes.length ≤ 1000) : ∀ k, k ≤ l.length → Sz k (reachL s (l.take k))
 | 0, _ => by rw [List.take_zero]; exact h
 | k + 1, hk => by
  rw [reachL_take (by omega)]
  exact (Sz.reach h hs k (by omega)).goOn _ (hs _ (List.getElem_mem _))
/-- Where reached stands ahead of a record. -/
structure ReSt (w wr : World) (s : St) (b6 : Nat) (y : Sy) : Prop where
 sees : ∀ w', Only (fun k => k ≤ w.heap.size + 1 ∨ k = b6) wr w' → Sees w' s y
 box : Cells wr b6 32 (s.vals y)
 res : Cells wr (w.heap.size + 1) 32 [.int .i64 0, .int .i64 0, .int .i64 0, .int .i64 0, .slice none 0 0, .slice none 0 0, .slice none 0 0, .slice none 0 0]
 low : Below w.heap.size w wr
theorem ReSt.later {w wr w' : World} {s : St} {b6 : Nat} {y : Sy} (h : ReSt w wr s b6 y) (hb : Below wr.heap.size wr w') : ReSt w w' s b6 y := ⟨fun w2 h2 => h.sees w2 ((Only.of_below hb).trans h2 fun _ _ e => e), h.box.later hb, h.res.later hb, h.low.trans (hb.mono h.low.size)⟩
theorem apply_one (s : St) (r : Rc) : applyL s [r] = if (fFollow s r).2 = 0 then ((fFollow s r).1, 0) else (stZ, (fFollow s r).2) := rfl
set_option maxHeartbeats 8000000 in
theorem reached_any (b1 b2 b3 : Int) (A : Option Addr) (l : List Rc) (zs : List Lay) (cap : Nat) (w : World) (hr : Recs w A l zs) (hl : l.length ≤ 1000) (hs : ∀ r ∈ l, r.items.length ≤ 1000 ∧ r.nodes.length ≤ 1000) :
  Calls Tryz.prog 27 #[.agg #[.int .i64 b1, .int .i64 b2, .int .i64 b3], .slice A l.length cap] w fun e w' => (∃ y', e = .returned (.tuple #[(reachM b1 b2 b3 l).1.val y', .bool (reachM b1 b2 b3 l).2]) ∧ Stays w.heap.size w' (reachM b1 b2 b3 l).1 y') ∧ Below w.heap.size w w' := by
 obtain ⟨wb, hwb⟩ : ∃ v, v = (w.alloc (.cells #[.int .i64 b1, .int .i64 b2, .int .i64 b3] 23)).alloc (.cells #[.int .i64 0, .int .i64 0, .int .i64 0, .int .i64 0, .slice none 0 0, .slice none 0 0, .slice none 0 0, .slice none 0 0] 32) := ⟨_, rfl⟩
 have hb1 := below_alloc w (.cells #[.int .i64 b1, .int .i64 b2, .int .i64 b3] 23)
 have hb : Below w.heap.size w wb := by rw [hwb]; exact hb1.alloc hb1.size _
 have hc2 : Cells wb (w.heap.size + 1) 32 [.int .i64 0, .int .i64 0, .int .i64 0, .int .i64 0, .slice none 0 0, .slice none 0 0, .slice none 0 0, .slice none 0 0] := by
  rw [hwb]
  have h := cells_new (w.alloc (.cells #[.int .i64 b1, .int .i64 b2, .int .i64 b3] 23)) 32 [.int .i64 0, .int .i64 0, .int .i64 0, .int .i64 0, .slice none 0 0, .slice none 0 0, .slice none 0 0, .slice none 0 0] _ rfl
  rw [World.size_alloc] at h
  exact h
 have HB := Lib.hid hb
 have HC2 := Lib.hid hc2
 have HR := Lib.hid hr
 have HS := Lib.hid hs
 have HSZ := Lib.hid (Sz.first b1 b2 b3)
 have HFI := Lib.hid (First_any b1 b2 b3 wb)
 have HM : Hid (reachM b1 b2 b3 l = if (firstL b1 b2 b3).2 = 0 then (reachL (firstL b1 b2 b3).1 l, true) else ((firstL b1 b2 b3).1, false)) := Lib.hid rfl
 obtain ⟨M, hM⟩ : ∃ M, reachM b1 b2 b3 l = M := ⟨_, rfl⟩
 rw [hM] at HM ⊢
 obtain ⟨n, hn⟩ : ∃ n, l.length = n := ⟨_, rfl⟩
 have HN := Lib.hid hn
 rw [hn] at hl ⊢
 clear hr hs hb1 hb hc2 hM hn
 go_enter Tryz.func27, Tryz.ntmps27
 go_wp2_with fail
 rw [← hwb]
 clear hwb
 refine HFI.out.mono ?_
 rintro e w2 ⟨⟨y0, rfl, hst⟩, hb2⟩
 obtain ⟨F, hF⟩ : ∃ F, firstL b1 b2 b3 = F := ⟨_, rfl⟩
 rw [hF] at HM HSZ hst ⊢
 clear hF HFI
 obtain ⟨s0, e0⟩ := F
 simp only at HM HSZ hst
 obtain ⟨w3, hw3⟩ : ∃ v, v = w2.alloc (.cells #[.int .i64 s0.node, .int .i64 s0.nodes, .int .i64 s0.cells, .int .i64 s0.epoch, .slice y0.P s0.places.length y0.p, .slice y0.Q s0.prep.length y0.q, .slice y0.D s0.dec.length y0.d, .slice y0.C s0.com.length y0.c] 32) := ⟨_, rfl⟩
 have hb3 : Below w2.heap.size w2 w3 := by rw [hw3]; exact below_alloc _ _
 have HST : Hid (ReSt w w3 s0 w2.heap.size y0) := Lib.hid ⟨fun w9 h9 => hst w9 ((Only.of_below hb3).trans h9 fun k hk e => by
   have := HC2.out.lt
   omega), by rw [hw3]; exact cells_new _ _ _ _ rfl, (HC2.out.later hb2).later hb3, HB.out.trans ((hb2.trans (hb3.mono hb2.size)).mono HB.out.size)⟩
 have HLT : Hid (w.heap.size + 1 < w2.heap.size) := Lib.hid (Nat.lt_of_lt_of_le HC2.out.lt hb2.size)
 obtain ⟨b6, hb6⟩ : ∃ b, w2.heap.size = b := ⟨_, rfl⟩
 rw [hb6] at HST HLT
 clear hst hb2 hb3
 simp only [St.val]
 by_cases he : e0 = 0
 ·subst he
  have HMX : Hid (M = (reachL s0 l, true)) := Lib.hid (by rw [HM.out, if_pos rfl])
  go_wp2_with fail
  rw [← hw3]
  clear hw3 hb6
  go_loopw [27] (fun i wr => ∃ k : Nat, k ≤ n ∧ i = .int .i64 (k : Int) ∧ Hid (∃ yk, ReSt w wr (reachL s0 (l.take k)) b6 yk)) (fun i _ => n - (intOf i).toNat)
  case atStart => exact ⟨0, Nat.zero_le _, rfl, Lib.hid ⟨y0, by rw [List.take_zero]; exact HST.out⟩⟩
  case round =>
   obtain ⟨k, hk, rfl, HA⟩ := hrel
   obtain ⟨yk, hA⟩ := HA.out
   have hszk := Sz.reach HSZ.out HS.out k (by have := HN.out; omega)
   by_cases hlt : k < n
   ·have hlk : k < l.length := by have := HN.out; omega
    have hzk : k < zs.length := by have := HR.out.len; omega
    have hnx := reachL_take (s := s0) hlk
    obtain ⟨sk, hsk⟩ : ∃ s, reachL s0 (l.take k) = s := ⟨_, rfl⟩
    rw [hsk] at hA hszk hnx
    have HP := Lib.hid hA
    have HSK := Lib.hid hszk
    clear HA hA hszk hsk
    obtain ⟨ab, off, hAA, hr0⟩ := (HR.out.later HP.out.low).row k (by rw [List.length_zipWith]; omega)
    rw [List.getElem_zipWith] at hr0
    have HTW := Lib.hid ((HR.out.later HP.out.low).each k hlk hzk)
    have HSR := Lib.hid (HS.out l[k] (List.getElem_mem hlk))
    obtain ⟨r, hr⟩ : ∃ r, l[k] = r := ⟨_, rfl⟩
    obtain ⟨z1, hz1⟩ : ∃ z, zs[k] = z := ⟨_, rfl⟩
    rw [hr, hz1] at HTW hr0
    rw [hr] at HSR hnx
    have HNX := Lib.hid hnx
    clear hr hz1 hnx
    have x0 : wr.cell? ⟨ab, off + k * 15, none⟩ = some (.int .i64 r.kind) := hr0 0 _ rfl
    have x1 : wr.cell? ⟨ab, off + k * 15 + 1, none⟩ = some (.int .i64 r.tid.node) := hr0 1 _ rfl
    have x2 : wr.cell? ⟨ab, off + k * 15 + 2, none⟩ = some (.int .i64 r.tid.epoch) := hr0 2 _ rfl
    have x3 : wr.cell? ⟨ab, off + k * 15 + 3, none⟩ = some (.int .i64 r.tid.seq) := hr0 3 _ rfl
    have x4 : wr.cell? ⟨ab, off + k * 15 + 4, none⟩ = some (.slice z1.A r.items.length z1.c) := hr0 4 _ rfl
    have x5 : wr.cell? ⟨ab, off + k * 15 + 5, none⟩ = some (.slice z1.B r.nodes.length z1.d) := hr0 5 _ rfl
    have x6 : wr.cell? ⟨ab, off + k * 15 + 6, none⟩ = some (.int .i64 r.node) := hr0 6 _ rfl
    have x7 : wr.cell? ⟨ab, off + k * 15 + 7, none⟩ = some (.int .i64 r.count) := hr0 7 _ rfl
    have x8 : wr.cell? ⟨ab, off + k * 15 + 8, none⟩ = some (.int .i64 r.num) := hr0 8 _ rfl
    have x9 : wr.cell? ⟨ab, off + k * 15 + 9, none⟩ = some (.int .i64 r.cell) := hr0 9 _ rfl
    have x10 : wr.cell? ⟨ab, off + k * 15 + 10, none⟩ = some (.int .i64 r.status) := hr0 10 _ rfl
    have x11 : wr.cell? ⟨ab, off + k * 15 + 11, none⟩ = some (.int .i64 r.hop) := hr0 11 _ rfl
    have x12 : wr.cell? ⟨ab, off + k * 15 + 12, none⟩ = some (.int .i64 r.version) := hr0 12 _ rfl
    have x13 : wr.cell? ⟨ab, off + k * 15 + 13, none⟩ = some (.int .i64 r.value) := hr0 13 _ rfl
    have x14 : wr.cell? ⟨ab, off + k * 15 + 14, none⟩ = some (.bool r.yes) := hr0 14 _ rfl
    clear hr0 hlk hzk
    simp only [hAA]
    clear hAA
    obtain ⟨wy, hwy⟩ : ∃ v, v = wr.alloc (.cells #[.int .i64 r.kind, .int .i64 r.tid.node, .int .i64 r.tid.epoch, .int .i64 r.tid.seq, .slice z1.A r.items.length z1.c, .slice z1.B r.nodes.length z1.d, .int .i64 r.node, .int .i64 r.count, .int .i64 r.num, .int .i64 r.cell, .int .i64 r.status, .int .i64 r.hop, .int .i64 r.version, .int .i64 r.value, .bool r.yes] 51) := ⟨_, rfl⟩
    obtain ⟨wx, hwx⟩ : ∃ v, v = wy.alloc (.cells #[.int .i64 r.kind, .int .i64 r.tid.node, .int .i64 r.tid.epoch, .int .i64 r.tid.seq, .slice z1.A r.items.length z1.c, .slice z1.B r.nodes.length z1.d, .int .i64 r.node, .int .i64 r.count, .int .i64 r.num, .int .i64 r.cell, .int .i64 r.status, .int .i64 r.hop, .int .i64 r.version, .int .i64 r.value, .bool r.yes] 51) := ⟨_, rfl⟩
    have hby : Below wr.heap.size wr wy := by rw [hwy]; exact below_alloc _ _
    have hbx : Below wr.heap.size wr wx := hby.trans (by rw [hwx]; exact (below_alloc _ _).mono hby.size)
    have hgx : Cells wx wy.heap.size 51 (r.vals z1) := by rw [hwx]; exact cells_new _ _ _ _ rfl
    have hsy : wy.heap.size = wr.heap.size + 1 := by rw [hwy, World.size_alloc]
    rw [hsy] at hgx
    have HAP := Lib.hid (Apply_any sk yk [r] [z1] (some ⟨wr.heap.size + 1, 0, none⟩) 1 k wx ((HP.out.later hbx).sees _ (Only.refl _ _)) HSK.out
     ⟨cells_sl (sz := 15) (by simpa using hgx) (fun v hv => by rw [List.mem_singleton.1 hv]; rfl), rfl, fun j h1 h2 => by
      have : j = 0 := by simp at h1; omega
      subst this
      exact HTW.out.later hbx⟩ (fun x hx => by rw [List.mem_singleton.1 hx]; exact HSR.out) (by simp only [List.length_singleton]; omega))
    have HBX := Lib.hid hbx
    have hq := HP.out.box
    unfold St.vals at hq
    have q0 := hq.cell (j := 0) rfl
    have q1 := hq.cell (j := 1) rfl
    have q2 := hq.cell (j := 2) rfl
    have q3 := hq.cell (j := 3) rfl
    have q4 := hq.cell (j := 4) rfl
    have q5 := hq.cell (j := 5) rfl
    have q6 := hq.cell (j := 6) rfl
    have q7 := hq.cell (j := 7) rfl
    unfold St.val at HAP
    have hlt6 := HP.out.box.lt
    clear hq hby hgx hbx
    go_wp2_with fail
    rw [← hwy]
    rw [← hwx]
    clear hwx hwy hsy hlt6 q0 q1 q2 q3 q4 q5 q6 q7 x0 x1 x2 x3 x4 x5 x6 x7 x8 x9 x10 x11 x12 x13 x14
    refine HAP.out.mono ?_
    rintro e w4 ⟨⟨y4, rfl, hst4⟩, hb4⟩
    have hap := apply_one sk r
    obtain ⟨q, hq⟩ : ∃ q, applyL sk [r] = q := ⟨_, rfl⟩
    rw [hq] at hap hst4 ⊢
    clear hq HAP
    obtain ⟨s4, e4⟩ := q
    simp only at hst4
    have HP4 := Lib.hid (HP.out.later (HBX.out.trans (hb4.mono HBX.out.size)))
    have HQ4 := Lib.hid hap
    have HS4 := Lib.hid hst4
    have HXS : Hid (wr.heap.size ≤ wx.heap.size ∧ wx.heap.size ≤ w4.heap.size ∧ b6 < wr.heap.size) := Lib.hid ⟨HBX.out.size, hb4.size, HP.out.box.lt⟩
    clear hap hst4 hb4
    obtain ⟨w5, hw5⟩ : ∃ v, v = w4.alloc (.cells #[.int .i64 s4.node, .int .i64 s4.nodes, .int .i64 s4.cells, .int .i64 s4.epoch, .slice y4.P s4.places.length y4.p, .slice y4.Q s4.prep.length y4.q, .slice y4.D s4.dec.length y4.d, .slice y4.C s4.com.length y4.c] 32) := ⟨_, rfl⟩
    have hb5 : Below w4.heap.size w4 w5 := by rw [hw5]; exact below_alloc _ _
    have HC5 : Hid (Cells w5 w4.heap.size 32 [.int .i64 s4.node, .int .i64 s4.nodes, .int .i64 s4.cells, .int .i64 s4.epoch, .slice y4.P s4.places.length y4.p, .slice y4.Q s4.prep.length y4.q, .slice y4.D s4.dec.length y4.d, .slice y4.C s4.com.length y4.c]) := Lib.hid (by rw [hw5]; exact cells_new _ _ _ _ rfl)
    have HP5 := Lib.hid (HP4.out.later hb5)
    have HS5 : Hid (∀ w', Only (fun k => k < wx.heap.size) w5 w' → Sees w' s4 y4) := Lib.hid fun w' h' => HS4.out w' ((Only.of_below hb5).trans h' fun _ _ e => e)
    clear hb5
    by_cases he4 : e4 = 0
    ·subst he4
     have hgo : goOn sk r = s4 := by
      unfold goOn
      have h := HQ4.out
      by_cases hz : (fFollow sk r).2 = 0
      ·rw [if_pos hz] at h ⊢
       exact (Prod.mk.inj h).1.symm
      ·rw [if_neg hz] at h
       exact absurd (Prod.mk.inj h).2.symm hz
     have HN2 := Lib.hid (HNX.out.trans hgo)
     clear hgo
     go_upto_region 9 with (fail)
     rw [← hw5]
     clear hw5
     apply wp_region_lit
     refine wpList_load_cells rfl 32 _ rfl w4.heap.size #[.int .i64 s4.node, .int .i64 s4.nodes, .int .i64 s4.cells, .int .i64 s4.epoch, .slice y4.P s4.places.length y4.p, .slice y4.Q s4.prep.length y4.q, .slice y4.D s4.dec.length y4.d, .slice y4.C s4.com.length y4.c] rfl rfl HC5.out Tryz.underlying32 rfl (by kernel_rfl) ?_
     refine wpList_store_cells rfl 32 _ _ rfl b6 #[.int .i64 s4.node, .int .i64 s4.nodes, .int .i64 s4.cells, .int .i64 s4.epoch, .slice y4.P s4.places.length y4.p, .slice y4.Q s4.prep.length y4.q, .slice y4.D s4.dec.length y4.d, .slice y4.C s4.com.length y4.c] [.int .i64 s4.node, .int .i64 s4.nodes, .int .i64 s4.cells, .int .i64 s4.epoch, .slice y4.P s4.places.length y4.p, .slice y4.Q s4.prep.length y4.q, .slice y4.D s4.dec.length y4.d, .slice y4.C s4.com.length y4.c] rfl rfl rfl HP5.out.box rfl (by kernel_rfl) (by simp [Value.oneCell']) fun w6 hpt hov => ?_
     have HST6 : Hid (∃ y9, ReSt w w6 (reachL s0 (l.take (k + 1))) b6 y9) := Lib.hid (by
      have h1 := HXS.out
      have h2 := HLT.out
      refine ⟨y4, fun w9 h9 => ?_, by rw [HN2.out]; exact hpt, cells_only HP5.out.res hov (by omega), HP5.out.low.trans (hov.below HP5.out.low.size fun j e => by rw [e]; omega)⟩
      rw [HN2.out]
      exact HS5.out w9 ((hov.mono fun j _ e => by omega).trans h9 fun j _ e => by omega))
     clear hpt hov
     go_wp2_with fail
     go_roundw
     case rel => exact ⟨k + 1, by omega, by go_num, HST6⟩
     case measure => simp [intOf]; omega
    ·have hgo : goOn sk r = sk := by
      unfold goOn
      have h := HQ4.out
      by_cases hz : (fFollow sk r).2 = 0
      ·rw [if_pos hz] at h
       exact absurd (Prod.mk.inj h).2 he4
      ·rw [if_neg hz]
     have HN2 : Hid (∃ y9, ReSt w w5 (reachL s0 (l.take (k + 1))) b6 y9) := Lib.hid ⟨yk, by rw [HNX.out, hgo]; exact HP5.out⟩
     clear hgo
     have hnz : (e4 == 0) = false := by simpa using he4
     go_wp2_with fail
     rw [← hw5]
     go_roundw
     case rel => exact ⟨k + 1, by omega, by go_num, HN2⟩
     case measure => simp [intOf]; omega
   ·have hP : ReSt w wr (reachL s0 l) b6 yk := by
     rw [List.take_of_length_le (by have := HN.out; omega)] at hA
     exact hA
    obtain ⟨sk, hsk⟩ : ∃ s, reachL s0 l = s := ⟨_, rfl⟩
    rw [hsk] at hP HMX
    have HP := Lib.hid hP
    clear hP hA HA hsk hszk
    go_upto_region 11 with (fail)
    apply wp_region_lit
    refine wpList_load_cells rfl 32 _ rfl b6 #[.int .i64 sk.node, .int .i64 sk.nodes, .int .i64 sk.cells, .int .i64 sk.epoch, .slice yk.P sk.places.length yk.p, .slice yk.Q sk.prep.length yk.q, .slice yk.D sk.dec.length yk.d, .slice yk.C sk.com.length yk.c] rfl rfl HP.out.box Tryz.underlying32 rfl (by kernel_rfl) ?_
    refine wpList_store_cells rfl 32 _ _ rfl (w.heap.size + 1) #[.int .i64 sk.node, .int .i64 sk.nodes, .int .i64 sk.cells, .int .i64 sk.epoch, .slice yk.P sk.places.length yk.p, .slice yk.Q sk.prep.length yk.q, .slice yk.D sk.dec.length yk.d, .slice yk.C sk.com.length yk.c] [.int .i64 sk.node, .int .i64 sk.nodes, .int .i64 sk.cells, .int .i64 sk.epoch, .slice yk.P sk.places.length yk.p, .slice yk.Q sk.prep.length yk.q, .slice yk.D sk.dec.length yk.d, .slice yk.C sk.com.length yk.c] rfl rfl rfl HP.out.res rfl (by kernel_rfl) (by simp [Value.oneCell']) fun w5 hpt hov => ?_
    have HPT := Lib.hid hpt
    have HOV := Lib.hid hov
    clear hpt hov
    go_wp2_with fail
    refine bodyPost_ret (v := .tuple #[.agg #[.int .i64 sk.node, .int .i64 sk.nodes, .int .i64 sk.cells, .int .i64 sk.epoch, .slice yk.P sk.places.length yk.p, .slice yk.Q sk.prep.length yk.q, .slice yk.D sk.dec.length yk.d, .slice yk.C sk.com.length yk.c], .bool true]) ((ret_cell_tmp (p := 4) (q := 5) (ty := 32) (by rfl) _ HPT.out _ (by rfl) Tryz.underlying32 rfl (by kernel_rfl)).trans (by rfl)) rfl ?_
    rw [HMX.out]
    refine ⟨⟨yk, rfl, fun w6 h6 => HP.out.sees w6 ((HOV.out.mono fun j _ e => Or.inl (by omega)).trans h6 fun j _ e => Or.inl (by omega))⟩, HP.out.low.trans (HOV.out.below HP.out.low.size fun j e => by rw [e]; exact Nat.le_succ _)⟩
 ·have HMX : Hid (M = (s0, false)) := Lib.hid (by rw [HM.out, if_neg he])
  have hnz : (e0 != 0) = true := by simpa using he
  go_upto_region 3 with (fail)
  rw [← hw3]
  clear hw3
  clear hb6
  apply wp_region_lit
  refine wpList_load_cells rfl 32 _ rfl b6 #[.int .i64 s0.node, .int .i64 s0.nodes, .int .i64 s0.cells, .int .i64 s0.epoch, .slice y0.P s0.places.length y0.p, .slice y0.Q s0.prep.length y0.q, .slice y0.D s0.dec.length y0.d, .slice y0.C s0.com.length y0.c] rfl rfl HST.out.box Tryz.underlying32 rfl (by kernel_rfl) ?_
  refine wpList_store_cells rfl 32 _ _ rfl (w.heap.size + 1) #[.int .i64 s0.node, .int .i64 s0.nodes, .int .i64 s0.cells, .int .i64 s0.epoch, .slice y0.P s0.places.length y0.p, .slice y0.Q s0.prep.length y0.q, .slice y0.D s0.dec.length y0.d, .slice y0.C s0.com.length y0.c] [.int .i64 s0.node, .int .i64 s0.nodes, .int .i64 s0.cells, .int .i64 s0.epoch, .slice y0.P s0.places.length y0.p, .slice y0.Q s0.prep.length y0.q, .slice y0.D s0.dec.length y0.d, .slice y0.C s0.com.length y0.c] rfl rfl rfl HST.out.res rfl (by kernel_rfl) (by simp [Value.oneCell']) fun w5 hpt hov => ?_
  have HPT := Lib.hid hpt
  have HOV := Lib.hid hov
  clear hpt hov
  go_wp2_with fail
  refine bodyPost_ret (v := .tuple #[.agg #[.int .i64 s0.node, .int .i64 s0.nodes, .int .i64 s0.cells, .int .i64 s0.epoch, .slice y0.P s0.places.length y0.p, .slice y0.Q s0.prep.length y0.q, .slice y0.D s0.dec.length y0.d, .slice y0.C s0.com.length y0.c], .bool false]) ((ret_cell_tmp (p := 4) (q := 5) (ty := 32) (by rfl) _ HPT.out _ (by rfl) Tryz.underlying32 rfl (by kernel_rfl)).trans (by rfl)) rfl ?_
  rw [HMX.out]
  refine ⟨⟨y0, rfl, fun w6 h6 => HST.out.sees w6 ((HOV.out.mono fun j _ e => Or.inl (by omega)).trans h6 fun j _ e => Or.inl (by omega))⟩, HST.out.low.trans (HOV.out.below HST.out.low.size fun j e => by rw [e]; exact Nat.le_succ _)⟩
end Go.Proofs.YtalhbblmnahcdaaGreat.Led
namespace Go.Proofs.YtalhbblmnahcdaaGreat.Led
set_option maxRecDepth 100000
open Go.RowKit Go.Deep Go.Proofs.YtalhbblmnahcdaaGreat.Mem Go.Proofs.YtalhbblmnahcdaaGreat.Item Go.Proofs.YtalhbblmnahcdaaGreat.Rec
def aw0 : St := ⟨1, 2, 2, 0, [⟨1, 0, 0, 0, 0⟩, pl0], [], [], []⟩
def awT : Tid := ⟨1, 1, 1⟩
def awI : It := ⟨0, 0, 0, true, 7⟩
def awR1 : Rc := ⟨4, awT, [awI], [1], 0, 0, 0, 0, 0, 0, 0, 0, false⟩
def awR2 : Rc := ⟨6, awT, [], [], 0, 0, 0, 0, 0, 0, 0, 0, true⟩
def aw1 : St := ⟨1, 2, 2, 0, [⟨1, 0, 0, 1, 7⟩, pl0], [], [⟨awT, true⟩], []⟩
theorem aw_first : firstL 1 2 2 = (aw0, 0) := by decide
theorem aw_apply : applyL aw0 [awR1, awR2] = (aw1, 0) := by decide
theorem aw_owns : owns aw0 0 = true ∧ owns aw0 1 = false := by decide
/-- Where awake stands behind its calls. -/
structure AwSt (w wr : World) (b1 b4 : Nat) (y0 y4 : Sy) : Prop where
 low : Below w.heap.size w wr
 c1 : Cells wr b1 32 [.int .i64 1, .int .i64 2, .int .i64 2, .int .i64 0, .slice y0.P 2 y0.p, .slice y0.Q 0 y0.q, .slice y0.D 0 y0.d, .slice y0.C 0 y0.c]
 c4 : Cells wr b4 32 [.int .i64 1, .int .i64 2, .int .i64 2, .int .i64 0, .slice y4.P 2 y4.p, .slice y4.Q 0 y4.q, .slice y4.D 1 y4.d, .slice y4.C 0 y4.c]
 s1 : Sees wr aw0 y0
 s4 : Sees wr aw1 y4
theorem AwSt.later {w wr w' : World} {b1 b4 : Nat} {y0 y4 : Sy} (h : AwSt w wr b1 b4 y0 y4) (hb : Below wr.heap.size wr w') : AwSt w w' b1 b4 y0 y4 := ⟨h.low.trans (hb.mono h.low.size), h.c1.later hb, h.c4.later hb, h.s1.later hb, h.s4.later hb⟩
set_option maxHeartbeats 2000000 in
theorem awake_any (w : World) : Calls Tryz.prog 6 #[] w fun e w' => e = .returned (.bool true) ∧ Below w.heap.size w w' := by
 have HFI := Lib.hid (First_any 1 2 2 w)
 go_enter Tryz.func6, Tryz.ntmps6
 go_wp2_with fail
 refine HFI.out.mono ?_
 rintro e w2 ⟨⟨y0, rfl, hst⟩, hb2⟩
 rw [aw_first] at hst ⊢
 have HST := Lib.hid hst
 have HB2 := Lib.hid hb2
 clear HFI hst hb2
 unfold St.val
 simp only [aw0, List.length_cons, List.length_nil]
 obtain ⟨w3, hw3⟩ : ∃ v, v = w2.alloc (.cells #[.int .i64 1, .int .i64 2, .int .i64 2, .int .i64 0, .slice y0.P 2 y0.p, .slice y0.Q 0 y0.q, .slice y0.D 0 y0.d, .slice y0.C 0 y0.c] 32) := ⟨_, rfl⟩
 obtain ⟨w4, hw4⟩ : ∃ v, v = w3.alloc (.cells #[.int .i64 1, .int .i64 1, .int .i64 1] 47) := ⟨_, rfl⟩
 obtain ⟨w5, hw5⟩ : ∃ v, v = w4.alloc (.cells #[.int .i64 0, .int .i64 0, .int .i64 0, .bool true, .int .i64 7] 72) := ⟨_, rfl⟩
 obtain ⟨w6, hw6⟩ : ∃ v, v = w5.alloc (.cells #[.int .i64 1] 3) := ⟨_, rfl⟩
 obtain ⟨w7, hw7⟩ : ∃ v, v = w6.alloc (.cells #[.int .i64 4, .int .i64 1, .int .i64 1, .int .i64 1, .slice (some ⟨w2.heap.size + 1 + 1, 0, none⟩) 1 1, .slice (some ⟨w2.heap.size + 1 + 1 + 1, 0, none⟩) 1 1, .int .i64 0, .int .i64 0, .int .i64 0, .int .i64 0, .int .i64 0, .int .i64 0, .int .i64 0, .int .i64 0, .bool false,
  .int .i64 6, .int .i64 1, .int .i64 1, .int .i64 1, .slice none 0 0, .slice none 0 0, .int .i64 0, .int .i64 0, .int .i64 0, .int .i64 0, .int .i64 0, .int .i64 0, .int .i64 0, .int .i64 0, .bool true] 51) := ⟨_, rfl⟩
 have hs3 : w3.heap.size = w2.heap.size + 1 := by rw [hw3, World.size_alloc]
 have hs4 : w4.heap.size = w2.heap.size + 1 + 1 := by rw [hw4, World.size_alloc, hs3]
 have hs5 : w5.heap.size = w2.heap.size + 1 + 1 + 1 := by rw [hw5, World.size_alloc, hs4]
 have hs6 : w6.heap.size = w2.heap.size + 1 + 1 + 1 + 1 := by rw [hw6, World.size_alloc, hs5]
 have b23 : Below w2.heap.size w2 w3 := by rw [hw3]; exact below_alloc _ _
 have b34 : Below w3.heap.size w3 w4 := by rw [hw4]; exact below_alloc _ _
 have b45 : Below w4.heap.size w4 w5 := by rw [hw5]; exact below_alloc _ _
 have b56 : Below w5.heap.size w5 w6 := by rw [hw6]; exact below_alloc _ _
 have b67 : Below w6.heap.size w6 w7 := by rw [hw7]; exact below_alloc _ _
 have b57 : Below w5.heap.size w5 w7 := b56.trans (b67.mono b56.size)
 have b47 : Below w4.heap.size w4 w7 := b45.trans (b57.mono b45.size)
 have b37 : Below w3.heap.size w3 w7 := b34.trans (b47.mono b34.size)
 have b27 : Below w2.heap.size w2 w7 := b23.trans (b37.mono b23.size)
 have hc1 : Cells w7 w2.heap.size 32 [.int .i64 1, .int .i64 2, .int .i64 2, .int .i64 0, .slice y0.P 2 y0.p, .slice y0.Q 0 y0.q, .slice y0.D 0 y0.d, .slice y0.C 0 y0.c] := Cells.later (by rw [hw3]; exact cells_new _ _ _ _ rfl) b37
 have hci : Cells w7 (w2.heap.size + 1 + 1) 72 [.int .i64 0, .int .i64 0, .int .i64 0, .bool true, .int .i64 7] := by
  rw [← hs4]
  exact Cells.later (by rw [hw5]; exact cells_new _ _ _ _ rfl) b57
 have hcn : Cells w7 (w2.heap.size + 1 + 1 + 1) 3 [.int .i64 1] := by
  rw [← hs5]
  exact Cells.later (by rw [hw6]; exact cells_new _ _ _ _ rfl) b67
 have hcr : Cells w7 (w2.heap.size + 1 + 1 + 1 + 1) 51 (List.zipWith Rc.vals [awR1, awR2] [⟨some ⟨w2.heap.size + 1 + 1, 0, none⟩, 1, some ⟨w2.heap.size + 1 + 1 + 1, 0, none⟩, 1⟩, lay0]).flatten := by
  rw [← hs6]
  rw [hw7]
  exact cells_new _ _ _ _ rfl
 have HAP := Lib.hid (Apply_any aw0 y0 [awR1, awR2] [⟨some ⟨w2.heap.size + 1 + 1, 0, none⟩, 1, some ⟨w2.heap.size + 1 + 1 + 1, 0, none⟩, 1⟩, lay0] (some ⟨w2.heap.size + 1 + 1 + 1 + 1, 0, none⟩) 2 0 w7 (HST.out.sees.later b27)
  ⟨by decide, by decide, by decide, by decide, fun p hp => (by cases hp), fun p hp => (by cases hp)⟩
  ⟨cells_sl hcr (fun v hv => by
   simp only [List.zipWith_cons_cons, List.zipWith_nil_left, List.mem_cons, List.not_mem_nil, or_false] at hv
   rcases hv with rfl | rfl <;> rfl), rfl, fun k h1 h2 => by
   have : k = 0 ∨ k = 1 := by simp at h1; omega
   rcases this with rfl | rfl
   ·exact ⟨sl_items (cells_sl (by exact hci) (by simp [It.vals])), sl_nums (cells_sl (by exact hcn) (by simp)), fun e => (by cases e), fun e => (by cases e)⟩
   ·exact ⟨items_nil _ _, nums_nil _ _, fun _ => rfl, fun _ => rfl⟩⟩
  (by decide) (by decide))
 have HB7 : Hid (Below w.heap.size w w7) := Lib.hid (HB2.out.trans (b27.mono HB2.out.size))
 have HC1 := Lib.hid hc1
 have HS1 : Hid (Sees w7 aw0 y0) := Lib.hid (HST.out.sees.later b27)
 have HLT : Hid (w2.heap.size < w7.heap.size) := Lib.hid hc1.lt
 clear hs3 hs4 hs5 hs6 b23 b34 b45 b56 b67 b57 b47 b37 b27 hc1 hci hcn hcr
 unfold St.val at HAP
 simp only [aw0, List.length_cons, List.length_nil] at HAP
 go_wp2_with fail
 rw [← hw3]
 rw [← hw4]
 rw [← hw5]
 rw [← hw6]
 rw [← hw7]
 clear hw3 hw4 hw5 hw6 hw7
 refine HAP.out.mono ?_
 rintro e w8 ⟨⟨y4, rfl, hst4⟩, hb8⟩
 rw [show applyL ⟨1, 2, 2, 0, [⟨1, 0, 0, 0, 0⟩, pl0], [], [], []⟩ [awR1, awR2] = (aw1, 0) from aw_apply] at hst4 ⊢
 simp only [aw1, List.length_cons, List.length_nil]
 obtain ⟨b1, hb1⟩ : ∃ b, w2.heap.size = b := ⟨_, rfl⟩
 rw [hb1] at HC1 HLT
 obtain ⟨w9, hw9⟩ : ∃ v, v = w8.alloc (.cells #[.int .i64 1, .int .i64 2, .int .i64 2, .int .i64 0, .slice y4.P 2 y4.p, .slice y4.Q 0 y4.q, .slice y4.D 1 y4.d, .slice y4.C 0 y4.c] 32) := ⟨_, rfl⟩
 have hb9 : Below w8.heap.size w8 w9 := by rw [hw9]; exact below_alloc _ _
 have hc8 := HC1.out.later hb8
 have q4 := hc8.cell (j := 4) rfl
 have q0 := hc8.cell (j := 0) rfl
 have q1 := hc8.cell (j := 1) rfl
 have q2 := hc8.cell (j := 2) rfl
 have q3 := hc8.cell (j := 3) rfl
 have q5 := hc8.cell (j := 5) rfl
 have q6 := hc8.cell (j := 6) rfl
 have q7 := hc8.cell (j := 7) rfl
 have hlt := hc8.lt
 have HA : Hid (AwSt w w9 b1 w8.heap.size y0 y4) := Lib.hid ⟨HB7.out.trans ((hb8.trans (hb9.mono hb8.size)).mono HB7.out.size), hc8.later hb9, by rw [hw9]; exact cells_new _ _ _ _ rfl, (HS1.out.later hb8).later hb9, hst4.sees.later hb9⟩
 clear HC1 HS1 HLT HAP hb8 hb9 hc8 hst4 HST HB2 HB7
 rw [hb1]
 clear hb1
 go_wp2_with fail
 rw [← hw9]
 clear hw9 hlt q0 q1 q2 q3 q4 q5 q6 q7
 have HO := Lib.hid (Owns_any aw0 y0 0 w9 HA.out.s1)
 rw [aw_owns.1] at HO
 unfold St.val at HO
 simp only [aw0, List.length_cons, List.length_nil] at HO
 refine HO.out.mono ?_
 rintro e wa ⟨rfl, hba⟩
 have HA2 := Lib.hid (HA.out.later hba)
 clear HA HO hba
 have HO := Lib.hid (Owns_any aw0 y0 1 wa HA2.out.s1)
 rw [aw_owns.2] at HO
 unfold St.val at HO
 simp only [aw0, List.length_cons, List.length_nil] at HO
 have q0 := HA2.out.c1.cell (j := 0) rfl
 have q1 := HA2.out.c1.cell (j := 1) rfl
 have q2 := HA2.out.c1.cell (j := 2) rfl
 have q3 := HA2.out.c1.cell (j := 3) rfl
 have q4 := HA2.out.c1.cell (j := 4) rfl
 have q5 := HA2.out.c1.cell (j := 5) rfl
 have q6 := HA2.out.c1.cell (j := 6) rfl
 have q7 := HA2.out.c1.cell (j := 7) rfl
 go_wp2_with fail
 clear q0 q1 q2 q3 q4 q5 q6 q7
 refine HO.out.mono ?_
 rintro e wc ⟨rfl, hbc⟩
 have HA3 := Lib.hid (HA2.out.later hbc)
 clear HA2 HO hbc
 have q4 := HA3.out.c1.cell (j := 4) rfl
 have u4 := HA3.out.c4.cell (j := 4) rfl
 obtain ⟨pb, po, hP, _, _, _, x3, x4⟩ := place_cells HA3.out.s4.places (show 0 < 2 by decide)
 obtain ⟨qb, qo, hQ, _, _, _, z3, _⟩ := place_cells HA3.out.s1.places (show 0 < 2 by decide)
 rw [hP] at u4
 rw [hQ] at q4
 have hx3 : wc.cell? ⟨pb, po + 0 * 5 + 3, none⟩ = some (.int .i64 1) := x3
 have hx4 : wc.cell? ⟨pb, po + 0 * 5 + 4, none⟩ = some (.int .i64 7) := x4
 have hz3 : wc.cell? ⟨qb, qo + 0 * 5 + 3, none⟩ = some (.int .i64 0) := z3
 simp only [Nat.zero_mul, Nat.add_zero] at hx3 hx4 hz3
 clear x3 x4 z3 hP hQ
 go_wp2_with fail
 go_returns
 exact ⟨rfl, HA3.out.low⟩
end Go.Proofs.YtalhbblmnahcdaaGreat.Led
namespace Go.Proofs.YtalhbblmnahcdaaGreat.Led
set_option maxRecDepth 100000
open Go.RowKit Go.Deep Go.Proofs.YtalhbblmnahcdaaGreat.Mem Go.Proofs.YtalhbblmnahcdaaGreat.Item Go.Proofs.YtalhbblmnahcdaaGreat.Rec
theorem cellsBegin : Tryz.prog.cellsOf 23 = 3 := by kernel_rfl
/-- A first state's numbers that came in. -/
theorem open_begin {H : Type} {enc : TypeId × Value → H} {W : World} {base : Nat} {v : Value} {d : DataW H} {p : List MemPlace}
  (hv : Value.okWide Tryz.prog W .any base 23 v) (h : DataW.Trod enc Tryz.prog W 0 (fun _ => true) true 23 v d p) : ∃ a b c : Int, v = .agg #[.int .i64 a, .int .i64 b, .int .i64 c] ∧ I64 a ∧ I64 b ∧ I64 c := by
 obtain ⟨c0, c1, c2, y0, y1, y2, m, rfl, _, _, h0, h1, h2⟩ := Go.Joins.open_agg3 Tryz.underlying23 (by kernel_rfl) cellsBegin hv h
 obtain ⟨x0, q0, _, w0⟩ := DataW.trod_int Tryz.underlying3 h0
 obtain ⟨x1, q1, _, w1⟩ := DataW.trod_int Tryz.underlying3 h1
 obtain ⟨x2, q2, _, w2⟩ := DataW.trod_int Tryz.underlying3 h2
 simp at q0 q1 q2
 subst q0; subst q1; subst q2
 exact ⟨x0, x1, x2, rfl, i64_wf w0, i64_wf w1, i64_wf w2⟩
/-- How large the state behind records is. -/
theorem reachM_size (b1 b2 b3 : Int) {l : List Rc} (hs : ∀ r ∈ l, r.items.length ≤ 1000 ∧ r.nodes.length ≤ 1000) (h : (reachM b1 b2 b3 l).2 = true) : Sz l.length (reachM b1 b2 b3 l).1 := by
 unfold reachM at h ⊢
 split
 ·have := Sz.reach (Sz.first b1 b2 b3) hs l.length (Nat.le_refl _)
  rw [List.take_length] at this
  exact this
 ·rename_i e
  rw [if_neg e] at h
  cases h
theorem lowc {w w' : World} {p : Addr} {v : Value} (hb : Below w.heap.size w w') (h : w.cell? p = some v) : w'.cell? p = some v := (hb.cell (block_of_cell h)).trans h
end Go.Proofs.YtalhbblmnahcdaaGreat.Led
