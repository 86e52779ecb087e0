/-
  Layer 7: the document's answer sets a number of a record. Conditions: none.
-/
import Derived.Test.YtdmekfeggdodnaaRecDec
namespace Go.Proofs.Ytdmekfeggdodnaa.Rec
set_option maxRecDepth 100000
open Go.RowKit Go.Proofs.Ytdmekfeggdodnaa.Mem Go.Proofs.Ytdmekfeggdodnaa.Item

set_option maxHeartbeats 2000000 in
theorem refSet0 (r : Rc) (y : Lay) (n : Int) (w : World) : Calls Try.prog 52 #[r.val y, .int .i64 1, .int .i64 n] w fun e w' => e = .returned (({ r with node := n } : Rc).val y) ∧ Below w.heap.size w w' := by
  obtain ⟨k, ⟨t1, t2, t3⟩, its, nds, a0, a1, a2, a3, a4, a5, a6, a7, yes⟩ := r
  obtain ⟨A, c, B, d⟩ := y
  obtain ⟨L, hL⟩ : ∃ L, its.length = L := ⟨_, rfl⟩
  obtain ⟨M, hM⟩ : ∃ M, nds.length = M := ⟨_, rfl⟩
  unfold Rc.val
  simp only [hL, hM]
  clear hL hM
  go_enter Try.func52, Try.ntmps52
  go_wp2
  go_returns
  exact ⟨rfl, by go_grown⟩
set_option maxHeartbeats 2000000 in
theorem refSet1 (r : Rc) (y : Lay) (n : Int) (w : World) : Calls Try.prog 52 #[r.val y, .int .i64 2, .int .i64 n] w fun e w' => e = .returned (({ r with count := n } : Rc).val y) ∧ Below w.heap.size w w' := by
  obtain ⟨k, ⟨t1, t2, t3⟩, its, nds, a0, a1, a2, a3, a4, a5, a6, a7, yes⟩ := r
  obtain ⟨A, c, B, d⟩ := y
  obtain ⟨L, hL⟩ : ∃ L, its.length = L := ⟨_, rfl⟩
  obtain ⟨M, hM⟩ : ∃ M, nds.length = M := ⟨_, rfl⟩
  unfold Rc.val
  simp only [hL, hM]
  clear hL hM
  go_enter Try.func52, Try.ntmps52
  go_wp2
  go_returns
  exact ⟨rfl, by go_grown⟩
set_option maxHeartbeats 2000000 in
theorem refSet2 (r : Rc) (y : Lay) (n : Int) (w : World) : Calls Try.prog 52 #[r.val y, .int .i64 3, .int .i64 n] w fun e w' => e = .returned (({ r with num := n } : Rc).val y) ∧ Below w.heap.size w w' := by
  obtain ⟨k, ⟨t1, t2, t3⟩, its, nds, a0, a1, a2, a3, a4, a5, a6, a7, yes⟩ := r
  obtain ⟨A, c, B, d⟩ := y
  obtain ⟨L, hL⟩ : ∃ L, its.length = L := ⟨_, rfl⟩
  obtain ⟨M, hM⟩ : ∃ M, nds.length = M := ⟨_, rfl⟩
  unfold Rc.val
  simp only [hL, hM]
  clear hL hM
  go_enter Try.func52, Try.ntmps52
  go_wp2
  go_returns
  exact ⟨rfl, by go_grown⟩
set_option maxHeartbeats 2000000 in
theorem refSet3 (r : Rc) (y : Lay) (n : Int) (w : World) : Calls Try.prog 52 #[r.val y, .int .i64 4, .int .i64 n] w fun e w' => e = .returned (({ r with cell := n } : Rc).val y) ∧ Below w.heap.size w w' := by
  obtain ⟨k, ⟨t1, t2, t3⟩, its, nds, a0, a1, a2, a3, a4, a5, a6, a7, yes⟩ := r
  obtain ⟨A, c, B, d⟩ := y
  obtain ⟨L, hL⟩ : ∃ L, its.length = L := ⟨_, rfl⟩
  obtain ⟨M, hM⟩ : ∃ M, nds.length = M := ⟨_, rfl⟩
  unfold Rc.val
  simp only [hL, hM]
  clear hL hM
  go_enter Try.func52, Try.ntmps52
  go_wp2
  go_returns
  exact ⟨rfl, by go_grown⟩
set_option maxHeartbeats 2000000 in
theorem refSet4 (r : Rc) (y : Lay) (n : Int) (w : World) : Calls Try.prog 52 #[r.val y, .int .i64 5, .int .i64 n] w fun e w' => e = .returned (({ r with status := n } : Rc).val y) ∧ Below w.heap.size w w' := by
  obtain ⟨k, ⟨t1, t2, t3⟩, its, nds, a0, a1, a2, a3, a4, a5, a6, a7, yes⟩ := r
  obtain ⟨A, c, B, d⟩ := y
  obtain ⟨L, hL⟩ : ∃ L, its.length = L := ⟨_, rfl⟩
  obtain ⟨M, hM⟩ : ∃ M, nds.length = M := ⟨_, rfl⟩
  unfold Rc.val
  simp only [hL, hM]
  clear hL hM
  go_enter Try.func52, Try.ntmps52
  go_wp2
  go_returns
  exact ⟨rfl, by go_grown⟩
set_option maxHeartbeats 2000000 in
theorem refSet5 (r : Rc) (y : Lay) (n : Int) (w : World) : Calls Try.prog 52 #[r.val y, .int .i64 6, .int .i64 n] w fun e w' => e = .returned (({ r with hop := n } : Rc).val y) ∧ Below w.heap.size w w' := by
  obtain ⟨k, ⟨t1, t2, t3⟩, its, nds, a0, a1, a2, a3, a4, a5, a6, a7, yes⟩ := r
  obtain ⟨A, c, B, d⟩ := y
  obtain ⟨L, hL⟩ : ∃ L, its.length = L := ⟨_, rfl⟩
  obtain ⟨M, hM⟩ : ∃ M, nds.length = M := ⟨_, rfl⟩
  unfold Rc.val
  simp only [hL, hM]
  clear hL hM
  go_enter Try.func52, Try.ntmps52
  go_wp2
  go_returns
  exact ⟨rfl, by go_grown⟩
set_option maxHeartbeats 2000000 in
theorem refSet6 (r : Rc) (y : Lay) (n : Int) (w : World) : Calls Try.prog 52 #[r.val y, .int .i64 7, .int .i64 n] w fun e w' => e = .returned (({ r with version := n } : Rc).val y) ∧ Below w.heap.size w w' := by
  obtain ⟨k, ⟨t1, t2, t3⟩, its, nds, a0, a1, a2, a3, a4, a5, a6, a7, yes⟩ := r
  obtain ⟨A, c, B, d⟩ := y
  obtain ⟨L, hL⟩ : ∃ L, its.length = L := ⟨_, rfl⟩
  obtain ⟨M, hM⟩ : ∃ M, nds.length = M := ⟨_, rfl⟩
  unfold Rc.val
  simp only [hL, hM]
  clear hL hM
  go_enter Try.func52, Try.ntmps52
  go_wp2
  go_returns
  exact ⟨rfl, by go_grown⟩
set_option maxHeartbeats 2000000 in
theorem refSet7 (r : Rc) (y : Lay) (n : Int) (w : World) : Calls Try.prog 52 #[r.val y, .int .i64 8, .int .i64 n] w fun e w' => e = .returned (({ r with value := n } : Rc).val y) ∧ Below w.heap.size w w' := by
  obtain ⟨k, ⟨t1, t2, t3⟩, its, nds, a0, a1, a2, a3, a4, a5, a6, a7, yes⟩ := r
  obtain ⟨A, c, B, d⟩ := y
  obtain ⟨L, hL⟩ : ∃ L, its.length = L := ⟨_, rfl⟩
  obtain ⟨M, hM⟩ : ∃ M, nds.length = M := ⟨_, rfl⟩
  unfold Rc.val
  simp only [hL, hM]
  clear hL hM
  go_enter Try.func52, Try.ntmps52
  go_wp2
  go_returns
  exact ⟨rfl, by go_grown⟩
theorem refSet_any (r : Rc) (y : Lay) (f : Nat) (n : Int) (w : World) (hf : f < 8) :
    Calls Try.prog 52 #[r.val y, .int .i64 ((f + 1 : Nat) : Int), .int .i64 n] w fun e w' => e = .returned ((setN r f n).val y) ∧ Below w.heap.size w w' := by
  rcases lt8 hf with rfl | rfl | rfl | rfl | rfl | rfl | rfl | rfl
  · exact refSet0 r y n w
  · exact refSet1 r y n w
  · exact refSet2 r y n w
  · exact refSet3 r y n w
  · exact refSet4 r y n w
  · exact refSet5 r y n w
  · exact refSet6 r y n w
  · exact refSet7 r y n w
end Go.Proofs.Ytdmekfeggdodnaa.Rec
