/-
  Layer 10: a record's fields are put. Conditions: none.
-/
import Derived.Test.YtfnkjdkckpdfhaaMsgRight2
import Derived.Test.YtfnkjdkckpdfhaaItemPut2
namespace Go.Proofs.Ytfnkjdkckpdfhaa.Msg
set_option maxRecDepth 100000
open Go.RowKit Go.Proofs.Ytfnkjdkckpdfhaa.Mem Go.Proofs.Ytfnkjdkckpdfhaa.Item Go.Proofs.Ytfnkjdkckpdfhaa.Wire

theorem Items.only {S : Nat → Prop} {w w' : World} {A : Option Addr} {l : List It} (h : Items w A l) (ho : Only S w w') (hn : 0 < l.length → ∀ b off, A = some ⟨b, off, none⟩ → ¬ S b) : Items w' A l := by
  intro k hk
  obtain ⟨b, off, e, hi⟩ := h k hk
  exact ⟨b, off, e, hi.only ho (hn (by omega) b off e)⟩
theorem Nums.only {S : Nat → Prop} {w w' : World} {A : Option Addr} {l : List Int} (h : Nums w A l) (ho : Only S w w') (hn : 0 < l.length → ∀ b off, A = some ⟨b, off, none⟩ → ¬ S b) : Nums w' A l := by
  intro k hk
  obtain ⟨b, off, e, hc⟩ := h k hk
  exact ⟨b, off, e, (World.cell?_of_block (w := w) (w' := w') (a := ⟨b, off + k, none⟩) (ho.block b (block_of_cell hc) (hn (by omega) b off e))).trans hc⟩
theorem Items.low {w : World} {A : Option Addr} {l : List It} (h : Items w A l) (h0 : 0 < l.length) : ∀ b off, A = some ⟨b, off, none⟩ → b < w.heap.size := by
  intro b off e
  obtain ⟨b', off', e', hi⟩ := h 0 h0
  rw [e] at e'
  obtain rfl : b = b' := by simpa using congrArg (fun a : Option Addr => a.map (·.block)) e'
  exact hi.lt
theorem Off.turn {w w' : World} {A : Option Addr} {g : Nat} {r r' : Option Nat} (h : Off A g r) (ht : Turn w w' g r r') (hl : ∀ b off, A = some ⟨b, off, none⟩ → b < w.heap.size) : Off A g r' := by
  intro b off e
  refine ⟨(h b off e).1, fun h2 => ?_⟩
  rcases ht.2 b h2 with h3 | h3
  · exact (h b off e).2 h3.symm
  · have := hl b off e
    omega
theorem Off.out {A : Option Addr} {g : Nat} {r : Option Nat} (h : Off A g r) : ∀ b off, A = some ⟨b, off, none⟩ → ¬ (b = g ∨ some b = r) := by
  rintro b off e (h1 | h1)
  · exact (h b off e).1 h1
  · exact (h b off e).2 h1.symm

/-- A field's bytes. -/
def fieldB (r : Rc) (f : Nat) : List UInt8 :=
  if f = 6 then tidB r.tid else if f = 7 then itemsB r.items else if f = 8 then nodesB r.nodes else if f = 9 then [if r.yes then 1 else 0] else nums [r.get f]
def bodyB (r : Rc) (l : List Int) : List UInt8 := l.flatMap fun x => fieldB r x.toNat
theorem fieldB_length (r : Rc) (f : Nat) (h1 : r.items.length ≤ 100) (h2 : r.nodes.length ≤ 100) : (fieldB r f).length ≤ 4000 := by
  unfold fieldB
  split
  · rw [tidB_length]; decide
  split
  · unfold itemsB
    rw [List.length_append, big_length, flat_length]
    omega
  split
  · unfold nodesB
    rw [List.length_append, big_length, nums_length]
    omega
  split
  · simp
  · rw [nums_length]; simp
theorem body_length (r : Rc) (l : List Int) (h1 : r.items.length ≤ 100) (h2 : r.nodes.length ≤ 100) : (bodyB r l).length ≤ 4000 * l.length := by
  induction l with
  | nil => simp [bodyB]
  | cons x l ih =>
    have := fieldB_length r x.toNat h1 h2
    unfold bodyB at ih ⊢
    rw [List.flatMap_cons, List.length_append, List.length_cons]
    omega
theorem body_take (r : Rc) (l : List Int) (k f : Nat) (h : k < l.length) (e : l[k] = (f : Int)) (pre : List UInt8) : pre ++ bodyB r (l.take k) ++ fieldB r f = pre ++ bodyB r (l.take (k + 1)) := by
  unfold bodyB
  rw [List.take_succ_eq_append_getElem h, List.flatMap_append, e]
  simp
def mPutB (g s : Nat) (yes : Bool) : Nat → Value → World → Prop
  | 0, v, _ => v = .pointer (some ⟨g, 0, none⟩)
  | 1, v, _ => v = .pointer (some ⟨g, 0, none⟩)
  | 2, v, _ => v = .pointer (some ⟨g, 0, none⟩)
  | 3, v, _ => v = .pointer (some ⟨s, 12, none⟩)
  | 4, v, _ => v = .bool yes
  | 5, v, _ => v = .tuple #[]
  | _, _, _ => True
theorem mPutB_later {g s : Nat} {yes : Bool} {j : Nat} {v : Value} {w w' : World} (_hb : Below w.heap.size w w') (h : mPutB g s yes j v w) : mPutB g s yes j v w' := by
  match j, h with
  | 0, h | 1, h | 2, h | 3, h | 4, h | 5, h => exact h
  | _ + 6, _ => exact trivial
theorem mPutB_keep {g s : Nat} {yes : Bool} {j : Nat} {v : Value} {w w' : World}  (h : mPutB g s yes j v w) : mPutB g s yes j v w' := by
  match j, h with
  | 0, h | 1, h | 2, h | 3, h | 4, h | 5, h => exact h
  | _ + 6, _ => exact trivial
def mPutN (g n f : Nat) (x : Int) (k0 : Nat) : Nat → Value → World → Prop
  | 0, v, _ => v = .pointer (some ⟨g, 0, none⟩)
  | 1, v, _ => v = .pointer (some ⟨g, 0, none⟩)
  | 2, v, _ => v = .pointer (some ⟨g, 0, none⟩)
  | 3, v, _ => v = .int .i64 (f : Int)
  | 4, v, _ => v = .pointer (some ⟨n, f, none⟩)
  | 5, v, _ => v = .int .i64 x
  | 6, v, w => ∃ k, v = .slice (some ⟨k, 0, none⟩) 1 1 ∧ Cells w k 3 ([x].map (Value.int .i64)) ∧ k0 ≤ k
  | 7, v, _ => v = .tuple #[]
  | _, _, _ => True
theorem mPutN_later {g n f : Nat} {x : Int} {k0 : Nat} {j : Nat} {v : Value} {w w' : World} (hb : Below w.heap.size w w') (h : mPutN g n f x k0 j v w) : mPutN g n f x k0 j v w' := by
  match j, h with
  | 0, h | 1, h | 2, h | 3, h | 4, h | 5, h | 7, h => exact h
  | 6, h =>
    obtain ⟨k, h1, h2, h3⟩ := h
    exact ⟨k, h1, h2.later hb, h3⟩
  | _ + 8, _ => exact trivial
theorem mPutN_keep {g n f : Nat} {x : Int} {k0 : Nat} {j : Nat} {v : Value} {w w' : World} (h6 : j ≠ 6) (h : mPutN g n f x k0 j v w) : mPutN g n f x k0 j v w' := by
  match j, h with
  | 0, h | 1, h | 2, h | 3, h | 4, h | 5, h | 7, h => exact h
  | 6, _ => exact absurd rfl h6
  | _ + 8, _ => exact trivial
set_option maxHeartbeats 2000000 in
theorem put_any (r : Rc) (y : Lay) (A0 : Option Addr) (l : List Int) (c0 : Nat) (w : World) (base g : Nat) (rr : Option Nat) (pre : List UInt8) (hw : Wr w base g rr (some pre)) (hp : pre.length ≤ 1000) (h : Has w r y) (h1 : r.items.length ≤ 100) (h2 : r.nodes.length ≤ 100)
    (hoI : 0 < r.items.length → Off y.A g rr) (hoN : 0 < r.nodes.length → Off y.B g rr) (hl : Nums w A0 l) (hoL : 0 < l.length → Off A0 g rr) (hr : ∀ k (h : k < l.length), ∃ f : Nat, f < 10 ∧ l[k] = (f : Int)) (hm : l.length ≤ 6) :
    Calls Try.prog 24 #[.pointer (some ⟨g, 0, none⟩), r.val y, .slice A0 l.length c0] w fun e w' => e = .returned (.tuple #[]) ∧ ∃ r', Wr w' base g r' (some (pre ++ bodyB r l)) ∧ Turn w w' g rr r' := by
  have HN := Lib.hid (fun w' => numbers_any r y w')
  have HW0 := Lib.hid hw
  have HLT0 := Lib.hid hw.lt
  have HI := Lib.hid (fun w' r' (ht : Turn w w' g rr r') => (show Items w' y.A r.items ∧ (0 < r.items.length → Off y.A g r') from ⟨Items.only h.items ht.1 fun h0 => Off.out (hoI h0), fun h0 => Off.turn (hoI h0) ht (Items.low h.items h0)⟩))
  have HM := Lib.hid (fun w' r' (ht : Turn w w' g rr r') => (show Nums w' y.B r.nodes ∧ (0 < r.nodes.length → Off y.B g r') from ⟨Nums.only h.nodes ht.1 fun h0 => Off.out (hoN h0), fun h0 => Off.turn (hoN h0) ht (Nums.low h.nodes h0)⟩))
  have HL := Lib.hid (fun w' r' (ht : Turn w w' g rr r') => Nums.only hl ht.1 fun h0 => Off.out (hoL h0))
  have HRR := Lib.hid hr
  have HBT := Lib.hid (fun k f hk e => body_take r l k f hk e pre)
  have HBL := Lib.hid (fun k => (show (pre ++ bodyB r (l.take k)).length ≤ 30000 by
    have h3 := body_length r (l.take k) h1 h2
    rw [List.length_take] at h3
    rw [List.length_append]
    omega))
  have HB0 : Hid (bodyB r (l.take 0) = []) := Lib.hid rfl
  have HB1 : Hid (bodyB r (l.take l.length) = bodyB r l) := Lib.hid (by rw [List.take_length])
  have HF8 := Lib.hid (show fieldB r 6 = tidB r.tid from rfl)
  have HF9 := Lib.hid (show fieldB r 7 = itemsB r.items from rfl)
  have HF10 := Lib.hid (show fieldB r 8 = nodesB r.nodes from rfl)
  have HF11 := Lib.hid (show fieldB r 9 = [if r.yes then 1 else 0] from rfl)
  have HFN := Lib.hid (fun f (hf : f < 6) => (show fieldB r f = nums [r.get f] by unfold fieldB; rw [if_neg (by omega), if_neg (by omega), if_neg (by omega), if_neg (by omega)]))
  have HGC : Hid (∀ f, f < 6 → (([Value.int .i64 r.cell, .int .i64 r.node, .int .i64 r.num, .int .i64 r.hop, .int .i64 r.version, .int .i64 r.value] : List Value)[f]? = some (.int .i64 (r.get f)))) := Lib.hid (fun f hf => by
    rcases lt6 hf with rfl | rfl | rfl | rfl | rfl | rfl <;> rfl)
  obtain ⟨FB, hFB⟩ : ∃ FB, fieldB r = FB := ⟨_, rfl⟩
  obtain ⟨BB, hBB⟩ : ∃ BB, bodyB r = BB := ⟨_, rfl⟩
  obtain ⟨G, hG⟩ : ∃ G, r.get = G := ⟨_, rfl⟩
  rw [hFB] at HBT HF8 HF9 HF10 HF11
  simp only [hFB, hG] at HFN HGC
  simp only [hBB] at HBT HBL HB0 HB1 ⊢
  clear hFB hBB hG hw h hoI hoN hl hoL hr
  obtain ⟨k, ⟨t1, t2, t3⟩, its, nds, a0, a1, a2, a3, a4, a5, yes⟩ := r
  obtain ⟨A, c, B, d⟩ := y
  simp only at HI HM HF8 HF9 HF10 HF11 h1 h2 HGC
  have HWI := Lib.hid (fun w' r' P (hw : Wr w' base g r' (some P)) (hp : P.length ≤ 900000000) (hi : Items w' A its ∧ (0 < its.length → Off A g r')) => wItems_any w' base g r' (some P) its A c hw hp (by omega) hi.1 hi.2)
  have HWN := Lib.hid (fun w' r' P (hw : Wr w' base g r' (some P)) (hp : P.length ≤ 900000000) (hi : Nums w' B nds ∧ (0 < nds.length → Off B g r')) => wNodes_any w' base g r' (some P) nds B d hw hp (by omega) hi.1 hi.2)
  have HWT := Lib.hid (fun w' r' P (hw : Wr w' base g r' (some P)) (hp : P.length ≤ 900000000) => wTid_any ⟨t1, t2, t3⟩ w' base g r' (some P) hw hp)
  generalize hLL : its.length = L at HN HI HWI ⊢
  generalize hMM : nds.length = M at HN HM HWN ⊢
  unfold Rc.val at HN ⊢
  unfold Tid.val at HWT
  simp only [hLL, hMM] at HN ⊢
  clear hLL hMM
  have HB := Lib.hid (below_alloc w (.cells #[.int .i64 k, .int .i64 t1, .int .i64 t2, .int .i64 t3, .slice A L c, .slice B M d, .int .i64 a0, .int .i64 a1, .int .i64 a2, .int .i64 a3, .int .i64 a4, .int .i64 a5, .bool yes] 27))
  have HC := Lib.hid (cells_new w 27 _ #[.int .i64 k, .int .i64 t1, .int .i64 t2, .int .i64 t3, .slice A L c, .slice B M d, .int .i64 a0, .int .i64 a1, .int .i64 a2, .int .i64 a3, .int .i64 a4, .int .i64 a5, .bool yes] rfl)
  go_enter Try.func24, Try.ntmps24
  go_wp2_with fail
  refine (HN.out _).mono ?_
  rintro e w1 ⟨rfl, hb1⟩
  have HBW1 := Lib.hid (HB.out.trans (hb1.mono HB.out.size))
  have HC1 := Lib.hid (HC.out.later hb1)
  obtain ⟨w3, hw3⟩ : ∃ w3, w3 = w1.alloc (.cells #[.int .i64 a0, .int .i64 a1, .int .i64 a2, .int .i64 a3, .int .i64 a4, .int .i64 a5] 85) := ⟨_, rfl⟩
  have hb3 := below_alloc w1 (.cells #[.int .i64 a0, .int .i64 a1, .int .i64 a2, .int .i64 a3, .int .i64 a4, .int .i64 a5] 85)
  have hcn := cells_new w1 85 _ #[.int .i64 a0, .int .i64 a1, .int .i64 a2, .int .i64 a3, .int .i64 a4, .int .i64 a5] rfl
  rw [← hw3] at hb3 hcn
  have HC3 := Lib.hid (HC1.out.later hb3)
  have HN3 := Lib.hid hcn
  have HBW3 := Lib.hid (HBW1.out.trans (hb3.mono HBW1.out.size))
  have HSZ1 := Lib.hid (show w.heap.size < w1.heap.size from HC1.out.lt)
  clear hb1 hb3 hcn
  go_wp2_with fail
  rw [← hw3]
  clear hw3
  go_loopw [8, 13] (fun _ i wr => ∃ k r', k ≤ l.length ∧ i = .int .i64 (k : Int) ∧ Wr wr base g r' (some (pre ++ BB (l.take k))) ∧ Turn w3 wr g rr r') (fun _ i _ => l.length - (intOf i).toNat)
  case atStart =>
    refine ⟨0, rr, by omega, rfl, ?_, Turn.refl _ _ _⟩
    rw [HB0.out, List.append_nil]
    exact HW0.out.later HBW3.out
  case round =>
    obtain ⟨k, r', hk, rfl, hwr, htr⟩ := hrel
    have HW := Lib.hid hwr
    have HT3 := Lib.hid htr
    have HT := Lib.hid (Turn.before HBW3.out htr)
    have hlt3 := HLT0.out
    have hcs : Cells wr w.heap.size 27 _ := cells_only HC3.out htr.1 (by
      rintro (e | e)
      · omega
      · have := hlt3.2 _ e.symm; omega)
    have hcn : Cells wr w1.heap.size 85 _ := cells_only HN3.out htr.1 (by
      have := HSZ1.out
      rintro (e | e)
      · omega
      · have := hlt3.2 _ e.symm; omega)
    have HCS := Lib.hid hcs
    have HCN := Lib.hid hcn
    have HLT := Lib.hid hwr.lt
    have hbl := HBL.out k
    clear hwr htr hlt3 hcs hcn
    by_cases hlt : k < l.length
    · obtain ⟨f, hf, hlf⟩ := HRR.out k hlt
      have HAP := Lib.hid (HBT.out k f hlt hlf)
      obtain ⟨bl, off, rfl, hcl⟩ := HL.out wr r' HT.out k hlt
      rw [hlf] at hcl
      obtain ⟨P, hP⟩ : ∃ P, pre ++ BB (l.take k) = P := ⟨_, rfl⟩
      rw [hP] at HAP HW hbl
      have HBL2 := Lib.hid hbl
      clear hP hlf hbl
      by_cases e8 : f = 6
      · subst e8
        rw [HF8.out] at HAP
        have hc := HCS.out
        have q0 := hc.cell (j := 0) rfl
        have q1 := hc.cell (j := 1) rfl
        have q2 := hc.cell (j := 2) rfl
        have q3 := hc.cell (j := 3) rfl
        have q4 := hc.cell (j := 4) rfl
        have q5 := hc.cell (j := 5) rfl
        have q6 := hc.cell (j := 6) rfl
        have q7 := hc.cell (j := 7) rfl
        have q8 := hc.cell (j := 8) rfl
        have q9 := hc.cell (j := 9) rfl
        have q10 := hc.cell (j := 10) rfl
        have q11 := hc.cell (j := 11) rfl
        have q12 := hc.cell (j := 12) rfl
        clear hc
        go_wp2_with fail
        refine (HWT.out wr r' P HW.out (by have := HBL2.out; omega)).mono ?_
        rintro e wa ⟨rfl, r2, hwa, hta⟩
        replace hwa : Wr wa base g r2 (some (P ++ tidB ⟨t1, t2, t3⟩)) := hwa
        rw [HAP.out] at hwa
        have HWA := Lib.hid hwa
        have HTA := Lib.hid (HT3.out.trans hta)
        clear hwa hta q0 q1 q2 q3 q4 q5 q6 q7 q8 q9 q10 q11 q12 hcl
        go_wp2_with fail
        go_roundw
        case rel => exact ⟨k + 1, r2, by omega, by go_num, HWA.out, HTA.out⟩
        case measure => simp [intOf]; omega
      by_cases e9 : f = 7
      · subst e9
        rw [HF9.out] at HAP
        have hc := HCS.out
        have q0 := hc.cell (j := 0) rfl
        have q1 := hc.cell (j := 1) rfl
        have q2 := hc.cell (j := 2) rfl
        have q3 := hc.cell (j := 3) rfl
        have q4 := hc.cell (j := 4) rfl
        have q5 := hc.cell (j := 5) rfl
        have q6 := hc.cell (j := 6) rfl
        have q7 := hc.cell (j := 7) rfl
        have q8 := hc.cell (j := 8) rfl
        have q9 := hc.cell (j := 9) rfl
        have q10 := hc.cell (j := 10) rfl
        have q11 := hc.cell (j := 11) rfl
        have q12 := hc.cell (j := 12) rfl
        clear hc e8
        go_wp2_with fail
        refine (HWI.out wr r' P HW.out (by have := HBL2.out; omega) (HI.out wr r' HT.out)).mono ?_
        rintro e wa ⟨rfl, r2, hwa, hta⟩
        replace hwa : Wr wa base g r2 (some (P ++ itemsB its)) := hwa
        rw [HAP.out] at hwa
        have HWA := Lib.hid hwa
        have HTA := Lib.hid (HT3.out.trans hta)
        clear hwa hta q0 q1 q2 q3 q4 q5 q6 q7 q8 q9 q10 q11 q12 hcl
        go_wp2_with fail
        go_roundw
        case rel => exact ⟨k + 1, r2, by omega, by go_num, HWA.out, HTA.out⟩
        case measure => simp [intOf]; omega
      by_cases e10 : f = 8
      · subst e10
        rw [HF10.out] at HAP
        have hc := HCS.out
        have q0 := hc.cell (j := 0) rfl
        have q1 := hc.cell (j := 1) rfl
        have q2 := hc.cell (j := 2) rfl
        have q3 := hc.cell (j := 3) rfl
        have q4 := hc.cell (j := 4) rfl
        have q5 := hc.cell (j := 5) rfl
        have q6 := hc.cell (j := 6) rfl
        have q7 := hc.cell (j := 7) rfl
        have q8 := hc.cell (j := 8) rfl
        have q9 := hc.cell (j := 9) rfl
        have q10 := hc.cell (j := 10) rfl
        have q11 := hc.cell (j := 11) rfl
        have q12 := hc.cell (j := 12) rfl
        clear hc e8 e9
        go_wp2_with fail
        refine (HWN.out wr r' P HW.out (by have := HBL2.out; omega) (HM.out wr r' HT.out)).mono ?_
        rintro e wa ⟨rfl, r2, hwa, hta⟩
        replace hwa : Wr wa base g r2 (some (P ++ nodesB nds)) := hwa
        rw [HAP.out] at hwa
        have HWA := Lib.hid hwa
        have HTA := Lib.hid (HT3.out.trans hta)
        clear hwa hta q0 q1 q2 q3 q4 q5 q6 q7 q8 q9 q10 q11 q12 hcl
        go_wp2_with fail
        go_roundw
        case rel => exact ⟨k + 1, r2, by omega, by go_num, HWA.out, HTA.out⟩
        case measure => simp [intOf]; omega
      by_cases e11 : f = 9
      · subst e11
        rw [HF11.out] at HAP
        have HQ : Hid (∀ wi, Below wr.heap.size wr wi → wi.cell? ⟨w.heap.size, 12, none⟩ = some (.bool yes)) := Lib.hid (fun wi hb => (HCS.out.later hb).cell (j := 12) rfl)
        have HSZ : Hid ((((some P).getD []).length) ≤ 1000000000) := Lib.hid (by have := HBL2.out; show P.length ≤ _; omega)
        clear e8 e9 e10
        go_wp2_with fail
        refine Reg.region_heavy (by kernel_rfl) 5 [] (mPutB g w.heap.size yes) (fun a => Below wr.heap.size wr a) (fun a' => ∃ r2, Wr a' base g r2 (some (P ++ [if yes then 1 else 0])) ∧ Turn wr a' g r' r2) (fun V => [(some 46, V 0), (some 47, V 1), (some 48, V 2), (some 49, V 3), (some 50, V 4), (some 51, V 5)]) (by kernel_rfl) (by kernel_rfl) (by kernel_rfl) (fun V => rfl) ?_ ?_ ?_
        · exact (Below.refl _ _).drew
        · intro i o ho
          have hi : i < 6 := (Array.getElem?_eq_some_iff.1 ho).1
          rcases i with _ | _ | _ | _ | _ | _ | i
          · obtain rfl := Option.some.inj ho
            intro ρ wi hE hI hs hd
            try dsimp only at hI
            have e0 : ρ (.tmp 0) = .pointer (some ⟨g, 0, none⟩) := hs 0 (by kernel_rfl)
            exact Reg.Gives.value (v := .pointer (some ⟨g, 0, none⟩)) (w' := wi) (by go_simp) (Reg.OwedH.same hI rfl)
          · obtain rfl := Option.some.inj ho
            intro ρ wi hE hI hs hd
            try dsimp only at hI
            obtain ⟨u46, g46, e46⟩ := hd 0 46 (by kernel_rfl) (by kernel_rfl) (by show _ < 53; decide)
            obtain rfl : u46 = .pointer (some ⟨g, 0, none⟩) := g46
            exact Reg.Gives.value (v := .pointer (some ⟨g, 0, none⟩)) (w' := wi) (by go_simp) (Reg.OwedH.same hI rfl)
          · obtain rfl := Option.some.inj ho
            intro ρ wi hE hI hs hd
            try dsimp only at hI
            obtain ⟨u47, g47, e47⟩ := hd 1 47 (by kernel_rfl) (by kernel_rfl) (by show _ < 53; decide)
            obtain rfl : u47 = .pointer (some ⟨g, 0, none⟩) := g47
            exact Reg.Gives.value (v := .pointer (some ⟨g, 0, none⟩)) (w' := wi) (by go_simp) (Reg.OwedH.same hI rfl)
          · obtain rfl := Option.some.inj ho
            intro ρ wi hE hI hs hd
            try dsimp only at hI
            have e4 : ρ (.tmp 4) = .pointer (some ⟨w.heap.size, 0, none⟩) := hs 4 (by kernel_rfl)
            exact Reg.Gives.value (v := .pointer (some ⟨w.heap.size, 12, none⟩)) (w' := wi) (by go_simp) (Reg.OwedH.same hI rfl)
          · obtain rfl := Option.some.inj ho
            intro ρ wi hE hI hs hd
            try dsimp only at hI
            obtain ⟨u49, g49, e49⟩ := hd 3 49 (by kernel_rfl) (by kernel_rfl) (by show _ < 53; decide)
            obtain rfl : u49 = .pointer (some ⟨w.heap.size, 12, none⟩) := g49
            have hx := HQ.out wi hI
            exact Reg.Gives.value (v := .bool yes) (w' := wi) (by go_simp) (Reg.OwedH.same hI rfl)
          · obtain rfl := Option.some.inj ho
            intro ρ wi hE hI hs hd
            try dsimp only at hI
            obtain ⟨u48, g48, e48⟩ := hd 2 48 (by kernel_rfl) (by kernel_rfl) (by show _ < 53; decide)
            obtain rfl : u48 = .pointer (some ⟨g, 0, none⟩) := g48
            obtain ⟨u50, g50, e50⟩ := hd 4 50 (by kernel_rfl) (by kernel_rfl) (by show _ < 53; decide)
            obtain rfl : u50 = .bool yes := g50
            have hf := hE.func
            refine Reg.Gives.call (f := 45) (args := #[.pointer (some ⟨g, 0, none⟩), .bool yes]) (w' := wi) (by go_simp) ?_
            refine (bool_any wi base g r' (some P) yes (HW.out.later hI) HSZ.out).mono ?_
            rintro e w'' ⟨rfl, r2, hw', ht'⟩
            exact ⟨_, rfl, ⟨rfl, ⟨r2, hw', Turn.before hI ht'⟩, fun j u _ _ h => mPutB_keep h⟩⟩
          · omega
        · intro V wa hV hI
          simp only [Reg.putsO, List.foldl_cons, List.foldl_nil, Act.put, List.setIfInBounds_toArray, List.set_cons_succ, List.set_cons_zero]
          replace hI : (fun a' => ∃ r2, Wr a' base g r2 (some (P ++ [if yes then 1 else 0])) ∧ Turn wr a' g r' r2) wa := hI
          clear hV
          obtain ⟨r2, hwa, hta⟩ := hI
          rw [HAP.out] at hwa
          have HWA := Lib.hid hwa
          have HTA := Lib.hid (HT3.out.trans hta)
          clear hwa hta hcl
          go_wp2_with fail
          go_roundw
          case rel => exact ⟨k + 1, r2, by omega, by go_num, HWA.out, HTA.out⟩
          case measure => simp [intOf]; omega
      have hf8 : f < 6 := by omega
      have n8 : ¬ (f : Int) = 6 := by omega
      have n9 : ¬ (f : Int) = 7 := by omega
      have n10 : ¬ (f : Int) = 8 := by omega
      have n11 : ¬ (f : Int) = 9 := by omega
      clear e8 e9 e10 e11
      rw [HFN.out f hf8] at HAP
      obtain ⟨x, hx⟩ : ∃ x, G f = x := ⟨_, rfl⟩
      have hgc := HGC.out f hf8
      rw [hx] at HAP hgc
      clear hx
      have HQ : Hid (∀ wi, Below wr.heap.size wr wi → wi.cell? ⟨w1.heap.size, f, none⟩ = some (.int .i64 x)) := Lib.hid (fun wi hb => (HCN.out.later hb).cell (j := f) hgc)
      have HSZ : Hid ((((some P).getD []).length) ≤ 1000000000 - 8 * [x].length) := Lib.hid (by have := HBL2.out; show P.length ≤ _; simp; omega)
      have HF8 := Lib.hid hf8
      clear hgc
      go_wp2_with fail
      refine Reg.region_heavy (by kernel_rfl) 7 [] (mPutN g w1.heap.size f x wr.heap.size) (fun a => Below wr.heap.size wr a) (fun a' => ∃ r2, Wr a' base g r2 (some (P ++ nums [x])) ∧ Turn wr a' g r' r2) (fun V => [(some 18, V 0), (some 19, V 1), (some 20, V 2), (some 21, V 3), (some 22, V 4), (some 23, V 5), (some 24, V 6), (some 25, V 7)]) (by kernel_rfl) (by kernel_rfl) (by kernel_rfl) (fun V => rfl) ?_ ?_ ?_
      · exact (Below.refl _ _).drew
      · intro i o ho
        have hi : i < 8 := (Array.getElem?_eq_some_iff.1 ho).1
        rcases i with _ | _ | _ | _ | _ | _ | _ | _ | i
        · obtain rfl := Option.some.inj ho
          intro ρ wi hE hI hs hd
          try dsimp only at hI
          have e0 : ρ (.tmp 0) = .pointer (some ⟨g, 0, none⟩) := hs 0 (by kernel_rfl)
          exact Reg.Gives.value (v := .pointer (some ⟨g, 0, none⟩)) (w' := wi) (by go_simp) (Reg.OwedH.same hI rfl)
        · obtain rfl := Option.some.inj ho
          intro ρ wi hE hI hs hd
          try dsimp only at hI
          obtain ⟨u18, g18, e18⟩ := hd 0 18 (by kernel_rfl) (by kernel_rfl) (by show _ < 53; decide)
          obtain rfl : u18 = .pointer (some ⟨g, 0, none⟩) := g18
          exact Reg.Gives.value (v := .pointer (some ⟨g, 0, none⟩)) (w' := wi) (by go_simp) (Reg.OwedH.same hI rfl)
        · obtain rfl := Option.some.inj ho
          intro ρ wi hE hI hs hd
          try dsimp only at hI
          obtain ⟨u19, g19, e19⟩ := hd 1 19 (by kernel_rfl) (by kernel_rfl) (by show _ < 53; decide)
          obtain rfl : u19 = .pointer (some ⟨g, 0, none⟩) := g19
          exact Reg.Gives.value (v := .pointer (some ⟨g, 0, none⟩)) (w' := wi) (by go_simp) (Reg.OwedH.same hI rfl)
        · obtain rfl := Option.some.inj ho
          intro ρ wi hE hI hs hd
          try dsimp only at hI
          have e8 : ρ (.tmp 8) = .int .i64 (f : Int) := hs 8 (by kernel_rfl)
          exact Reg.Gives.value (v := .int .i64 (f : Int)) (w' := wi) (by go_simp) (Reg.OwedH.same hI rfl)
        · obtain rfl := Option.some.inj ho
          intro ρ wi hE hI hs hd
          try dsimp only at hI
          have e6 : ρ (.tmp 6) = .pointer (some ⟨w1.heap.size, 0, none⟩) := hs 6 (by kernel_rfl)
          obtain ⟨u21, g21, e21⟩ := hd 3 21 (by kernel_rfl) (by kernel_rfl) (by show _ < 53; decide)
          obtain rfl : u21 = .int .i64 (f : Int) := g21
          have hx : (f : Int) < 6 := by have := HF8.out; omega
          exact Reg.Gives.value (v := .pointer (some ⟨w1.heap.size, f, none⟩)) (w' := wi) (by go_simp) (Reg.OwedH.same hI rfl)
        · obtain rfl := Option.some.inj ho
          intro ρ wi hE hI hs hd
          try dsimp only at hI
          obtain ⟨u22, g22, e22⟩ := hd 4 22 (by kernel_rfl) (by kernel_rfl) (by show _ < 53; decide)
          obtain rfl : u22 = .pointer (some ⟨w1.heap.size, f, none⟩) := g22
          have hx := HQ.out wi hI
          exact Reg.Gives.value (v := .int .i64 x) (w' := wi) (by go_simp) (Reg.OwedH.same hI rfl)
        · obtain rfl := Option.some.inj ho
          intro ρ wi hE hI hs hd
          try dsimp only at hI
          obtain ⟨u23, g23, e23⟩ := hd 5 23 (by kernel_rfl) (by kernel_rfl) (by show _ < 53; decide)
          obtain rfl : u23 = .int .i64 x := g23
          have hal := below_alloc wi (.cells #[.int .i64 x] 3)
          exact Reg.Gives.value (v := .slice (some ⟨wi.heap.size, 0, none⟩) 1 1) (w' := wi.alloc (.cells #[.int .i64 x] 3)) (by go_simp) ⟨⟨_, rfl, ⟨cells_new wi _ _ _ rfl, hI.size⟩⟩, hI.trans (hal.mono hI.size), fun j u _ _ h => mPutN_later hal h⟩
        · obtain rfl := Option.some.inj ho
          intro ρ wi hE hI hs hd
          try dsimp only at hI
          obtain ⟨u20, g20, e20⟩ := hd 2 20 (by kernel_rfl) (by kernel_rfl) (by show _ < 53; decide)
          obtain rfl : u20 = .pointer (some ⟨g, 0, none⟩) := g20
          obtain ⟨u24, g24, e24⟩ := hd 6 24 (by kernel_rfl) (by kernel_rfl) (by show _ < 53; decide)
          have hf := hE.func
          obtain ⟨k, rfl, hck, hk0⟩ := g24
          refine Reg.Gives.call (f := 46) (args := #[.pointer (some ⟨g, 0, none⟩), .slice (some ⟨k, 0, none⟩) 1 1]) (w' := wi) (by go_simp) ?_
          have hlt := HLT.out
          refine (nums_any wi base g r' (some P) [x] k 1 (HW.out.later hI) HSZ.out (by simp) (fun j hj => by have h := cells_nums hck j hj; rw [Nat.zero_add] at h; exact h) (by omega) (fun e => by have := hlt.2 k e; omega)).mono ?_
          rintro e w'' ⟨rfl, r2, hw', ht'⟩
          exact ⟨_, rfl, ⟨rfl, ⟨r2, hw', Turn.before hI ht'⟩, fun j u _ hal h => mPutN_keep (fun e => by subst e; rw [show Reg.alive _ _ 7 6 = false by kernel_rfl] at hal; cases hal) h⟩⟩
        · omega
      · intro V wa hV hI
        simp only [Reg.putsO, List.foldl_cons, List.foldl_nil, Act.put, List.setIfInBounds_toArray, List.set_cons_succ, List.set_cons_zero]
        replace hI : (fun a' => ∃ r2, Wr a' base g r2 (some (P ++ nums [x])) ∧ Turn wr a' g r' r2) wa := hI
        clear hV
        obtain ⟨r2, hwa, hta⟩ := hI
        rw [HAP.out] at hwa
        have HWA := Lib.hid hwa
        have HTA := Lib.hid (HT3.out.trans hta)
        clear hwa hta hcl
        go_wp2_with fail
        go_roundw
        case rel => exact ⟨k + 1, r2, by omega, by go_num, HWA.out, HTA.out⟩
        case measure => simp [intOf]; omega
    · obtain rfl : k = l.length := by omega
      rw [HB1.out] at HW
      clear hbl
      go_wp2_with fail
      go_returns
      exact ⟨rfl, r', HW.out, HT.out⟩
end Go.Proofs.Ytfnkjdkckpdfhaa.Msg
