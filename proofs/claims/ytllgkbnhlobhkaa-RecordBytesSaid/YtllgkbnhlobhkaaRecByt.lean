/-
  Layer 7: a record's bytes: the document's answer. Conditions: none.
-/
import Derived.Test.YtllgkbnhlobhkaaRecRefM
import Derived.Test.YtllgkbnhlobhkaaItemRef
namespace Go.Proofs.Ytllgkbnhlobhkaa.Rec
set_option maxRecDepth 100000
open Go.RowKit Go.Proofs.Ytllgkbnhlobhkaa.Mem Go.Proofs.Ytllgkbnhlobhkaa.Item Go.Proofs.Ytllgkbnhlobhkaa.Wire

def numsR (r : Rc) (l : List Int) : List UInt8 := l.flatMap fun x => big (u64 (r.get (x - 1).toNat)) 8
/-- A record's bytes, as the document has them. -/
def refBytes (r : Rc) : List UInt8 := (big r.kind.toNat 1 ++ numsR r (rl r.kind)) ++ (if named r.kind then tidB r.tid else []) ++ (if r.kind = 4 ∨ r.kind = 5 then itemsB r.items ++ nodesB r.nodes else []) ++ (if r.kind = 6 ∨ r.kind = 11 then [if r.yes then 1 else 0] else [])
theorem refBytes_eq (r : Rc) (hk : 1 ≤ r.kind ∧ r.kind ≤ 12) : refBytes r = bytesR r := by
  obtain ⟨k, t, its, nds, a0, a1, a2, a3, a4, a5, a6, a7, yes⟩ := r
  simp only at hk
  have hb : ∀ m : Nat, m < 13 → big m 1 = [UInt8.ofNat m] := by decide
  rcases (show k = 1 ∨ k = 2 ∨ k = 3 ∨ k = 4 ∨ k = 5 ∨ k = 6 ∨ k = 7 ∨ k = 8 ∨ k = 9 ∨ k = 10 ∨ k = 11 ∨ k = 12 by omega) with rfl | rfl | rfl | rfl | rfl | rfl | rfl | rfl | rfl | rfl | rfl | rfl
  all_goals simp [refBytes, bytesR, bodyB, fieldB, numsR, rl, fl, named, nums, Rc.get, Rc.numV, hb]
theorem add_q (q p : List UInt8) (h : q.length + p.length ≤ 1000000) : bs q ++ bs p = bs (q ++ p) ∧ (bs q).size + (bs p).size ≤ 9223372036854775807 := ⟨bs_app q p, by rw [bs_size, bs_size]; omega⟩
theorem numsR_take (r : Rc) (l : List Int) (j : Nat) (h : j < l.length) : numsR r (l.take (j + 1)) = numsR r (l.take j) ++ big (u64 (r.get (l[j] - 1).toNat)) 8 := by
  unfold numsR
  rw [List.take_succ_eq_append_getElem h, List.flatMap_append]
  simp
theorem numsR_length (r : Rc) (l : List Int) : (numsR r l).length = 8 * l.length := by
  unfold numsR
  induction l with
  | nil => rfl
  | cons x l ih => rw [List.flatMap_cons, List.length_append, ih, big_length, List.length_cons]; omega
theorem rl_at (k : Int) : ∀ i (h : i < (rl k).length), ∃ f : Nat, f < 8 ∧ (rl k)[i] = ((f + 1 : Nat) : Int) := by
  have hm : ∀ x ∈ rl k, 1 ≤ x ∧ x ≤ 8 := by
    intro x hx
    unfold rl at hx
    split at hx
    · simp at hx; omega
    split at hx
    · simp at hx; omega
    split at hx
    · simp at hx; omega
    split at hx
    · simp at hx; omega
    split at hx
    · simp at hx; omega
    split at hx
    · simp at hx; omega
    · simp at hx
  intro i h
  have := hm _ (List.getElem_mem h)
  exact ⟨((rl k)[i] - 1).toNat, by omega, by omega⟩
def rByF (va : Value) (q : List UInt8) (bl off n fc jx f : Nat) (x : Int) : Nat → Value → World → Prop
  | 0, v, _ => v = .string (bs q)
  | 1, v, _ => v = va
  | 2, v, _ => v = .slice (some ⟨bl, off, none⟩) n fc
  | 3, v, _ => v = .int .i64 (jx : Int)
  | 4, v, _ => v = .pointer (some ⟨bl, off + jx, none⟩)
  | 5, v, _ => v = .int .i64 (f : Int)
  | 6, v, _ => v = .int .i64 x
  | 7, v, _ => v = .int .u64 ((u64 x : Nat) : Int)
  | 8, v, _ => v = .string (bs (big (u64 x) 8))
  | 9, v, _ => v = .string (bs (q ++ big (u64 x) 8))
  | 10, v, _ => v = .string (bs (q ++ big (u64 x) 8))
  | _, _, _ => True
theorem rByF_later {va : Value} {q : List UInt8} {bl off n fc jx f : Nat} {x : Int} {j : Nat} {v : Value} {w w' : World} (_hb : Below w.heap.size w w') (h : rByF va q bl off n fc jx f x j v w) : rByF va q bl off n fc jx f x j v w' := by
  match j, h with
  | 0, h | 1, h | 2, h | 3, h | 4, h | 5, h | 6, h | 7, h | 8, h | 9, h | 10, h => exact h
  | _ + 11, _ => exact trivial
def rByI (s : Nat) (A B : Option Addr) (L M c d : Nat) (qt IB NB : List UInt8) : Nat → Value → World → Prop
  | 0, v, _ => v = .string (bs qt)
  | 1, v, _ => v = .pointer (some ⟨s, 4, none⟩)
  | 2, v, _ => v = .slice A L c
  | 3, v, _ => v = .string (bs IB)
  | 4, v, _ => v = .string (bs (qt ++ IB))
  | 5, v, _ => v = .pointer (some ⟨s, 5, none⟩)
  | 6, v, _ => v = .slice B M d
  | 7, v, _ => v = .string (bs NB)
  | 8, v, _ => v = .string (bs (qt ++ IB ++ NB))
  | 9, v, _ => v = .string (bs (qt ++ IB ++ NB))
  | _, _, _ => True
theorem rByI_later {s : Nat} {A B : Option Addr} {L M c d : Nat} {qt IB NB : List UInt8} {j : Nat} {v : Value} {w w' : World} (_hb : Below w.heap.size w w') (h : rByI s A B L M c d qt IB NB j v w) : rByI s A B L M c d qt IB NB j v w' := by
  match j, h with
  | 0, h | 1, h | 2, h | 3, h | 4, h | 5, h | 6, h | 7, h | 8, h | 9, h => exact h
  | _ + 10, _ => exact trivial
set_option maxHeartbeats 4000000 in
theorem refBytes_any (r : Rc) (y : Lay) (w : World) (hk : 1 ≤ r.kind ∧ r.kind ≤ 12) (h : Has w r y) (h1 : r.items.length ≤ 100) (h2 : r.nodes.length ≤ 100) :
    Calls Try.prog 20 #[r.val y] w fun e w' => e = .returned (.string (bs (refBytes r))) ∧ Below w.heap.size w w' := by
  have HFL := Lib.hid (fun w' => refFields_any r.kind w' hk)
  have HNM := Lib.hid (fun f (hf : f < 8) w' => number_any r y f w' hf)
  have HNA := Lib.hid (fun w' => refNamed_any r.kind w')
  have HTI := Lib.hid (fun w' => refTid_any r.tid w')
  have HIT0 := Lib.hid (fun w' (hb : Below w.heap.size w w') => refItems_any y.A r.items y.c w' (h.items.later hb) (by omega))
  have HNO0 := Lib.hid (fun w' (hb : Below w.heap.size w w') => refNodes_any y.B r.nodes y.d w' (h.nodes.later hb) (by omega))
  have HTK := Lib.hid (numsR_take r)
  have HAT := Lib.hid (rl_at r.kind)
  have HRL := Lib.hid (rl_len r.kind)
  have HNL := Lib.hid (numsR_length r)
  have HN0 : Hid (numsR r ((rl r.kind).take 0) = []) := Lib.hid rfl
  have HTL := Lib.hid (tidB_length r.tid)
  have HIL := Lib.hid (show (itemsB r.items).length ≤ 4000 by unfold itemsB; rw [List.length_append, big_length, flat_length]; omega)
  have HNDL := Lib.hid (show (nodesB r.nodes).length ≤ 4000 by unfold nodesB; rw [List.length_append, big_length, nums_length]; omega)
  have HZ : Hid (refBytes r = (big r.kind.toNat 1 ++ numsR r ((rl r.kind).take (rl r.kind).length)) ++ (if named r.kind then tidB r.tid else []) ++ (if r.kind = 4 ∨ r.kind = 5 then itemsB r.items ++ nodesB r.nodes else []) ++ (if r.kind = 6 ∨ r.kind = 11 then [if r.yes then 1 else 0] else [])) := Lib.hid (by rw [List.take_length]; rfl)
  have HKN : Hid (named r.kind = decide ((4 ≤ r.kind ∧ r.kind ≤ 7) ∨ r.kind = 11)) := Lib.hid rfl
  clear h
  obtain ⟨Z, hz⟩ : ∃ Z, refBytes r = Z := ⟨_, rfl⟩
  obtain ⟨nm, hnm⟩ : ∃ nm, named r.kind = nm := ⟨_, rfl⟩
  obtain ⟨TB, hTB⟩ : ∃ TB, tidB r.tid = TB := ⟨_, rfl⟩
  obtain ⟨IB, hIB⟩ : ∃ IB, itemsB r.items = IB := ⟨_, rfl⟩
  obtain ⟨NB, hNB⟩ : ∃ NB, nodesB r.nodes = NB := ⟨_, rfl⟩
  obtain ⟨NR, hNR⟩ : ∃ NR, numsR r = NR := ⟨_, rfl⟩
  obtain ⟨G, hG⟩ : ∃ G, r.get = G := ⟨_, rfl⟩
  obtain ⟨FL, hFL⟩ : ∃ FL, rl r.kind = FL := ⟨_, rfl⟩
  rw [hz, hnm, hTB, hIB, hNB, hNR, hFL] at HZ
  rw [hz]
  rw [hnm] at HNA HKN
  rw [hTB] at HTI HTL
  rw [hIB] at HIT0 HIL
  rw [hNB] at HNO0 HNDL
  rw [hFL] at HAT
  simp only [hNR, hG] at HTK
  simp only [hNR, hG, hFL] at HRL HNL HN0 HNM HFL
  have hrl := HRL.out
  clear hz hnm hTB hIB hNB hNR hG hFL
  obtain ⟨k, ⟨t1, t2, t3⟩, its, nds, a0, a1, a2, a3, a4, a5, a6, a7, yes⟩ := r
  obtain ⟨A, c, B, d⟩ := y
  simp only at HFL HNA HTI HIT0 HNO0 HZ HKN hk h1 h2
  obtain ⟨L, hLL⟩ : ∃ L, its.length = L := ⟨_, rfl⟩
  obtain ⟨M, hMM⟩ : ∃ M, nds.length = M := ⟨_, rfl⟩
  unfold Rc.val at HNM ⊢
  unfold Tid.val at HTI
  simp only [hLL, hMM] at HNM HIT0 HNO0 h1 h2 ⊢
  clear hLL hMM
  obtain ⟨kn, rfl⟩ : ∃ kn : Nat, k = (kn : Int) := ⟨k.toNat, by omega⟩
  rw [Int.toNat_natCast] at HZ
  have HKB := Lib.hid (big_length kn 1)
  have HBK := Lib.hid (fun w' => big_any kn 1 w' (by omega) (by omega))
  obtain ⟨KB, hKB⟩ : ∃ KB, big kn 1 = KB := ⟨_, rfl⟩
  rw [hKB] at HKB HBK HZ
  clear hKB
  have HB := Lib.hid (below_alloc w (.cells #[.int .i64 (kn : Int), .int .i64 t1, .int .i64 t2, .int .i64 t3, .slice A L c, .slice B M d, .int .i64 a0, .int .i64 a1, .int .i64 a2, .int .i64 a3, .int .i64 a4, .int .i64 a5, .int .i64 a6, .int .i64 a7, .bool yes] 36))
  have HC := Lib.hid (cells_new w 36 _ #[.int .i64 (kn : Int), .int .i64 t1, .int .i64 t2, .int .i64 t3, .slice A L c, .slice B M d, .int .i64 a0, .int .i64 a1, .int .i64 a2, .int .i64 a3, .int .i64 a4, .int .i64 a5, .int .i64 a6, .int .i64 a7, .bool yes] rfl)
  go_enter Try.func20, Try.ntmps20
  go_wp2_with fail
  refine (HBK.out _).mono ?_
  rintro e w0 ⟨rfl, hb0⟩
  have HB0 := Lib.hid (HB.out.trans (hb0.mono HB.out.size))
  have HC0 := Lib.hid (HC.out.later hb0)
  have hcq := HC0.out
  have q0 := hcq.cell (j := 0) rfl
  have q1 := hcq.cell (j := 1) rfl
  have q2 := hcq.cell (j := 2) rfl
  have q3 := hcq.cell (j := 3) rfl
  have q4 := hcq.cell (j := 4) rfl
  have q5 := hcq.cell (j := 5) rfl
  have q6 := hcq.cell (j := 6) rfl
  have q7 := hcq.cell (j := 7) rfl
  have q8 := hcq.cell (j := 8) rfl
  have q9 := hcq.cell (j := 9) rfl
  have q10 := hcq.cell (j := 10) rfl
  have q11 := hcq.cell (j := 11) rfl
  have q12 := hcq.cell (j := 12) rfl
  have q13 := hcq.cell (j := 13) rfl
  have q14 := hcq.cell (j := 14) rfl
  clear hcq hb0
  go_wp2_with fail
  refine (HFL.out _).mono ?_
  rintro e w1 ⟨FA, fc, rfl, hnu, hb1⟩
  have HB1 := Lib.hid (HB0.out.trans (hb1.mono HB0.out.size))
  have HC1 := Lib.hid (HC0.out.later hb1)
  have HNU := Lib.hid hnu
  clear hnu hb1 q0 q1 q2 q3 q4 q5 q6 q7 q8 q9 q10 q11 q12 q13 q14
  go_wp2_with fail
  go_loopw [3, 5] (fun s i wr => ∃ j : Nat, j ≤ FL.length ∧ i = .int .i64 (j : Int) ∧ s = .string (bs (KB ++ NR (FL.take j))) ∧ Below w1.heap.size w1 wr) (fun _ i _ => FL.length - (intOf i).toNat)
  case atStart => exact ⟨0, by omega, rfl, by rw [HN0.out, List.append_nil]; rfl, Below.refl _ _⟩
  case round =>
    obtain ⟨j, hj, rfl, rfl, hbr⟩ := hrel
    have HBR := Lib.hid hbr
    have HC2 := Lib.hid (HC1.out.later hbr)
    have HQ : Hid (∀ wi, Below wr.heap.size wr wi → Cells wi w.heap.size 36 _) := Lib.hid (fun wi hi => HC2.out.later hi)
    have hql : (KB ++ NR (FL.take j)).length ≤ 100 := by
      rw [List.length_append, HKB.out, HNL.out, List.length_take]
      omega
    by_cases hlt : j < FL.length
    · obtain ⟨f0, hf0, hff⟩ := HAT.out j hlt
      obtain ⟨bl, off, rfl, hcl⟩ := HNU.out j hlt
      have hcl2 := (hbr.cell (block_of_cell hcl)).trans hcl
      have HS := Lib.hid (HTK.out FL j hlt)
      rw [hff] at hcl2 HS
      rw [show (((f0 + 1 : Nat) : Int) - 1).toNat = f0 by omega] at HS
      obtain ⟨q, hq⟩ : ∃ q, KB ++ NR (FL.take j) = q := ⟨_, rfl⟩
      obtain ⟨x, hx⟩ : ∃ x, G f0 = x := ⟨_, rfl⟩
      obtain ⟨f, hf⟩ : ∃ f, f = f0 + 1 := ⟨_, rfl⟩
      have HNJ := Lib.hid (fun w' => HNM.out f0 hf0 w')
      rw [← hf] at hcl2 HNJ
      rw [hx] at HS HNJ
      have HSQ : Hid (q ++ big (u64 x) 8 = KB ++ NR (FL.take (j + 1))) := Lib.hid (by rw [← hq, HS.out, List.append_assoc])
      rw [hq] at hql ⊢
      have HP := Lib.hid (add_q q (big (u64 x) 8) (by rw [big_length]; omega))
      have HFC : Hid (∀ wi, Below wr.heap.size wr wi → wi.cell? ⟨bl, off + j, none⟩ = some (.int .i64 (f : Int))) := Lib.hid (fun wi hi => (hi.cell (block_of_cell hcl2)).trans hcl2)
      have HU : Hid (IntKind.u64.wrap x = ((u64 x : Nat) : Int)) := Lib.hid (by rw [IntKind.wrap_u64, u64_cast])
      have HBG := Lib.hid (fun w' => big_any (u64 x) 8 w' (u64_lt x) (by omega))
      have HJ := Lib.hid hlt
      clear hcl hcl2 hff hf hx hq hql hbr
      go_wp2_with fail
      refine Reg.region_heavy (by kernel_rfl) 10 [10] (rByF (.agg #[.int .i64 (kn : Int), .int .i64 t1, .int .i64 t2, .int .i64 t3, .slice A L c, .slice B M d, .int .i64 a0, .int .i64 a1, .int .i64 a2, .int .i64 a3, .int .i64 a4, .int .i64 a5, .int .i64 a6, .int .i64 a7, .bool yes]) q bl off FL.length fc j f x) (fun a => Below wr.heap.size wr a) (fun a => Below wr.heap.size wr a) (fun V => [(some 20, V 0), (some 21, V 1), (some 22, V 2), (some 23, V 3), (some 24, V 4), (some 25, V 5), (some 26, V 6), (some 27, V 7), (some 28, V 8), (some 29, V 9), (some 3, V 10)]) (by kernel_rfl) (by kernel_rfl) (by kernel_rfl) (fun V => rfl) ?_ ?_ ?_
      · exact (Below.refl _ _).drew
      · intro i o ho
        have hi : i < 11 := (Array.getElem?_eq_some_iff.1 ho).1
        rcases i with _ | _ | _ | _ | _ | _ | _ | _ | _ | _ | _ | i
        · obtain rfl := Option.some.inj ho
          intro ρ wi hE hI hs hd
          replace hI : (fun a => Below wr.heap.size wr a) wi := hI
          have e3 : ρ (.tmp 3) = .string (bs q) := hs 3 (by kernel_rfl)
          exact Reg.Gives.value (v := .string (bs q)) (w' := wi) (by go_simp) (Reg.OwedH.same hI rfl)
        · obtain rfl := Option.some.inj ho
          intro ρ wi hE hI hs hd
          replace hI : (fun a => Below wr.heap.size wr a) wi := hI
          have e1 : ρ (.tmp 1) = .pointer (some ⟨w.heap.size, 0, none⟩) := hs 1 (by kernel_rfl)
          have hcq := HQ.out wi hI
          have q0 := hcq.cell (j := 0) rfl
          have q1 := hcq.cell (j := 1) rfl
          have q2 := hcq.cell (j := 2) rfl
          have q3 := hcq.cell (j := 3) rfl
          have q4 := hcq.cell (j := 4) rfl
          have q5 := hcq.cell (j := 5) rfl
          have q6 := hcq.cell (j := 6) rfl
          have q7 := hcq.cell (j := 7) rfl
          have q8 := hcq.cell (j := 8) rfl
          have q9 := hcq.cell (j := 9) rfl
          have q10 := hcq.cell (j := 10) rfl
          have q11 := hcq.cell (j := 11) rfl
          have q12 := hcq.cell (j := 12) rfl
          have q13 := hcq.cell (j := 13) rfl
          have q14 := hcq.cell (j := 14) rfl
          exact Reg.Gives.value (v := (.agg #[.int .i64 (kn : Int), .int .i64 t1, .int .i64 t2, .int .i64 t3, .slice A L c, .slice B M d, .int .i64 a0, .int .i64 a1, .int .i64 a2, .int .i64 a3, .int .i64 a4, .int .i64 a5, .int .i64 a6, .int .i64 a7, .bool yes])) (w' := wi) (by go_simp) (Reg.OwedH.same hI rfl)
        · obtain rfl := Option.some.inj ho
          intro ρ wi hE hI hs hd
          replace hI : (fun a => Below wr.heap.size wr a) wi := hI
          have e4 : ρ (.tmp 4) = .slice (some ⟨bl, off, none⟩) FL.length fc := hs 4 (by kernel_rfl)
          exact Reg.Gives.value (v := .slice (some ⟨bl, off, none⟩) FL.length fc) (w' := wi) (by go_simp) (Reg.OwedH.same hI rfl)
        · obtain rfl := Option.some.inj ho
          intro ρ wi hE hI hs hd
          replace hI : (fun a => Below wr.heap.size wr a) wi := hI
          have e5 : ρ (.tmp 5) = .int .i64 (j : Int) := hs 5 (by kernel_rfl)
          exact Reg.Gives.value (v := .int .i64 (j : Int)) (w' := wi) (by go_simp) (Reg.OwedH.same hI rfl)
        · obtain rfl := Option.some.inj ho
          intro ρ wi hE hI hs hd
          replace hI : (fun a => Below wr.heap.size wr a) wi := hI
          obtain ⟨u22, g22, e22⟩ := hd 2 22 (by kernel_rfl) (by kernel_rfl) (by show _ < 71; decide)
          obtain rfl : u22 = .slice (some ⟨bl, off, none⟩) FL.length fc := g22
          obtain ⟨u23, g23, e23⟩ := hd 3 23 (by kernel_rfl) (by kernel_rfl) (by show _ < 71; decide)
          obtain rfl : u23 = .int .i64 (j : Int) := g23
          have hx := HJ.out
          exact Reg.Gives.value (v := .pointer (some ⟨bl, off + j, none⟩)) (w' := wi) (by go_simp) (Reg.OwedH.same hI rfl)
        · obtain rfl := Option.some.inj ho
          intro ρ wi hE hI hs hd
          replace hI : (fun a => Below wr.heap.size wr a) wi := hI
          obtain ⟨u24, g24, e24⟩ := hd 4 24 (by kernel_rfl) (by kernel_rfl) (by show _ < 71; decide)
          obtain rfl : u24 = .pointer (some ⟨bl, off + j, none⟩) := g24
          have hx := HFC.out wi hI
          exact Reg.Gives.value (v := .int .i64 (f : Int)) (w' := wi) (by go_simp) (Reg.OwedH.same hI rfl)
        · obtain rfl := Option.some.inj ho
          intro ρ wi hE hI hs hd
          replace hI : (fun a => Below wr.heap.size wr a) wi := hI
          obtain ⟨u21, g21, e21⟩ := hd 1 21 (by kernel_rfl) (by kernel_rfl) (by show _ < 71; decide)
          obtain rfl : u21 = (.agg #[.int .i64 (kn : Int), .int .i64 t1, .int .i64 t2, .int .i64 t3, .slice A L c, .slice B M d, .int .i64 a0, .int .i64 a1, .int .i64 a2, .int .i64 a3, .int .i64 a4, .int .i64 a5, .int .i64 a6, .int .i64 a7, .bool yes]) := g21
          obtain ⟨u25, g25, e25⟩ := hd 5 25 (by kernel_rfl) (by kernel_rfl) (by show _ < 71; decide)
          obtain rfl : u25 = .int .i64 (f : Int) := g25
          have hf := hE.func
          refine Reg.Gives.call (f := 40) (args := #[.agg #[.int .i64 (kn : Int), .int .i64 t1, .int .i64 t2, .int .i64 t3, .slice A L c, .slice B M d, .int .i64 a0, .int .i64 a1, .int .i64 a2, .int .i64 a3, .int .i64 a4, .int .i64 a5, .int .i64 a6, .int .i64 a7, .bool yes], .int .i64 (f : Int)]) (w' := wi) (by go_simp) ?_
          refine (HNJ.out wi).mono ?_
          rintro e w'' ⟨rfl, hbb⟩
          exact ⟨_, rfl, ⟨rfl, hI.trans (hbb.mono hI.size), fun j u _ _ h => rByF_later hbb h⟩⟩
        · obtain rfl := Option.some.inj ho
          intro ρ wi hE hI hs hd
          replace hI : (fun a => Below wr.heap.size wr a) wi := hI
          obtain ⟨u26, g26, e26⟩ := hd 6 26 (by kernel_rfl) (by kernel_rfl) (by show _ < 71; decide)
          obtain rfl : u26 = .int .i64 x := g26
          have hx := HU.out
          exact Reg.Gives.value (v := .int .u64 ((u64 x : Nat) : Int)) (w' := wi) (by go_simp) (Reg.OwedH.same hI rfl)
        · obtain rfl := Option.some.inj ho
          intro ρ wi hE hI hs hd
          replace hI : (fun a => Below wr.heap.size wr a) wi := hI
          obtain ⟨u27, g27, e27⟩ := hd 7 27 (by kernel_rfl) (by kernel_rfl) (by show _ < 71; decide)
          obtain rfl : u27 = .int .u64 ((u64 x : Nat) : Int) := g27
          have hc := hE.const
          have hf := hE.func
          refine Reg.Gives.call (f := 52) (args := #[.int .u64 ((u64 x : Nat) : Int), .int .i64 8]) (w' := wi) (by go_simp) ?_
          refine (HBG.out wi).mono ?_
          rintro e w'' ⟨rfl, hbb⟩
          exact ⟨_, rfl, ⟨rfl, hI.trans (hbb.mono hI.size), fun j u _ _ h => rByF_later hbb h⟩⟩
        · obtain rfl := Option.some.inj ho
          intro ρ wi hE hI hs hd
          replace hI : (fun a => Below wr.heap.size wr a) wi := hI
          obtain ⟨u20, g20, e20⟩ := hd 0 20 (by kernel_rfl) (by kernel_rfl) (by show _ < 71; decide)
          obtain rfl : u20 = .string (bs q) := g20
          obtain ⟨u28, g28, e28⟩ := hd 8 28 (by kernel_rfl) (by kernel_rfl) (by show _ < 71; decide)
          obtain rfl : u28 = .string (bs (big (u64 x) 8)) := g28
          have hap := HP.out.1
          have hl := HP.out.2
          exact Reg.Gives.value (v := .string (bs (q ++ big (u64 x) 8))) (w' := wi) (by go_simp) (Reg.OwedH.same hI rfl)
        · obtain rfl := Option.some.inj ho
          intro ρ wi hE hI hs hd
          replace hI : (fun a => Below wr.heap.size wr a) wi := hI
          obtain ⟨u29, g29, e29⟩ := hd 9 29 (by kernel_rfl) (by kernel_rfl) (by show _ < 71; decide)
          obtain rfl : u29 = .string (bs (q ++ big (u64 x) 8)) := g29
          exact Reg.Gives.value (v := .string (bs (q ++ big (u64 x) 8))) (w' := wi) (by go_simp) (Reg.OwedH.same hI rfl)
        · omega
      · intro V wa hV hI
        have hV10 : V 10 = .string (bs (q ++ big (u64 x) 8)) := hV 10 (by decide) rfl
        simp only [Reg.putsO, List.foldl_cons, List.foldl_nil, Act.put, List.setIfInBounds_toArray, List.set_cons_succ, List.set_cons_zero, hV10]
        replace hI : (fun a => Below wr.heap.size wr a) wa := hI
        clear hV hV10
        rw [HSQ.out]
        have HW := Lib.hid (HBR.out.trans (hI.mono HBR.out.size))
        clear hI
        go_wp2_with fail
        go_roundw
        case rel => exact ⟨j + 1, by omega, by go_num, rfl, HW.out⟩
        case measure => simp [intOf]; omega
    · obtain rfl : j = FL.length := by omega
      have HBW := Lib.hid (HB1.out.trans (hbr.mono HB1.out.size))
      obtain ⟨q, hq⟩ : ∃ q, KB ++ NR (FL.take FL.length) = q := ⟨_, rfl⟩
      rw [hq] at hql HZ ⊢
      have hcq := HC2.out
      have q0 := hcq.cell (j := 0) rfl
      have q1 := hcq.cell (j := 1) rfl
      have q2 := hcq.cell (j := 2) rfl
      have q3 := hcq.cell (j := 3) rfl
      have q4 := hcq.cell (j := 4) rfl
      have q5 := hcq.cell (j := 5) rfl
      have q6 := hcq.cell (j := 6) rfl
      have q7 := hcq.cell (j := 7) rfl
      have q8 := hcq.cell (j := 8) rfl
      have q9 := hcq.cell (j := 9) rfl
      have q10 := hcq.cell (j := 10) rfl
      have q11 := hcq.cell (j := 11) rfl
      have q12 := hcq.cell (j := 12) rfl
      have q13 := hcq.cell (j := 13) rfl
      have q14 := hcq.cell (j := 14) rfl
      clear hq hbr hcq
      go_wp2_with fail
      refine (HNA.out _).mono ?_
      rintro e w4 ⟨rfl, rfl⟩
      have HQL := Lib.hid hql
      cases nm
      · have hkn : ¬ ((4 ≤ (kn : Int) ∧ (kn : Int) ≤ 7) ∨ (kn : Int) = 11) := fun h => by
          have := HKN.out
          rw [decide_eq_true h] at this
          cases this
        have HV : Hid (Z = q) := Lib.hid (by rw [HZ.out, if_neg (by decide), if_neg (by omega), if_neg (by omega)]; simp)
        have k4b : (((kn : Nat) : Int) == 4) = false := beq_false_of_ne (by omega)
        have k5b : (((kn : Nat) : Int) == 5) = false := beq_false_of_ne (by omega)
        have k6b : (((kn : Nat) : Int) == 6) = false := beq_false_of_ne (by omega)
        have k11b : (((kn : Nat) : Int) == 11) = false := beq_false_of_ne (by omega)
        go_wp2_with fail
        go_returns
        exact ⟨by rw [HV.out]; rfl, HBW.out⟩
      · have hkn : (4 ≤ (kn : Int) ∧ (kn : Int) ≤ 7) ∨ (kn : Int) = 11 := of_decide_eq_true HKN.out.symm
        obtain ⟨qt, hqt⟩ : ∃ qt, q ++ TB = qt := ⟨_, rfl⟩
        have HPT := Lib.hid (add_q q TB (by rw [HTL.out]; omega))
        have HQT := Lib.hid hqt
        have HQTL := Lib.hid (show qt.length ≤ 124 by rw [← hqt, List.length_append, HTL.out]; omega)
        rw [hqt] at HPT
        clear hqt
        have hap := HPT.out.1
        have hl := HPT.out.2
        go_wp2_with fail
        refine (HTI.out _).mono ?_
        rintro e wt ⟨rfl, hbt⟩
        have HBT := Lib.hid (HBW.out.trans (hbt.mono HBW.out.size))
        have HCT := Lib.hid (HC2.out.later hbt)
        have hcq := HCT.out
        clear hbt q0 q1 q2 q3 q4 q5 q6 q7 q8 q9 q10 q11 q12 q13 q14
        have q0 := hcq.cell (j := 0) rfl
        have q1 := hcq.cell (j := 1) rfl
        have q2 := hcq.cell (j := 2) rfl
        have q3 := hcq.cell (j := 3) rfl
        have q4 := hcq.cell (j := 4) rfl
        have q5 := hcq.cell (j := 5) rfl
        have q6 := hcq.cell (j := 6) rfl
        have q7 := hcq.cell (j := 7) rfl
        have q8 := hcq.cell (j := 8) rfl
        have q9 := hcq.cell (j := 9) rfl
        have q10 := hcq.cell (j := 10) rfl
        have q11 := hcq.cell (j := 11) rfl
        have q12 := hcq.cell (j := 12) rfl
        have q13 := hcq.cell (j := 13) rfl
        have q14 := hcq.cell (j := 14) rfl
        clear hcq
        by_cases k4 : kn = 4
        · have k4b : (((kn : Nat) : Int) == 4) = true := beq_iff_eq.2 (by omega)
          have k6b : (((kn : Nat) : Int) == 6) = false := beq_false_of_ne (by omega)
          have k11b : (((kn : Nat) : Int) == 11) = false := beq_false_of_ne (by omega)
          have HQ : Hid (∀ wi, Below wt.heap.size wt wi → Cells wi w.heap.size 36 _) := Lib.hid (fun wi hi => HCT.out.later hi)
          have HIT := Lib.hid (fun w' (hb : Below wt.heap.size wt w') => HIT0.out w' (HBT.out.trans (hb.mono HBT.out.size)))
          have HNO := Lib.hid (fun w' (hb : Below wt.heap.size wt w') => HNO0.out w' (HBT.out.trans (hb.mono HBT.out.size)))
          have HP1 := Lib.hid (add_q qt IB (by have := HIL.out; have := HQTL.out; omega))
          have HP2 := Lib.hid (add_q (qt ++ IB) NB (by have := HIL.out; have := HNDL.out; have := HQTL.out; rw [List.length_append]; omega))
          have HV : Hid (Z = qt ++ IB ++ NB) := Lib.hid (by rw [HZ.out, ← HQT.out]; simp [k4])
          clear k4
          go_wp2_with fail
          refine Reg.region_heavy (by kernel_rfl) 9 [9] (rByI w.heap.size A B L M c d qt IB NB) (fun a => Below wt.heap.size wt a) (fun a => Below wt.heap.size wt a) (fun V => [(some 46, V 0), (some 47, V 1), (some 48, V 2), (some 49, V 3), (some 50, V 4), (some 51, V 5), (some 52, V 6), (some 53, V 7), (some 54, V 8), (some 3, V 9)]) (by kernel_rfl) (by kernel_rfl) (by kernel_rfl) (fun V => rfl) ?_ ?_ ?_
          · exact (Below.refl _ _).drew
          · intro i o ho
            have hi : i < 10 := (Array.getElem?_eq_some_iff.1 ho).1
            rcases i with _ | _ | _ | _ | _ | _ | _ | _ | _ | _ | i
            · obtain rfl := Option.some.inj ho
              intro ρ wi hE hI hs hd
              replace hI : (fun a => Below wt.heap.size wt a) wi := hI
              have e3 : ρ (.tmp 3) = .string (bs qt) := hs 3 (by kernel_rfl)
              exact Reg.Gives.value (v := .string (bs qt)) (w' := wi) (by go_simp) (Reg.OwedH.same hI rfl)
            · obtain rfl := Option.some.inj ho
              intro ρ wi hE hI hs hd
              replace hI : (fun a => Below wt.heap.size wt a) wi := hI
              have e1 : ρ (.tmp 1) = .pointer (some ⟨w.heap.size, 0, none⟩) := hs 1 (by kernel_rfl)
              exact Reg.Gives.value (v := .pointer (some ⟨w.heap.size, 4, none⟩)) (w' := wi) (by go_simp) (Reg.OwedH.same hI rfl)
            · obtain rfl := Option.some.inj ho
              intro ρ wi hE hI hs hd
              replace hI : (fun a => Below wt.heap.size wt a) wi := hI
              obtain ⟨u47, g47, e47⟩ := hd 1 47 (by kernel_rfl) (by kernel_rfl) (by show _ < 71; decide)
              obtain rfl : u47 = .pointer (some ⟨w.heap.size, 4, none⟩) := g47
              have hx := (HQ.out wi hI).cell (j := 4) rfl
              exact Reg.Gives.value (v := .slice A L c) (w' := wi) (by go_simp) (Reg.OwedH.same hI rfl)
            · obtain rfl := Option.some.inj ho
              intro ρ wi hE hI hs hd
              replace hI : (fun a => Below wt.heap.size wt a) wi := hI
              obtain ⟨u48, g48, e48⟩ := hd 2 48 (by kernel_rfl) (by kernel_rfl) (by show _ < 71; decide)
              obtain rfl : u48 = .slice A L c := g48
              have hf := hE.func
              refine Reg.Gives.call (f := 54) (args := #[.slice A L c]) (w' := wi) (by go_simp) ?_
              refine (HIT.out wi hI).mono ?_
              rintro e w'' ⟨rfl, hbb⟩
              exact ⟨_, rfl, ⟨rfl, hI.trans (hbb.mono hI.size), fun j u _ _ h => rByI_later hbb h⟩⟩
            · obtain rfl := Option.some.inj ho
              intro ρ wi hE hI hs hd
              replace hI : (fun a => Below wt.heap.size wt a) wi := hI
              obtain ⟨u46, g46, e46⟩ := hd 0 46 (by kernel_rfl) (by kernel_rfl) (by show _ < 71; decide)
              obtain rfl : u46 = .string (bs qt) := g46
              obtain ⟨u49, g49, e49⟩ := hd 3 49 (by kernel_rfl) (by kernel_rfl) (by show _ < 71; decide)
              obtain rfl : u49 = .string (bs IB) := g49
              have hap := HP1.out.1
              have hl := HP1.out.2
              exact Reg.Gives.value (v := .string (bs (qt ++ IB))) (w' := wi) (by go_simp) (Reg.OwedH.same hI rfl)
            · obtain rfl := Option.some.inj ho
              intro ρ wi hE hI hs hd
              replace hI : (fun a => Below wt.heap.size wt a) wi := hI
              have e1 : ρ (.tmp 1) = .pointer (some ⟨w.heap.size, 0, none⟩) := hs 1 (by kernel_rfl)
              exact Reg.Gives.value (v := .pointer (some ⟨w.heap.size, 5, none⟩)) (w' := wi) (by go_simp) (Reg.OwedH.same hI rfl)
            · obtain rfl := Option.some.inj ho
              intro ρ wi hE hI hs hd
              replace hI : (fun a => Below wt.heap.size wt a) wi := hI
              obtain ⟨u51, g51, e51⟩ := hd 5 51 (by kernel_rfl) (by kernel_rfl) (by show _ < 71; decide)
              obtain rfl : u51 = .pointer (some ⟨w.heap.size, 5, none⟩) := g51
              have hx := (HQ.out wi hI).cell (j := 5) rfl
              exact Reg.Gives.value (v := .slice B M d) (w' := wi) (by go_simp) (Reg.OwedH.same hI rfl)
            · obtain rfl := Option.some.inj ho
              intro ρ wi hE hI hs hd
              replace hI : (fun a => Below wt.heap.size wt a) wi := hI
              obtain ⟨u52, g52, e52⟩ := hd 6 52 (by kernel_rfl) (by kernel_rfl) (by show _ < 71; decide)
              obtain rfl : u52 = .slice B M d := g52
              have hf := hE.func
              refine Reg.Gives.call (f := 55) (args := #[.slice B M d]) (w' := wi) (by go_simp) ?_
              refine (HNO.out wi hI).mono ?_
              rintro e w'' ⟨rfl, hbb⟩
              exact ⟨_, rfl, ⟨rfl, hI.trans (hbb.mono hI.size), fun j u _ _ h => rByI_later hbb h⟩⟩
            · obtain rfl := Option.some.inj ho
              intro ρ wi hE hI hs hd
              replace hI : (fun a => Below wt.heap.size wt a) wi := hI
              obtain ⟨u50, g50, e50⟩ := hd 4 50 (by kernel_rfl) (by kernel_rfl) (by show _ < 71; decide)
              obtain rfl : u50 = .string (bs (qt ++ IB)) := g50
              obtain ⟨u53, g53, e53⟩ := hd 7 53 (by kernel_rfl) (by kernel_rfl) (by show _ < 71; decide)
              obtain rfl : u53 = .string (bs NB) := g53
              have hap := HP2.out.1
              have hl := HP2.out.2
              exact Reg.Gives.value (v := .string (bs (qt ++ IB ++ NB))) (w' := wi) (by go_simp) (Reg.OwedH.same hI rfl)
            · obtain rfl := Option.some.inj ho
              intro ρ wi hE hI hs hd
              replace hI : (fun a => Below wt.heap.size wt a) wi := hI
              obtain ⟨u54, g54, e54⟩ := hd 8 54 (by kernel_rfl) (by kernel_rfl) (by show _ < 71; decide)
              obtain rfl : u54 = .string (bs (qt ++ IB ++ NB)) := g54
              exact Reg.Gives.value (v := .string (bs (qt ++ IB ++ NB))) (w' := wi) (by go_simp) (Reg.OwedH.same hI rfl)
            · omega
          · intro V wa hV hI
            have hV9 : V 9 = .string (bs (qt ++ IB ++ NB)) := hV 9 (by decide) rfl
            simp only [Reg.putsO, List.foldl_cons, List.foldl_nil, Act.put, List.setIfInBounds_toArray, List.set_cons_succ, List.set_cons_zero, hV9]
            replace hI : (fun a => Below wt.heap.size wt a) wa := hI
            clear hV hV9
            have HW := Lib.hid (HBT.out.trans (hI.mono HBT.out.size))
            have hcq := HQ.out wa hI
            have q0 := hcq.cell (j := 0) rfl
            clear hI hcq
            go_wp2_with fail
            go_returns
            exact ⟨by rw [HV.out]; rfl, HW.out⟩
        by_cases k5 : kn = 5
        · have k5b : (((kn : Nat) : Int) == 5) = true := beq_iff_eq.2 (by omega)
          have k4b : (((kn : Nat) : Int) == 4) = false := beq_false_of_ne (by omega)
          have k6b : (((kn : Nat) : Int) == 6) = false := beq_false_of_ne (by omega)
          have k11b : (((kn : Nat) : Int) == 11) = false := beq_false_of_ne (by omega)
          have HQ : Hid (∀ wi, Below wt.heap.size wt wi → Cells wi w.heap.size 36 _) := Lib.hid (fun wi hi => HCT.out.later hi)
          have HIT := Lib.hid (fun w' (hb : Below wt.heap.size wt w') => HIT0.out w' (HBT.out.trans (hb.mono HBT.out.size)))
          have HNO := Lib.hid (fun w' (hb : Below wt.heap.size wt w') => HNO0.out w' (HBT.out.trans (hb.mono HBT.out.size)))
          have HP1 := Lib.hid (add_q qt IB (by have := HIL.out; have := HQTL.out; omega))
          have HP2 := Lib.hid (add_q (qt ++ IB) NB (by have := HIL.out; have := HNDL.out; have := HQTL.out; rw [List.length_append]; omega))
          have HV : Hid (Z = qt ++ IB ++ NB) := Lib.hid (by rw [HZ.out, ← HQT.out]; simp [k5])
          clear k5
          go_wp2_with fail
          refine Reg.region_heavy (by kernel_rfl) 9 [9] (rByI w.heap.size A B L M c d qt IB NB) (fun a => Below wt.heap.size wt a) (fun a => Below wt.heap.size wt a) (fun V => [(some 46, V 0), (some 47, V 1), (some 48, V 2), (some 49, V 3), (some 50, V 4), (some 51, V 5), (some 52, V 6), (some 53, V 7), (some 54, V 8), (some 3, V 9)]) (by kernel_rfl) (by kernel_rfl) (by kernel_rfl) (fun V => rfl) ?_ ?_ ?_
          · exact (Below.refl _ _).drew
          · intro i o ho
            have hi : i < 10 := (Array.getElem?_eq_some_iff.1 ho).1
            rcases i with _ | _ | _ | _ | _ | _ | _ | _ | _ | _ | i
            · obtain rfl := Option.some.inj ho
              intro ρ wi hE hI hs hd
              replace hI : (fun a => Below wt.heap.size wt a) wi := hI
              have e3 : ρ (.tmp 3) = .string (bs qt) := hs 3 (by kernel_rfl)
              exact Reg.Gives.value (v := .string (bs qt)) (w' := wi) (by go_simp) (Reg.OwedH.same hI rfl)
            · obtain rfl := Option.some.inj ho
              intro ρ wi hE hI hs hd
              replace hI : (fun a => Below wt.heap.size wt a) wi := hI
              have e1 : ρ (.tmp 1) = .pointer (some ⟨w.heap.size, 0, none⟩) := hs 1 (by kernel_rfl)
              exact Reg.Gives.value (v := .pointer (some ⟨w.heap.size, 4, none⟩)) (w' := wi) (by go_simp) (Reg.OwedH.same hI rfl)
            · obtain rfl := Option.some.inj ho
              intro ρ wi hE hI hs hd
              replace hI : (fun a => Below wt.heap.size wt a) wi := hI
              obtain ⟨u47, g47, e47⟩ := hd 1 47 (by kernel_rfl) (by kernel_rfl) (by show _ < 71; decide)
              obtain rfl : u47 = .pointer (some ⟨w.heap.size, 4, none⟩) := g47
              have hx := (HQ.out wi hI).cell (j := 4) rfl
              exact Reg.Gives.value (v := .slice A L c) (w' := wi) (by go_simp) (Reg.OwedH.same hI rfl)
            · obtain rfl := Option.some.inj ho
              intro ρ wi hE hI hs hd
              replace hI : (fun a => Below wt.heap.size wt a) wi := hI
              obtain ⟨u48, g48, e48⟩ := hd 2 48 (by kernel_rfl) (by kernel_rfl) (by show _ < 71; decide)
              obtain rfl : u48 = .slice A L c := g48
              have hf := hE.func
              refine Reg.Gives.call (f := 54) (args := #[.slice A L c]) (w' := wi) (by go_simp) ?_
              refine (HIT.out wi hI).mono ?_
              rintro e w'' ⟨rfl, hbb⟩
              exact ⟨_, rfl, ⟨rfl, hI.trans (hbb.mono hI.size), fun j u _ _ h => rByI_later hbb h⟩⟩
            · obtain rfl := Option.some.inj ho
              intro ρ wi hE hI hs hd
              replace hI : (fun a => Below wt.heap.size wt a) wi := hI
              obtain ⟨u46, g46, e46⟩ := hd 0 46 (by kernel_rfl) (by kernel_rfl) (by show _ < 71; decide)
              obtain rfl : u46 = .string (bs qt) := g46
              obtain ⟨u49, g49, e49⟩ := hd 3 49 (by kernel_rfl) (by kernel_rfl) (by show _ < 71; decide)
              obtain rfl : u49 = .string (bs IB) := g49
              have hap := HP1.out.1
              have hl := HP1.out.2
              exact Reg.Gives.value (v := .string (bs (qt ++ IB))) (w' := wi) (by go_simp) (Reg.OwedH.same hI rfl)
            · obtain rfl := Option.some.inj ho
              intro ρ wi hE hI hs hd
              replace hI : (fun a => Below wt.heap.size wt a) wi := hI
              have e1 : ρ (.tmp 1) = .pointer (some ⟨w.heap.size, 0, none⟩) := hs 1 (by kernel_rfl)
              exact Reg.Gives.value (v := .pointer (some ⟨w.heap.size, 5, none⟩)) (w' := wi) (by go_simp) (Reg.OwedH.same hI rfl)
            · obtain rfl := Option.some.inj ho
              intro ρ wi hE hI hs hd
              replace hI : (fun a => Below wt.heap.size wt a) wi := hI
              obtain ⟨u51, g51, e51⟩ := hd 5 51 (by kernel_rfl) (by kernel_rfl) (by show _ < 71; decide)
              obtain rfl : u51 = .pointer (some ⟨w.heap.size, 5, none⟩) := g51
              have hx := (HQ.out wi hI).cell (j := 5) rfl
              exact Reg.Gives.value (v := .slice B M d) (w' := wi) (by go_simp) (Reg.OwedH.same hI rfl)
            · obtain rfl := Option.some.inj ho
              intro ρ wi hE hI hs hd
              replace hI : (fun a => Below wt.heap.size wt a) wi := hI
              obtain ⟨u52, g52, e52⟩ := hd 6 52 (by kernel_rfl) (by kernel_rfl) (by show _ < 71; decide)
              obtain rfl : u52 = .slice B M d := g52
              have hf := hE.func
              refine Reg.Gives.call (f := 55) (args := #[.slice B M d]) (w' := wi) (by go_simp) ?_
              refine (HNO.out wi hI).mono ?_
              rintro e w'' ⟨rfl, hbb⟩
              exact ⟨_, rfl, ⟨rfl, hI.trans (hbb.mono hI.size), fun j u _ _ h => rByI_later hbb h⟩⟩
            · obtain rfl := Option.some.inj ho
              intro ρ wi hE hI hs hd
              replace hI : (fun a => Below wt.heap.size wt a) wi := hI
              obtain ⟨u50, g50, e50⟩ := hd 4 50 (by kernel_rfl) (by kernel_rfl) (by show _ < 71; decide)
              obtain rfl : u50 = .string (bs (qt ++ IB)) := g50
              obtain ⟨u53, g53, e53⟩ := hd 7 53 (by kernel_rfl) (by kernel_rfl) (by show _ < 71; decide)
              obtain rfl : u53 = .string (bs NB) := g53
              have hap := HP2.out.1
              have hl := HP2.out.2
              exact Reg.Gives.value (v := .string (bs (qt ++ IB ++ NB))) (w' := wi) (by go_simp) (Reg.OwedH.same hI rfl)
            · obtain rfl := Option.some.inj ho
              intro ρ wi hE hI hs hd
              replace hI : (fun a => Below wt.heap.size wt a) wi := hI
              obtain ⟨u54, g54, e54⟩ := hd 8 54 (by kernel_rfl) (by kernel_rfl) (by show _ < 71; decide)
              obtain rfl : u54 = .string (bs (qt ++ IB ++ NB)) := g54
              exact Reg.Gives.value (v := .string (bs (qt ++ IB ++ NB))) (w' := wi) (by go_simp) (Reg.OwedH.same hI rfl)
            · omega
          · intro V wa hV hI
            have hV9 : V 9 = .string (bs (qt ++ IB ++ NB)) := hV 9 (by decide) rfl
            simp only [Reg.putsO, List.foldl_cons, List.foldl_nil, Act.put, List.setIfInBounds_toArray, List.set_cons_succ, List.set_cons_zero, hV9]
            replace hI : (fun a => Below wt.heap.size wt a) wa := hI
            clear hV hV9
            have HW := Lib.hid (HBT.out.trans (hI.mono HBT.out.size))
            have hcq := HQ.out wa hI
            have q0 := hcq.cell (j := 0) rfl
            clear hI hcq
            go_wp2_with fail
            go_returns
            exact ⟨by rw [HV.out]; rfl, HW.out⟩
        by_cases k6 : kn = 6
        · have k6b : (((kn : Nat) : Int) == 6) = true := beq_iff_eq.2 (by omega)
          have k4b : (((kn : Nat) : Int) == 4) = false := beq_false_of_ne (by omega)
          have k5b : (((kn : Nat) : Int) == 5) = false := beq_false_of_ne (by omega)
          cases yes
          · skip
            have HP := Lib.hid (add_q qt [0] (by have := HQTL.out; simp; omega))
            have HV : Hid (Z = qt ++ [0]) := Lib.hid (by rw [HZ.out, ← HQT.out]; simp [k6])
            clear k6
            have hap := HP.out.1
            have hl := HP.out.2
            go_wp2_with fail
            refine (big_any 0 1 _ (by omega) (by omega)).mono ?_
            rintro e w6 ⟨rfl, hb6⟩
            have HB6 := Lib.hid (HBT.out.trans (hb6.mono HBT.out.size))
            rw [show (ByteArray.mk (big 0 1).toArray) = bs [0] from rfl]
            clear hb6
            go_wp2_with fail
            go_returns
            exact ⟨by rw [HV.out]; rfl, HB6.out⟩
          · skip
            have HP := Lib.hid (add_q qt [1] (by have := HQTL.out; simp; omega))
            have HV : Hid (Z = qt ++ [1]) := Lib.hid (by rw [HZ.out, ← HQT.out]; simp [k6])
            clear k6
            have hap := HP.out.1
            have hl := HP.out.2
            go_wp2_with fail
            refine (big_any 1 1 _ (by omega) (by omega)).mono ?_
            rintro e w6 ⟨rfl, hb6⟩
            have HB6 := Lib.hid (HBT.out.trans (hb6.mono HBT.out.size))
            rw [show (ByteArray.mk (big 1 1).toArray) = bs [1] from rfl]
            clear hb6
            go_wp2_with fail
            go_returns
            exact ⟨by rw [HV.out]; rfl, HB6.out⟩
        by_cases k11 : kn = 11
        · have k11b : (((kn : Nat) : Int) == 11) = true := beq_iff_eq.2 (by omega)
          have k4b : (((kn : Nat) : Int) == 4) = false := beq_false_of_ne (by omega)
          have k5b : (((kn : Nat) : Int) == 5) = false := beq_false_of_ne (by omega)
          have k6b : (((kn : Nat) : Int) == 6) = false := beq_false_of_ne (by omega)
          cases yes
          · skip
            have HP := Lib.hid (add_q qt [0] (by have := HQTL.out; simp; omega))
            have HV : Hid (Z = qt ++ [0]) := Lib.hid (by rw [HZ.out, ← HQT.out]; simp [k11])
            clear k11
            have hap := HP.out.1
            have hl := HP.out.2
            go_wp2_with fail
            refine (big_any 0 1 _ (by omega) (by omega)).mono ?_
            rintro e w6 ⟨rfl, hb6⟩
            have HB6 := Lib.hid (HBT.out.trans (hb6.mono HBT.out.size))
            rw [show (ByteArray.mk (big 0 1).toArray) = bs [0] from rfl]
            clear hb6
            go_wp2_with fail
            go_returns
            exact ⟨by rw [HV.out]; rfl, HB6.out⟩
          · skip
            have HP := Lib.hid (add_q qt [1] (by have := HQTL.out; simp; omega))
            have HV : Hid (Z = qt ++ [1]) := Lib.hid (by rw [HZ.out, ← HQT.out]; simp [k11])
            clear k11
            have hap := HP.out.1
            have hl := HP.out.2
            go_wp2_with fail
            refine (big_any 1 1 _ (by omega) (by omega)).mono ?_
            rintro e w6 ⟨rfl, hb6⟩
            have HB6 := Lib.hid (HBT.out.trans (hb6.mono HBT.out.size))
            rw [show (ByteArray.mk (big 1 1).toArray) = bs [1] from rfl]
            clear hb6
            go_wp2_with fail
            go_returns
            exact ⟨by rw [HV.out]; rfl, HB6.out⟩
        have HV : Hid (Z = qt) := Lib.hid (by rw [HZ.out, ← HQT.out]; simp; exact ⟨fun h => (by omega), by omega, by omega⟩)
        have k4b : (((kn : Nat) : Int) == 4) = false := beq_false_of_ne (by omega)
        have k5b : (((kn : Nat) : Int) == 5) = false := beq_false_of_ne (by omega)
        have k6b : (((kn : Nat) : Int) == 6) = false := beq_false_of_ne (by omega)
        have k11b : (((kn : Nat) : Int) == 11) = false := beq_false_of_ne (by omega)
        clear k4 k5 k6 k11
        go_wp2_with fail
        go_returns
        exact ⟨by rw [HV.out]; rfl, HBT.out⟩
end Go.Proofs.Ytllgkbnhlobhkaa.Rec
