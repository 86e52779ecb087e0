/-
  Layer 10: a message's bytes: the document's answer. Conditions: none.
-/
import Derived.Test.YtaekfbhkphlenaaMsgRefM
import Derived.Test.YtaekfbhkphlenaaItemRef
namespace Go.Proofs.Ytaekfbhkphlenaa.Msg
set_option maxRecDepth 100000
open Go.RowKit Go.Proofs.Ytaekfbhkphlenaa.Mem Go.Proofs.Ytaekfbhkphlenaa.Item Go.Proofs.Ytaekfbhkphlenaa.Wire

def numsK (r : Rc) (j : Nat) : List UInt8 := (List.range j).flatMap fun m => if hasR r.kind m then big (u64 (r.get m)) 8 else []
/-- A message's bytes, as the document has them. -/
def refBytes (r : Rc) : List UInt8 := (big r.kind.toNat 1 ++ numsK r 6) ++ (if named r.kind then tidB r.tid else []) ++ (if r.kind = 9 then itemsB r.items else []) ++ (if r.kind = 7 ∨ r.kind = 9 then nodesB r.nodes else []) ++ (if says r.kind then [if r.yes then 1 else 0] else [])
theorem numsK6 (r : Rc) : numsK r 6 = [0, 1, 2, 3, 4, 5].flatMap fun m => if hasR r.kind m then big (u64 (r.get m)) 8 else [] := by
  have h : List.range 6 = [0, 1, 2, 3, 4, 5] := by decide
  unfold numsK
  rw [h]
theorem refBytes_eq (r : Rc) (hk : 1 ≤ r.kind ∧ r.kind ≤ 15) : refBytes r = bytesR r := by
  obtain ⟨k, t, its, nds, a0, a1, a2, a3, a4, a5, yes⟩ := r
  simp only at hk
  have hb : ∀ m : Nat, m < 16 → big m 1 = [UInt8.ofNat m] := by decide
  rcases (show k = 1 ∨ k = 2 ∨ k = 3 ∨ k = 4 ∨ k = 5 ∨ k = 6 ∨ k = 7 ∨ k = 8 ∨ k = 9 ∨ k = 10 ∨ k = 11 ∨ k = 12 ∨ k = 13 ∨ k = 14 ∨ k = 15 by omega) with rfl | rfl | rfl | rfl | rfl | rfl | rfl | rfl | rfl | rfl | rfl | rfl | rfl | rfl | rfl
  all_goals simp [refBytes, bytesR, bodyB, fieldB, numsK6, hasR, fl, named, says, nums, Rc.get, Rc.numV, hb]
theorem named_iff {k : Int} (hk : 1 ≤ k ∧ k ≤ 15) : named k = decide (9 ≤ k ∧ k ≤ 14) := by
  rcases (show k = 1 ∨ k = 2 ∨ k = 3 ∨ k = 4 ∨ k = 5 ∨ k = 6 ∨ k = 7 ∨ k = 8 ∨ k = 9 ∨ k = 10 ∨ k = 11 ∨ k = 12 ∨ k = 13 ∨ k = 14 ∨ k = 15 by omega) with rfl | rfl | rfl | rfl | rfl | rfl | rfl | rfl | rfl | rfl | rfl | rfl | rfl | rfl | rfl <;> rfl
theorem says_iff {k : Int} (hk : 1 ≤ k ∧ k ≤ 15) : says k = decide (k = 10 ∨ k = 11 ∨ k = 14) := by
  rcases (show k = 1 ∨ k = 2 ∨ k = 3 ∨ k = 4 ∨ k = 5 ∨ k = 6 ∨ k = 7 ∨ k = 8 ∨ k = 9 ∨ k = 10 ∨ k = 11 ∨ k = 12 ∨ k = 13 ∨ k = 14 ∨ k = 15 by omega) with rfl | rfl | rfl | rfl | rfl | rfl | rfl | rfl | rfl | rfl | rfl | rfl | rfl | rfl | rfl <;> rfl
theorem add_q (q p : List UInt8) (h : q.length + p.length ≤ 1000000) : bs q ++ bs p = bs (q ++ p) ∧ (bs q).size + (bs p).size ≤ 9223372036854775807 := ⟨bs_app q p, by rw [bs_size, bs_size]; omega⟩
theorem numsK_succ (r : Rc) (j : Nat) : numsK r (j + 1) = numsK r j ++ (if hasR r.kind j then big (u64 (r.get j)) 8 else []) := by
  unfold numsK
  rw [List.range_succ, List.flatMap_append]
  simp
theorem numsK_length (r : Rc) (j : Nat) : (numsK r j).length ≤ 8 * j := by
  induction j with
  | zero => simp [numsK]
  | succ j ih =>
    rw [numsK_succ, List.length_append]
    split
    · rw [big_length]; omega
    · simp; omega
theorem order_at : ∀ i, i < 6 → ([1, 2, 3, 4, 5, 6] : List Int)[i]? = some ((i + 1 : Nat) : Int) := by
  intro i hi
  rcases (show i = 0 ∨ i = 1 ∨ i = 2 ∨ i = 3 ∨ i = 4 ∨ i = 5 by omega) with rfl | rfl | rfl | rfl | rfl | rfl <;> rfl
theorem order_cell {w : World} {A : Option Addr} (h : Nums w A [1, 2, 3, 4, 5, 6]) (i : Nat) (hi : i < 6) : ∃ b off, A = some ⟨b, off, none⟩ ∧ w.cell? ⟨b, off + i, none⟩ = some (.int .i64 ((i + 1 : Nat) : Int)) := by
  obtain ⟨b, off, e, hc⟩ := h i hi
  refine ⟨b, off, e, hc.trans ?_⟩
  have h2 := order_at i hi
  rw [List.getElem?_eq_getElem (show i < ([1, 2, 3, 4, 5, 6] : List Int).length from hi)] at h2
  rw [Option.some.inj h2]
def mByF (va : Value) (q : List UInt8) (bl off n fc jx f : Nat) (x : Int) : Nat → Value → World → Prop
  | 0, v, _ => v = .string (bs q)
  | 1, v, _ => v = va
  | 2, v, _ => v = .slice (some ⟨bl, off, none⟩) n fc
  | 3, v, _ => v = .int .i64 (jx : Int)
  | 4, v, _ => v = .pointer (some ⟨bl, off + jx, none⟩)
  | 5, v, _ => v = .int .i64 (f : Int)
  | 6, v, _ => v = .int .i64 x
  | 7, v, _ => v = .int .u64 ((u64 x : Nat) : Int)
  | 8, v, _ => v = .string (bs (big (u64 x) 8))
  | 9, v, _ => v = .string (bs (q ++ big (u64 x) 8))
  | 10, v, _ => v = .string (bs (q ++ big (u64 x) 8))
  | _, _, _ => True
theorem mByF_later {va : Value} {q : List UInt8} {bl off n fc jx f : Nat} {x : Int} {j : Nat} {v : Value} {w w' : World} (_hb : Below w.heap.size w w') (h : mByF va q bl off n fc jx f x j v w) : mByF va q bl off n fc jx f x j v w' := by
  match j, h with
  | 0, h | 1, h | 2, h | 3, h | 4, h | 5, h | 6, h | 7, h | 8, h | 9, h | 10, h => exact h
  | _ + 11, _ => exact trivial
def mByH (s kn : Nat) (bl off n fc jx f : Nat) (hm : Bool) : Nat → Value → World → Prop
  | 0, v, _ => v = .pointer (some ⟨s, 0, none⟩)
  | 1, v, _ => v = .int .i64 (kn : Int)
  | 2, v, _ => v = .slice (some ⟨bl, off, none⟩) n fc
  | 3, v, _ => v = .int .i64 (jx : Int)
  | 4, v, _ => v = .pointer (some ⟨bl, off + jx, none⟩)
  | 5, v, _ => v = .int .i64 (f : Int)
  | 6, v, _ => v = .bool hm
  | _, _, _ => True
set_option maxHeartbeats 4000000 in
theorem refBytes_any (r : Rc) (y : Lay) (w : World) (hk : 1 ≤ r.kind ∧ r.kind ≤ 15) (h : Has w r y) (h1 : r.items.length ≤ 100) (h2 : r.nodes.length ≤ 100) :
    Calls Try.prog 13 #[r.val y] w fun e w' => e = .returned (.string (bs (refBytes r))) ∧ Below w.heap.size w w' := by
  have HOR := Lib.hid order_any
  have HH := Lib.hid (fun f (hf : f < 6) w' => refHas_any r.kind f w' hk hf)
  have HNM := Lib.hid (fun f (hf : f < 6) w' => number_any r y f w' hf)
  have HNA := Lib.hid (fun w' => refNamed_any r.kind w' hk)
  have HSA := Lib.hid (fun w' => refSays_any r.kind w' hk)
  have HTI := Lib.hid (fun w' => refTid_any r.tid w')
  have HIT0 := Lib.hid (fun w' (hb : Below w.heap.size w w') => refItems_any y.A r.items y.c w' (h.items.later hb) (by omega))
  have HNO0 := Lib.hid (fun w' (hb : Below w.heap.size w w') => refNodes_any y.B r.nodes y.d w' (h.nodes.later hb) (by omega))
  have HTK := Lib.hid (numsK_succ r)
  have HNL := Lib.hid (numsK_length r)
  have HN0 : Hid (numsK r 0 = []) := Lib.hid rfl
  have HTL := Lib.hid (tidB_length r.tid)
  have HIL := Lib.hid (show (itemsB r.items).length ≤ 4000 by unfold itemsB; rw [List.length_append, big_length, flat_length]; omega)
  have HNDL := Lib.hid (show (nodesB r.nodes).length ≤ 4000 by unfold nodesB; rw [List.length_append, big_length, nums_length]; omega)
  have HZ : Hid (refBytes r = (big r.kind.toNat 1 ++ numsK r 6) ++ (if named r.kind then tidB r.tid else []) ++ (if r.kind = 9 then itemsB r.items else []) ++ (if r.kind = 7 ∨ r.kind = 9 then nodesB r.nodes else []) ++ (if says r.kind then [if r.yes then 1 else 0] else [])) := Lib.hid rfl
  have HKN := Lib.hid (named_iff hk)
  have HKS := Lib.hid (says_iff hk)
  clear h
  obtain ⟨Z, hz⟩ : ∃ Z, refBytes r = Z := ⟨_, rfl⟩
  obtain ⟨nm, hnm⟩ : ∃ nm, named r.kind = nm := ⟨_, rfl⟩
  obtain ⟨sb, hsb⟩ : ∃ sb, says r.kind = sb := ⟨_, rfl⟩
  obtain ⟨TB, hTB⟩ : ∃ TB, tidB r.tid = TB := ⟨_, rfl⟩
  obtain ⟨IB, hIB⟩ : ∃ IB, itemsB r.items = IB := ⟨_, rfl⟩
  obtain ⟨NB, hNB⟩ : ∃ NB, nodesB r.nodes = NB := ⟨_, rfl⟩
  obtain ⟨NR, hNR⟩ : ∃ NR, numsK r = NR := ⟨_, rfl⟩
  obtain ⟨G, hG⟩ : ∃ G, r.get = G := ⟨_, rfl⟩
  obtain ⟨HS, hHS⟩ : ∃ HS, hasR r.kind = HS := ⟨_, rfl⟩
  rw [hz, hnm, hsb, hTB, hIB, hNB, hNR] at HZ
  rw [hz]
  rw [hnm] at HNA HKN
  rw [hsb] at HSA HKS
  rw [hTB] at HTI HTL
  rw [hIB] at HIT0 HIL
  rw [hNB] at HNO0 HNDL
  simp only [hNR, hG, hHS] at HTK
  simp only [hNR, hG, hHS] at HNL HN0 HNM HH
  clear hz hnm hsb hTB hIB hNB hNR hG hHS
  obtain ⟨k, ⟨t1, t2, t3⟩, its, nds, a0, a1, a2, a3, a4, a5, yes⟩ := r
  obtain ⟨A, c, B, d⟩ := y
  simp only at HH HNA HSA HTI HIT0 HNO0 HZ HKN HKS hk h1 h2
  obtain ⟨L, hLL⟩ : ∃ L, its.length = L := ⟨_, rfl⟩
  obtain ⟨M, hMM⟩ : ∃ M, nds.length = M := ⟨_, rfl⟩
  unfold Rc.val at HNM ⊢
  unfold Tid.val at HTI
  simp only [hLL, hMM] at HNM HIT0 HNO0 h1 h2 ⊢
  clear hLL hMM
  obtain ⟨kn, rfl⟩ : ∃ kn : Nat, k = (kn : Int) := ⟨k.toNat, by omega⟩
  rw [Int.toNat_natCast] at HZ
  have HKB := Lib.hid (big_length kn 1)
  have HBK := Lib.hid (fun w' => big_any kn 1 w' (by omega) (by omega))
  obtain ⟨KB, hKB⟩ : ∃ KB, big kn 1 = KB := ⟨_, rfl⟩
  rw [hKB] at HKB HBK HZ
  clear hKB
  have HB := Lib.hid (below_alloc w (.cells #[.int .i64 (kn : Int), .int .i64 t1, .int .i64 t2, .int .i64 t3, .slice A L c, .slice B M d, .int .i64 a0, .int .i64 a1, .int .i64 a2, .int .i64 a3, .int .i64 a4, .int .i64 a5, .bool yes] 31))
  have HC := Lib.hid (cells_new w 31 _ #[.int .i64 (kn : Int), .int .i64 t1, .int .i64 t2, .int .i64 t3, .slice A L c, .slice B M d, .int .i64 a0, .int .i64 a1, .int .i64 a2, .int .i64 a3, .int .i64 a4, .int .i64 a5, .bool yes] rfl)
  go_enter Try.func13, Try.ntmps13
  go_wp2_with fail
  refine (HBK.out _).mono ?_
  rintro e w0 ⟨rfl, hb0⟩
  have HB0 := Lib.hid (HB.out.trans (hb0.mono HB.out.size))
  have HC0 := Lib.hid (HC.out.later hb0)
  clear hb0
  go_wp2_with fail
  refine (HOR.out _).mono ?_
  rintro e w1 ⟨FA, fc, rfl, hnu, hb1⟩
  have HB1 := Lib.hid (HB0.out.trans (hb1.mono HB0.out.size))
  have HC1 := Lib.hid (HC0.out.later hb1)
  have HNU := Lib.hid hnu
  clear hnu hb1
  go_wp2_with fail
  go_loopw [3, 5] (fun s i wr => ∃ j : Nat, j ≤ 6 ∧ i = .int .i64 (j : Int) ∧ s = .string (bs (KB ++ NR j)) ∧ Below w1.heap.size w1 wr) (fun _ i _ => 6 - (intOf i).toNat)
  case atStart => exact ⟨0, by omega, rfl, by rw [HN0.out, List.append_nil]; rfl, Below.refl _ _⟩
  case round =>
    obtain ⟨j, hj, rfl, rfl, hbr⟩ := hrel
    have HBR := Lib.hid hbr
    have HC2 := Lib.hid (HC1.out.later hbr)
    have HQ : Hid (∀ wi, Below wr.heap.size wr wi → Cells wi w.heap.size 31 _) := Lib.hid (fun wi hi => HC2.out.later hi)
    have hql : (KB ++ NR j).length ≤ 100 := by
      have := HNL.out j
      rw [List.length_append, HKB.out]
      omega
    by_cases hlt : j < 6
    · obtain ⟨bl, off, rfl, hcl⟩ := order_cell HNU.out j hlt
      have hcl2 := (hbr.cell (block_of_cell hcl)).trans hcl
      have HS2 := Lib.hid (HTK.out j)
      obtain ⟨q, hq⟩ : ∃ q, KB ++ NR j = q := ⟨_, rfl⟩
      obtain ⟨x, hx⟩ : ∃ x, G j = x := ⟨_, rfl⟩
      obtain ⟨hm, hhm⟩ : ∃ hm, HS j = hm := ⟨_, rfl⟩
      obtain ⟨f, hf⟩ : ∃ f, f = j + 1 := ⟨_, rfl⟩
      have HNJ := Lib.hid (fun w' => HNM.out j hlt w')
      have HHJ := Lib.hid (fun w' => HH.out j hlt w')
      rw [← hf] at hcl2 HNJ HHJ
      rw [hx, hhm] at HS2
      rw [hx] at HNJ
      rw [hhm] at HHJ
      have HFC : Hid (∀ wi, Below wr.heap.size wr wi → wi.cell? ⟨bl, off + j, none⟩ = some (.int .i64 (f : Int))) := Lib.hid (fun wi hi => (hi.cell (block_of_cell hcl2)).trans hcl2)
      have HJ := Lib.hid hlt
      have HQE := Lib.hid hq
      rw [hq] at hql ⊢
      clear hcl hcl2 hf hx hhm hq hbr
      go_wp2_with fail
      refine Reg.region_heavy (by kernel_rfl) 6 [6] (mByH w.heap.size kn bl off 6 fc j f hm) (fun a => Below wr.heap.size wr a) (fun a => Below wr.heap.size wr a) (fun V => [(some 18, V 0), (some 19, V 1), (some 20, V 2), (some 21, V 3), (some 22, V 4), (some 23, V 5), (some 24, V 6)]) (by kernel_rfl) (by kernel_rfl) (by kernel_rfl) (fun V => rfl) ?_ ?_ ?_
      · exact (Below.refl _ _).drew
      · intro i o ho
        have hi : i < 7 := (Array.getElem?_eq_some_iff.1 ho).1
        rcases i with _ | _ | _ | _ | _ | _ | _ | i
        · obtain rfl := Option.some.inj ho
          intro ρ wi hE hI hs hd
          try dsimp only at hI
          have e1 : ρ (.tmp 1) = .pointer (some ⟨w.heap.size, 0, none⟩) := hs 1 (by kernel_rfl)
          exact Reg.Gives.value (v := .pointer (some ⟨w.heap.size, 0, none⟩)) (w' := wi) (by go_simp) (Reg.OwedH.same hI rfl)
        · obtain rfl := Option.some.inj ho
          intro ρ wi hE hI hs hd
          try dsimp only at hI
          obtain ⟨u18, g18, e18⟩ := hd 0 18 (by kernel_rfl) (by kernel_rfl) (by show _ < 75; decide)
          obtain rfl : u18 = .pointer (some ⟨w.heap.size, 0, none⟩) := g18
          have hcq := HQ.out wi hI
          have q0 := hcq.cell (j := 0) rfl
          exact Reg.Gives.value (v := .int .i64 (kn : Int)) (w' := wi) (by go_simp) (Reg.OwedH.same hI rfl)
        · obtain rfl := Option.some.inj ho
          intro ρ wi hE hI hs hd
          try dsimp only at hI
          have e4 : ρ (.tmp 4) = .slice (some ⟨bl, off, none⟩) 6 fc := hs 4 (by kernel_rfl)
          exact Reg.Gives.value (v := .slice (some ⟨bl, off, none⟩) 6 fc) (w' := wi) (by go_simp) (Reg.OwedH.same hI rfl)
        · obtain rfl := Option.some.inj ho
          intro ρ wi hE hI hs hd
          try dsimp only at hI
          have e5 : ρ (.tmp 5) = .int .i64 (j : Int) := hs 5 (by kernel_rfl)
          exact Reg.Gives.value (v := .int .i64 (j : Int)) (w' := wi) (by go_simp) (Reg.OwedH.same hI rfl)
        · obtain rfl := Option.some.inj ho
          intro ρ wi hE hI hs hd
          try dsimp only at hI
          obtain ⟨u20, g20, e20⟩ := hd 2 20 (by kernel_rfl) (by kernel_rfl) (by show _ < 75; decide)
          obtain rfl : u20 = .slice (some ⟨bl, off, none⟩) 6 fc := g20
          obtain ⟨u21, g21, e21⟩ := hd 3 21 (by kernel_rfl) (by kernel_rfl) (by show _ < 75; decide)
          obtain rfl : u21 = .int .i64 (j : Int) := g21
          have hx := HJ.out
          exact Reg.Gives.value (v := .pointer (some ⟨bl, off + j, none⟩)) (w' := wi) (by go_simp) (Reg.OwedH.same hI rfl)
        · obtain rfl := Option.some.inj ho
          intro ρ wi hE hI hs hd
          try dsimp only at hI
          obtain ⟨u22, g22, e22⟩ := hd 4 22 (by kernel_rfl) (by kernel_rfl) (by show _ < 75; decide)
          obtain rfl : u22 = .pointer (some ⟨bl, off + j, none⟩) := g22
          have hx := HFC.out wi hI
          exact Reg.Gives.value (v := .int .i64 (f : Int)) (w' := wi) (by go_simp) (Reg.OwedH.same hI rfl)
        · obtain rfl := Option.some.inj ho
          intro ρ wi hE hI hs hd
          try dsimp only at hI
          obtain ⟨u19, g19, e19⟩ := hd 1 19 (by kernel_rfl) (by kernel_rfl) (by show _ < 75; decide)
          obtain rfl : u19 = .int .i64 (kn : Int) := g19
          obtain ⟨u23, g23, e23⟩ := hd 5 23 (by kernel_rfl) (by kernel_rfl) (by show _ < 75; decide)
          obtain rfl : u23 = .int .i64 (f : Int) := g23
          have hf := hE.func
          refine Reg.Gives.call (f := 17) (args := #[.int .i64 (kn : Int), .int .i64 (f : Int)]) (w' := wi) (by go_simp) ?_
          refine (HHJ.out wi).mono ?_
          rintro e w'' ⟨rfl, rfl⟩
          exact ⟨_, rfl, Reg.OwedH.same hI rfl⟩
        · omega
      · intro V wh hV hI
        have hV6 : V 6 = .bool hm := hV 6 (by decide) rfl
        simp only [Reg.putsO, List.foldl_cons, List.foldl_nil, Act.put, List.setIfInBounds_toArray, List.set_cons_succ, List.set_cons_zero, hV6]
        replace hI : (fun a => Below wr.heap.size wr a) wh := hI
        clear hV hV6
        have HWH := Lib.hid hI
        have HBRH := Lib.hid (HBR.out.trans (hI.mono HBR.out.size))
        clear hI
        cases hm
        · have HSQ : Hid (q = KB ++ NR (j + 1)) := Lib.hid (by rw [HS2.out, ← HQE.out]; simp)
          clear hql
          go_wp2_with fail
          go_roundw
          case rel => exact ⟨j + 1, by omega, by go_num, by rw [HSQ.out], HBRH.out⟩
          case measure => simp [intOf]; omega
        · have HSQ : Hid (q ++ big (u64 x) 8 = KB ++ NR (j + 1)) := Lib.hid (by rw [← HQE.out, HS2.out, List.append_assoc]; rfl)
          have HP := Lib.hid (add_q q (big (u64 x) 8) (by rw [big_length]; omega))
          have HU : Hid (IntKind.u64.wrap x = ((u64 x : Nat) : Int)) := Lib.hid (by rw [IntKind.wrap_u64, u64_cast])
          have HBG := Lib.hid (fun w' => big_any (u64 x) 8 w' (u64_lt x) (by omega))
          have HQ : Hid (∀ wi, Below wh.heap.size wh wi → Cells wi w.heap.size 31 _) := Lib.hid (fun wi hi => HQ.out wi (HWH.out.trans (hi.mono HWH.out.size)))
          have HFC : Hid (∀ wi, Below wh.heap.size wh wi → wi.cell? ⟨bl, off + j, none⟩ = some (.int .i64 (f : Int))) := Lib.hid (fun wi hi => HFC.out wi (HWH.out.trans (hi.mono HWH.out.size)))
          clear hql
          go_wp2_with fail
          refine Reg.region_heavy (by kernel_rfl) 10 [10] (mByF (.agg #[.int .i64 (kn : Int), .int .i64 t1, .int .i64 t2, .int .i64 t3, .slice A L c, .slice B M d, .int .i64 a0, .int .i64 a1, .int .i64 a2, .int .i64 a3, .int .i64 a4, .int .i64 a5, .bool yes]) q bl off 6 fc j f x) (fun a => Below wh.heap.size wh a) (fun a => Below wh.heap.size wh a) (fun V => [(some 25, V 0), (some 26, V 1), (some 27, V 2), (some 28, V 3), (some 29, V 4), (some 30, V 5), (some 31, V 6), (some 32, V 7), (some 33, V 8), (some 34, V 9), (some 3, V 10)]) (by kernel_rfl) (by kernel_rfl) (by kernel_rfl) (fun V => rfl) ?_ ?_ ?_
          · exact (Below.refl _ _).drew
          · intro i o ho
            have hi : i < 11 := (Array.getElem?_eq_some_iff.1 ho).1
            rcases i with _ | _ | _ | _ | _ | _ | _ | _ | _ | _ | _ | i
            · obtain rfl := Option.some.inj ho
              intro ρ wi hE hI hs hd
              try dsimp only at hI
              have e3 : ρ (.tmp 3) = .string (bs q) := hs 3 (by kernel_rfl)
              exact Reg.Gives.value (v := .string (bs q)) (w' := wi) (by go_simp) (Reg.OwedH.same hI rfl)
            · obtain rfl := Option.some.inj ho
              intro ρ wi hE hI hs hd
              try dsimp only at hI
              have e1 : ρ (.tmp 1) = .pointer (some ⟨w.heap.size, 0, none⟩) := hs 1 (by kernel_rfl)
              have hcq := HQ.out wi hI
              have q0 := hcq.cell (j := 0) rfl
              have q1 := hcq.cell (j := 1) rfl
              have q2 := hcq.cell (j := 2) rfl
              have q3 := hcq.cell (j := 3) rfl
              have q4 := hcq.cell (j := 4) rfl
              have q5 := hcq.cell (j := 5) rfl
              have q6 := hcq.cell (j := 6) rfl
              have q7 := hcq.cell (j := 7) rfl
              have q8 := hcq.cell (j := 8) rfl
              have q9 := hcq.cell (j := 9) rfl
              have q10 := hcq.cell (j := 10) rfl
              have q11 := hcq.cell (j := 11) rfl
              have q12 := hcq.cell (j := 12) rfl
              exact Reg.Gives.value (v := (.agg #[.int .i64 (kn : Int), .int .i64 t1, .int .i64 t2, .int .i64 t3, .slice A L c, .slice B M d, .int .i64 a0, .int .i64 a1, .int .i64 a2, .int .i64 a3, .int .i64 a4, .int .i64 a5, .bool yes])) (w' := wi) (by go_simp) (Reg.OwedH.same hI rfl)
            · obtain rfl := Option.some.inj ho
              intro ρ wi hE hI hs hd
              try dsimp only at hI
              have e4 : ρ (.tmp 4) = .slice (some ⟨bl, off, none⟩) 6 fc := hs 4 (by kernel_rfl)
              exact Reg.Gives.value (v := .slice (some ⟨bl, off, none⟩) 6 fc) (w' := wi) (by go_simp) (Reg.OwedH.same hI rfl)
            · obtain rfl := Option.some.inj ho
              intro ρ wi hE hI hs hd
              try dsimp only at hI
              have e5 : ρ (.tmp 5) = .int .i64 (j : Int) := hs 5 (by kernel_rfl)
              exact Reg.Gives.value (v := .int .i64 (j : Int)) (w' := wi) (by go_simp) (Reg.OwedH.same hI rfl)
            · obtain rfl := Option.some.inj ho
              intro ρ wi hE hI hs hd
              try dsimp only at hI
              obtain ⟨u27, g27, e27⟩ := hd 2 27 (by kernel_rfl) (by kernel_rfl) (by show _ < 75; decide)
              obtain rfl : u27 = .slice (some ⟨bl, off, none⟩) 6 fc := g27
              obtain ⟨u28, g28, e28⟩ := hd 3 28 (by kernel_rfl) (by kernel_rfl) (by show _ < 75; decide)
              obtain rfl : u28 = .int .i64 (j : Int) := g28
              have hx := HJ.out
              exact Reg.Gives.value (v := .pointer (some ⟨bl, off + j, none⟩)) (w' := wi) (by go_simp) (Reg.OwedH.same hI rfl)
            · obtain rfl := Option.some.inj ho
              intro ρ wi hE hI hs hd
              try dsimp only at hI
              obtain ⟨u29, g29, e29⟩ := hd 4 29 (by kernel_rfl) (by kernel_rfl) (by show _ < 75; decide)
              obtain rfl : u29 = .pointer (some ⟨bl, off + j, none⟩) := g29
              have hx := HFC.out wi hI
              exact Reg.Gives.value (v := .int .i64 (f : Int)) (w' := wi) (by go_simp) (Reg.OwedH.same hI rfl)
            · obtain rfl := Option.some.inj ho
              intro ρ wi hE hI hs hd
              try dsimp only at hI
              obtain ⟨u26, g26, e26⟩ := hd 1 26 (by kernel_rfl) (by kernel_rfl) (by show _ < 75; decide)
              obtain rfl : u26 = (.agg #[.int .i64 (kn : Int), .int .i64 t1, .int .i64 t2, .int .i64 t3, .slice A L c, .slice B M d, .int .i64 a0, .int .i64 a1, .int .i64 a2, .int .i64 a3, .int .i64 a4, .int .i64 a5, .bool yes]) := g26
              obtain ⟨u30, g30, e30⟩ := hd 5 30 (by kernel_rfl) (by kernel_rfl) (by show _ < 75; decide)
              obtain rfl : u30 = .int .i64 (f : Int) := g30
              have hf := hE.func
              refine Reg.Gives.call (f := 16) (args := #[.agg #[.int .i64 (kn : Int), .int .i64 t1, .int .i64 t2, .int .i64 t3, .slice A L c, .slice B M d, .int .i64 a0, .int .i64 a1, .int .i64 a2, .int .i64 a3, .int .i64 a4, .int .i64 a5, .bool yes], .int .i64 (f : Int)]) (w' := wi) (by go_simp) ?_
              refine (HNJ.out wi).mono ?_
              rintro e w'' ⟨rfl, hbb⟩
              exact ⟨_, rfl, ⟨rfl, hI.trans (hbb.mono hI.size), fun j u _ _ h => mByF_later hbb h⟩⟩
            · obtain rfl := Option.some.inj ho
              intro ρ wi hE hI hs hd
              try dsimp only at hI
              obtain ⟨u31, g31, e31⟩ := hd 6 31 (by kernel_rfl) (by kernel_rfl) (by show _ < 75; decide)
              obtain rfl : u31 = .int .i64 x := g31
              have hx := HU.out
              exact Reg.Gives.value (v := .int .u64 ((u64 x : Nat) : Int)) (w' := wi) (by go_simp) (Reg.OwedH.same hI rfl)
            · obtain rfl := Option.some.inj ho
              intro ρ wi hE hI hs hd
              try dsimp only at hI
              obtain ⟨u32, g32, e32⟩ := hd 7 32 (by kernel_rfl) (by kernel_rfl) (by show _ < 75; decide)
              obtain rfl : u32 = .int .u64 ((u64 x : Nat) : Int) := g32
              have hc := hE.const
              have hf := hE.func
              refine Reg.Gives.call (f := 33) (args := #[.int .u64 ((u64 x : Nat) : Int), .int .i64 8]) (w' := wi) (by go_simp) ?_
              refine (HBG.out wi).mono ?_
              rintro e w'' ⟨rfl, hbb⟩
              exact ⟨_, rfl, ⟨rfl, hI.trans (hbb.mono hI.size), fun j u _ _ h => mByF_later hbb h⟩⟩
            · obtain rfl := Option.some.inj ho
              intro ρ wi hE hI hs hd
              try dsimp only at hI
              obtain ⟨u25, g25, e25⟩ := hd 0 25 (by kernel_rfl) (by kernel_rfl) (by show _ < 75; decide)
              obtain rfl : u25 = .string (bs q) := g25
              obtain ⟨u33, g33, e33⟩ := hd 8 33 (by kernel_rfl) (by kernel_rfl) (by show _ < 75; decide)
              obtain rfl : u33 = .string (bs (big (u64 x) 8)) := g33
              have hap := HP.out.1
              have hl := HP.out.2
              exact Reg.Gives.value (v := .string (bs (q ++ big (u64 x) 8))) (w' := wi) (by go_simp) (Reg.OwedH.same hI rfl)
            · obtain rfl := Option.some.inj ho
              intro ρ wi hE hI hs hd
              try dsimp only at hI
              obtain ⟨u34, g34, e34⟩ := hd 9 34 (by kernel_rfl) (by kernel_rfl) (by show _ < 75; decide)
              obtain rfl : u34 = .string (bs (q ++ big (u64 x) 8)) := g34
              exact Reg.Gives.value (v := .string (bs (q ++ big (u64 x) 8))) (w' := wi) (by go_simp) (Reg.OwedH.same hI rfl)
            · omega
          · intro V wa hV hI
            have hV10 : V 10 = .string (bs (q ++ big (u64 x) 8)) := hV 10 (by decide) rfl
            simp only [Reg.putsO, List.foldl_cons, List.foldl_nil, Act.put, List.setIfInBounds_toArray, List.set_cons_succ, List.set_cons_zero, hV10]
            replace hI : (fun a => Below wh.heap.size wh a) wa := hI
            clear hV hV10
            rw [HSQ.out]
            have HW := Lib.hid (HBRH.out.trans (hI.mono HBRH.out.size))
            clear hI
            go_wp2_with fail
            go_roundw
            case rel => exact ⟨j + 1, by omega, by go_num, rfl, HW.out⟩
            case measure => simp [intOf]; omega
    · obtain rfl : j = 6 := by omega
      have HBW := Lib.hid (HB1.out.trans (hbr.mono HB1.out.size))
      obtain ⟨q, hq⟩ : ∃ q, KB ++ NR 6 = q := ⟨_, rfl⟩
      rw [hq] at hql HZ ⊢
      have hcq := HC2.out
      have q0 := hcq.cell (j := 0) rfl
      have q1 := hcq.cell (j := 1) rfl
      have q2 := hcq.cell (j := 2) rfl
      have q3 := hcq.cell (j := 3) rfl
      have q4 := hcq.cell (j := 4) rfl
      have q5 := hcq.cell (j := 5) rfl
      have q6 := hcq.cell (j := 6) rfl
      have q7 := hcq.cell (j := 7) rfl
      have q8 := hcq.cell (j := 8) rfl
      have q9 := hcq.cell (j := 9) rfl
      have q10 := hcq.cell (j := 10) rfl
      have q11 := hcq.cell (j := 11) rfl
      have q12 := hcq.cell (j := 12) rfl
      clear hq hbr hcq
      go_wp2_with fail
      refine (HNA.out _).mono ?_
      rintro e w4 ⟨rfl, rfl⟩
      have HQL := Lib.hid hql
      clear hql
      cases nm
      · have hkn : ¬ (9 ≤ (kn : Int) ∧ (kn : Int) ≤ 14) := of_decide_eq_false HKN.out.symm
        obtain rfl : sb = false := by rw [HKS.out]; exact decide_eq_false (by omega)
        have k9b : (((kn : Nat) : Int) == 9) = false := beq_false_of_ne (by omega)
        by_cases k7 : kn = 7
        · have k7b : (((kn : Nat) : Int) == 7) = true := beq_iff_eq.2 (by omega)
          have HV : Hid (Z = q ++ NB) := Lib.hid (by rw [HZ.out]; simp [k7])
          have HP := Lib.hid (add_q q NB (by have := HNDL.out; have := HQL.out; omega))
          clear k7
          go_wp2_with fail
          refine (HNO0.out _ HBW.out).mono ?_
          rintro e w6 ⟨rfl, hb6⟩
          have HB6 := Lib.hid (HBW.out.trans (hb6.mono HBW.out.size))
          have hcq := HC2.out.later hb6
          have p0 := hcq.cell (j := 0) rfl
          have hap := HP.out.1
          have hl := HP.out.2
          clear hb6 hcq q0 q1 q2 q3 q4 q5 q6 q7 q8 q9 q10 q11 q12
          go_wp2_with fail
          refine (HSA.out _).mono ?_
          rintro e w7 ⟨rfl, rfl⟩
          go_wp2_with fail
          go_returns
          exact ⟨by rw [HV.out]; rfl, HB6.out⟩
        · have k7b : (((kn : Nat) : Int) == 7) = false := beq_false_of_ne (by omega)
          have HV : Hid (Z = q) := Lib.hid (by rw [HZ.out, if_neg (by decide), if_neg (by omega), if_neg (by omega), if_neg (by decide)]; simp)
          clear k7
          go_wp2_with fail
          refine (HSA.out _).mono ?_
          rintro e w7 ⟨rfl, rfl⟩
          go_wp2_with fail
          go_returns
          exact ⟨by rw [HV.out]; rfl, HBW.out⟩
      · have hkn : 9 ≤ (kn : Int) ∧ (kn : Int) ≤ 14 := of_decide_eq_true HKN.out.symm
        have k7b : (((kn : Nat) : Int) == 7) = false := beq_false_of_ne (by omega)
        obtain ⟨qt, hqt⟩ : ∃ qt, q ++ TB = qt := ⟨_, rfl⟩
        have HPT := Lib.hid (add_q q TB (by have := HQL.out; rw [HTL.out]; omega))
        have HQT := Lib.hid hqt
        have HQTL := Lib.hid (show qt.length ≤ 124 by have := HQL.out; rw [← hqt, List.length_append, HTL.out]; omega)
        rw [hqt] at HPT
        clear hqt
        have hap := HPT.out.1
        have hl := HPT.out.2
        go_wp2_with fail
        refine (HTI.out _).mono ?_
        rintro e wt ⟨rfl, hbt⟩
        have HBT := Lib.hid (HBW.out.trans (hbt.mono HBW.out.size))
        have HCT := Lib.hid (HC2.out.later hbt)
        have hcq := HCT.out
        clear hbt q0 q1 q2 q3 q4 q5 q6 q7 q8 q9 q10 q11 q12
        have q0 := hcq.cell (j := 0) rfl
        have q1 := hcq.cell (j := 1) rfl
        have q2 := hcq.cell (j := 2) rfl
        have q3 := hcq.cell (j := 3) rfl
        have q4 := hcq.cell (j := 4) rfl
        have q5 := hcq.cell (j := 5) rfl
        have q6 := hcq.cell (j := 6) rfl
        have q7 := hcq.cell (j := 7) rfl
        have q8 := hcq.cell (j := 8) rfl
        have q9 := hcq.cell (j := 9) rfl
        have q10 := hcq.cell (j := 10) rfl
        have q11 := hcq.cell (j := 11) rfl
        have q12 := hcq.cell (j := 12) rfl
        clear hcq
        by_cases k9 : kn = 9
        · have k9b : (((kn : Nat) : Int) == 9) = true := beq_iff_eq.2 (by omega)
          obtain rfl : sb = false := by rw [HKS.out]; exact decide_eq_false (by omega)
          obtain ⟨qi, hqi⟩ : ∃ qi, qt ++ IB = qi := ⟨_, rfl⟩
          have HP1 := Lib.hid (add_q qt IB (by have := HIL.out; have := HQTL.out; omega))
          have HP2 := Lib.hid (add_q (qt ++ IB) NB (by have := HIL.out; have := HNDL.out; have := HQTL.out; rw [List.length_append]; omega))
          have HV : Hid (Z = qi ++ NB) := Lib.hid (by rw [HZ.out, ← hqi, ← HQT.out]; simp [k9])
          rw [hqi] at HP1 HP2
          clear k9 hqi
          go_wp2_with fail
          refine (HIT0.out _ HBT.out).mono ?_
          rintro e w5 ⟨rfl, hb5⟩
          have HB5 := Lib.hid (HBT.out.trans (hb5.mono HBT.out.size))
          have HC5 := Lib.hid (HCT.out.later hb5)
          have hcq := HC5.out
          clear hb5 hap hl q0 q1 q2 q3 q4 q5 q6 q7 q8 q9 q10 q11 q12
          have q0 := hcq.cell (j := 0) rfl
          have q1 := hcq.cell (j := 1) rfl
          have q2 := hcq.cell (j := 2) rfl
          have q3 := hcq.cell (j := 3) rfl
          have q4 := hcq.cell (j := 4) rfl
          have q5 := hcq.cell (j := 5) rfl
          have q6 := hcq.cell (j := 6) rfl
          have q7 := hcq.cell (j := 7) rfl
          have q8 := hcq.cell (j := 8) rfl
          have q9 := hcq.cell (j := 9) rfl
          have q10 := hcq.cell (j := 10) rfl
          have q11 := hcq.cell (j := 11) rfl
          have q12 := hcq.cell (j := 12) rfl
          have hap := HP1.out.1
          have hl := HP1.out.2
          clear hcq
          go_wp2_with fail
          refine (HNO0.out _ HB5.out).mono ?_
          rintro e w6 ⟨rfl, hb6⟩
          have HB6 := Lib.hid (HB5.out.trans (hb6.mono HB5.out.size))
          have hcq := HC5.out.later hb6
          have p0 := hcq.cell (j := 0) rfl
          clear hb6 hcq hap hl q0 q1 q2 q3 q4 q5 q6 q7 q8 q9 q10 q11 q12
          have hap := HP2.out.1
          have hl := HP2.out.2
          go_wp2_with fail
          refine (HSA.out _).mono ?_
          rintro e w7 ⟨rfl, rfl⟩
          go_wp2_with fail
          go_returns
          exact ⟨by rw [HV.out]; rfl, HB6.out⟩
        · have k9b : (((kn : Nat) : Int) == 9) = false := beq_false_of_ne (by omega)
          go_wp2_with fail
          refine (HSA.out _).mono ?_
          rintro e w7 ⟨rfl, rfl⟩
          have hk7 : ¬ (kn : Int) = 7 := by omega
          have hk9 : ¬ (kn : Int) = 9 := by omega
          clear hap hl
          cases sb
          · have HV : Hid (Z = qt) := Lib.hid (by rw [HZ.out, ← HQT.out]; simp [hk7, hk9])
            clear hk7 hk9
            go_wp2_with fail
            go_returns
            exact ⟨by rw [HV.out]; rfl, HBT.out⟩
          · cases yes
            · skip
              have HP := Lib.hid (add_q qt [0] (by have := HQTL.out; simp; omega))
              have HV : Hid (Z = qt ++ [0]) := Lib.hid (by rw [HZ.out, ← HQT.out]; simp [hk7, hk9])
              clear hk7 hk9
              have hap := HP.out.1
              have hl := HP.out.2
              go_wp2_with fail
              refine (big_any 0 1 _ (by omega) (by omega)).mono ?_
              rintro e w6 ⟨rfl, hb6⟩
              have HB6 := Lib.hid (HBT.out.trans (hb6.mono HBT.out.size))
              rw [show (ByteArray.mk (big 0 1).toArray) = bs [0] from rfl]
              clear hb6
              go_wp2_with fail
              go_returns
              exact ⟨by rw [HV.out]; rfl, HB6.out⟩
            · skip
              have HP := Lib.hid (add_q qt [1] (by have := HQTL.out; simp; omega))
              have HV : Hid (Z = qt ++ [1]) := Lib.hid (by rw [HZ.out, ← HQT.out]; simp [hk7, hk9])
              clear hk7 hk9
              have hap := HP.out.1
              have hl := HP.out.2
              go_wp2_with fail
              refine (big_any 1 1 _ (by omega) (by omega)).mono ?_
              rintro e w6 ⟨rfl, hb6⟩
              have HB6 := Lib.hid (HBT.out.trans (hb6.mono HBT.out.size))
              rw [show (ByteArray.mk (big 1 1).toArray) = bs [1] from rfl]
              clear hb6
              go_wp2_with fail
              go_returns
              exact ⟨by rw [HV.out]; rfl, HB6.out⟩
end Go.Proofs.Ytaekfbhkphlenaa.Msg
