/-
  P15.2: From any node Toward leads to any other one, step by step over neighbours, within Far steps, and never back. Conditions: none.
-/
import Derived.Test.YtbchgnlfkcgklaaSpnLaw
import Derived.Test.YtbchgnlfkcgklaaMaps
namespace Go.Proofs.Ytbchgnlfkcgklaa.SpanLeads
set_option maxRecDepth 100000
open Go.ChangeShapes Go.WideShapes Go.ChangeAt Go.RowKit Go.Deep Go.ChangeMaps Go.MapKept Go.Proofs.Ytbchgnlfkcgklaa.Mem Go.Proofs.Ytbchgnlfkcgklaa.Spn

theorem int_key : Go.Maps.Keyed Try.prog 3 := Go.Maps.int_keyed Try.underlying3
theorem wf_n {n : Int} (h1 : 0 ≤ n) (h2 : n ≤ 1000) : keyOf Try.prog 3 (.int .i64 n) = some (.int .i64 n) := by
  refine Go.Maps.keyOf_int_mk Try.underlying3 ?_
  have e1 : IntKind.i64.min = -9223372036854775808 := rfl
  have e2 : IntKind.i64.max = 9223372036854775807 := rfl
  simp only [Lit.wf, Bool.and_eq_true, decide_eq_true_eq, e1, e2]
  omega
/-- The map of the nodes that were gone through. -/
def Seen (w : World) (b : Nat) (l : List Nat) : Prop := ∃ n, KM Try.prog 3 w b n fun k v => v = .bool true ∧ ∃ x ∈ l, k = .int .i64 (x : Int)
section
variable {w w' : World} {b : Nat} {l : List Nat}
theorem Seen.later (h : Seen w b l) (hb : Below w.heap.size w w') : Seen w' b l := by
  obtain ⟨n, h⟩ := h
  exact ⟨n, h.later hb⟩
theorem seen_made (w : World) : Seen (w.alloc (.map #[] 0)) w.heap.size [] := ⟨0, (km_made _ _ w 0).congr (fun k v => ⟨fun e => e.elim, fun ⟨_, n, hn, _⟩ => by cases hn⟩) (Nat.le_refl _)⟩
theorem Seen.lt (h : Seen w b l) : b < w.heap.size := by
  obtain ⟨n, h⟩ := h
  exact h.lt
theorem Seen.look (h : Seen w b l) {x : Nat} (hx : x ∉ l) (h1 : x ≤ 1000) : (Instr.lookup 31 (.map (some b)) (.int .i64 (x : Int)) false).run Try.prog w = .ok (.bool false) w := by
  obtain ⟨n, h⟩ := h
  rcases h.look int_key Try.underlying31 (z := .bool false) (Try.zeroValue4 w) (wf_n (n := (x : Int)) (by omega) (by omega)) false with ⟨v, ⟨_, q, hq, e⟩, _⟩ | ⟨_, e⟩
  · simp only [Value.int.injEq, true_and, Int.natCast_inj] at e
    exact absurd (e ▸ hq) hx
  · exact e
theorem Seen.store (h : Seen w b l) {x : Nat} (h1 : x ≤ 1000) : ∃ w', (Instr.mapUpdate 31 (.map (some b)) (.int .i64 (x : Int)) (.bool true)).run Try.prog w = .ok () w' ∧ Seen w' b (l ++ [x]) ∧ Only (fun k => k = b) w w' := by
  obtain ⟨n, h⟩ := h
  obtain ⟨w', e1, e2, e3⟩ := h.store int_key Try.underlying31 (val := .bool true) (wf_n (n := (x : Int)) (by omega) (by omega))
  refine ⟨w', e1, ⟨_, e2.congr (fun k v => ?_) (Nat.le_refl _)⟩, e3⟩
  constructor
  · rintro (⟨rfl, rfl⟩ | ⟨_, e, q, hq, e4⟩)
    · exact ⟨rfl, x, by simp, rfl⟩
    · exact ⟨e, q, by simp [hq], e4⟩
  · rintro ⟨e, q, hq, rfl⟩
    rcases List.mem_append.1 hq with e5 | e5
    · by_cases e6 : q = x
      · subst e6
        exact Or.inl ⟨rfl, e⟩
      · exact Or.inr ⟨by simp; omega, e, q, e5, rfl⟩
    · have : q = x := by simpa using e5
      subst this
      exact Or.inl ⟨rfl, e⟩
end
theorem Seen.only {S : Nat → Prop} {w w' : World} {b : Nat} {l : List Nat} (h : Seen w b l) (ho : Only S w w') (hn : ¬ S b) : Seen w' b l := by
  obtain ⟨n, h⟩ := h
  exact ⟨n, h.only ho hn⟩
/-- Where the law's loop stands: k steps are made, of a path of L, to x. -/
structure At (L : List Nat) (b k x : Nat) (l : List Nat) : Prop where
  path : l ++ (pathL x b).tail = L
  len : l.length = k + 1
theorem mx_mem {x : Nat} : ∀ {l : List Nat}, x ∈ l → x ≤ mx l := by
  suffices h : ∀ (l : List Nat) (z : Nat), z ≤ l.foldl max z ∧ ∀ x ∈ l, x ≤ l.foldl max z from fun {l} hx => (h l 0).2 x hx
  intro l
  induction l with
  | nil => intro z; exact ⟨Nat.le_refl _, fun x hx => by cases hx⟩
  | cons a r ih =>
    intro z
    obtain ⟨i1, i2⟩ := ih (max z a)
    refine ⟨Nat.le_trans (Nat.le_max_left _ _) i1, fun x hx => ?_⟩
    rcases List.mem_cons.1 hx with rfl | hx
    · exact Nat.le_trans (Nat.le_max_right _ _) i1
    · exact i2 x hx
theorem dst_far {a b n : Nat} (h1 : 1 ≤ a) (h2 : a ≤ n) (h3 : 1 ≤ b) (h4 : b ≤ n) (h5 : n ≤ 16) : dst a b ≤ farI (n : Int) := by
  unfold farI
  rw [if_pos (by unfold hasB; simp; omega), Int.toNat_natCast, far_eq (by omega) h5]
  refine mx_mem (List.mem_flatMap.2 ⟨b, List.mem_range'_1.2 (by omega), List.mem_map.2 ⟨a, List.mem_range'_1.2 (by omega), rfl⟩⟩)
theorem near_mem {x n : Nat} (h1 : 1 ≤ x) (h2 : x ≤ n) (h3 : n ≤ 16) {y : Nat} (h4 : 1 ≤ y) (h5 : y ≤ n) (h6 : edgeB x y = true) : y ∈ nearI (x : Int) (n : Int) := by
  unfold nearI
  rw [if_pos (by unfold hasB; simp; omega), Int.toNat_natCast, Int.toNat_natCast, (near_eq (by omega) h3 h1 h2).1, List.mem_filter, h6]
  exact ⟨mem16 h4 (by omega), by simpa using h5⟩
theorem near_len (x n : Int) : (nearI x n).length ≤ 3 := by
  unfold nearI
  split
  · unfold nearL
    rw [List.length_append]
    have := childL_len x.toNat n.toNat
    split <;> simp <;> omega
  · simp
set_option maxHeartbeats 4000000 in
theorem walk (f t m : Nat) (h1 : f ≤ 255) (h2 : t ≤ 255) (h3 : m ≤ 255) (w : World) : Calls Try.prog 5 #[.int .u8 (f : Int), .int .u8 (t : Int), .int .u8 (m : Int)] w fun e w' => e = .returned (.bool true) ∧ Below w.heap.size w w' := by
  have HA := Lib.hid (awake_any w)
  obtain ⟨n, hn⟩ : ∃ n, 1 + m % 16 = n := ⟨_, rfl⟩
  obtain ⟨a, ha⟩ : ∃ a, 1 + f % n = a := ⟨_, rfl⟩
  obtain ⟨b, hb⟩ : ∃ b, 1 + t % n = b := ⟨_, rfl⟩
  have hn1 : 1 ≤ n := by omega
  have hn2 : n ≤ 16 := by omega
  have ha1 : 1 ≤ a := by omega
  have ha2 : a ≤ n := by have := Nat.mod_lt f hn1; omega
  have hb1 : 1 ≤ b := by omega
  have hb2 : b ≤ n := by have := Nat.mod_lt t hn1; omega
  have hn' : (1 : Int) + ((m : Int) % 16) = (n : Int) := by omega
  have ha' : (1 : Int) + ((f : Int) % (n : Int)) = (a : Int) := by omega
  have hb' : (1 : Int) + ((t : Int) % (n : Int)) = (b : Int) := by omega
  clear hn ha hb
  go_enter Try.func5, Try.ntmps5
  go_wp2_with fail
  refine HA.out.mono ?_
  rintro e w1 ⟨rfl, hq1⟩
  have HB1 := Lib.hid hq1
  clear hq1 HA
  go_upto_region 4 with (fail)
  go_region
  have HB2 := Lib.hid HB1.out.drew
  obtain ⟨w2, hw2⟩ : ∃ W, W = w1.drew := ⟨_, rfl⟩
  rw [← hw2] at HB2 ⊢
  clear hw2 hn' ha' hb' HB1
  obtain ⟨w3, hw3⟩ : ∃ W, W = w2.alloc (.map #[] 0) := ⟨_, rfl⟩
  have hb3 : Below w2.heap.size w2 w3 := by rw [hw3]; exact below_alloc _ _
  obtain ⟨w4, hst, hse, ho⟩ := Seen.store (w := w3) (b := w2.heap.size) (by rw [hw3]; exact seen_made w2) (x := a) (by omega)
  rw [hw3] at hst
  have hmm := @run_makeMap Try.prog
  have HSE := Lib.hid hse
  have HB4 := Lib.hid (HB2.out.trans ((hb3.mono HB2.out.size).trans (ho.below (Nat.le_trans HB2.out.size hb3.size) fun k e => by rw [e]; exact HB2.out.size)))
  obtain ⟨mb, hmb⟩ : ∃ q, w2.heap.size = q := ⟨_, rfl⟩
  have HMB : Hid (w.heap.size ≤ mb) := Lib.hid (by rw [← hmb]; exact HB2.out.size)
  rw [hmb] at hst HSE
  clear hw3 hb3 hse ho HB2
  have hAB := AB.of ha1 (show a ≤ 16 by omega) hb1 (show b ≤ 16 by omega)
  obtain ⟨L, hL⟩ : ∃ q, pathL a b = q := ⟨_, rfl⟩
  have HAB := Lib.hid hAB
  have hA0 : At L b 0 a [a] := ⟨by rw [← hL]; exact pathL_head ha1 (by omega) hb1 (by omega), rfl⟩
  have HA0 := Lib.hid hA0
  have HLQ := Lib.hid hL
  clear hAB hA0 hL
  obtain ⟨D, hD⟩ : ∃ q, dst a b = q := ⟨_, rfl⟩
  have HD := Lib.hid hD
  have hD40 : D ≤ 16 := by have := HAB.out.few; omega
  obtain ⟨fr, hfr⟩ : ∃ q, farI (n : Int) = q := ⟨_, rfl⟩
  have HFR := Lib.hid hfr
  have HDF : Hid (D ≤ fr) := Lib.hid (by rw [← hD, ← hfr]; exact dst_far ha1 ha2 hb1 hb2 hn2)
  clear hD hfr
  go_wp2_with fail
  go_loopw [11, 12] (fun s p wr => ∃ (k x : Nat) (l : List Nat), s = .int .i64 (k : Int) ∧ p = .int .i64 (x : Int) ∧ 1 ≤ x ∧ x ≤ n ∧ Hid (k + dst x b = D) ∧ Hid (At L b k x l) ∧ Hid (Seen wr mb l) ∧ Hid (Below w.heap.size w wr)) (fun _ p _ => dst (intOf p).toNat b)
  case atStart => exact ⟨0, a, [a], rfl, rfl, ha1, ha2, Lib.hid (by rw [HD.out]; omega), HA0, HSE, HB4⟩
  case round =>
    clear HA0 HSE HB4 hst
    obtain ⟨k, x, l, rfl, rfl, hx1, hx2, HK, HA, HS, HB⟩ := hrel
    by_cases hxb : x = b
    · subst hxb
      have hself := (AB.of hx1 (show x ≤ 16 by omega) hx1 (show x ≤ 16 by omega)).zero.2 rfl
      obtain rfl : k = D := by have := HK.out; omega
      have hpi : pathI (a : Int) (x : Int) (n : Int) = L := by unfold pathI; rw [if_pos (by unfold hasB; simp; omega), Int.toNat_natCast, Int.toNat_natCast, HLQ.out]
      have htw : towI (x : Int) (pathI (x : Int) (x : Int) (n : Int)) = (x : Int) := by unfold pathI; rw [if_pos (by unfold hasB; simp; omega), Int.toNat_natCast, pathL_self]; rfl
      have HP := Lib.hid (Path_any (a : Int) (x : Int) (n : Int) wr)
      rw [hpi] at HP
      have HT : Hid (∀ wq, Calls Try.prog 18 #[.int .i64 (x : Int), .int .i64 (x : Int), .int .i64 (n : Int)] wq fun e w' => e = .returned (.int .i64 (x : Int)) ∧ Below wq.heap.size wq w') := Lib.hid fun wq => by
        have := Toward_any (x : Int) (x : Int) (n : Int) wq
        rw [htw] at this
        exact this
      have HL1 : Hid (L.length = k + 1) := Lib.hid (by rw [← HLQ.out, HAB.out.len, HD.out])
      clear hself hpi htw
      go_wp2_with fail
      refine HP.out.mono ?_
      rintro e w5 ⟨v, rfl, hrow, hq⟩
      obtain ⟨A, c, rfl, _⟩ := hrow.islice
      have HB5 := Lib.hid (HB.out.trans (hq.mono HB.out.size))
      rw [HL1.out]
      clear hrow hq HP
      go_wp2_with fail
      refine (HT.out w5).mono ?_
      rintro e w6 ⟨rfl, hq⟩
      have HB6 := Lib.hid (HB5.out.trans (hq.mono HB5.out.size))
      clear hq HT
      go_wp2_with fail
      go_returns
      exact ⟨rfl, HB6.out⟩
    · have hXB := AB.of hx1 (show x ≤ 16 by omega) hb1 (show b ≤ 16 by omega)
      obtain ⟨q1, q2, q3, q4, q5⟩ := hXB.next hxb
      obtain ⟨y, hy⟩ : ∃ y, nxt x b = y := ⟨_, rfl⟩
      rw [hy] at q1 q2 q3 q4 q5
      have hy2 : y ≤ n := by omega
      have hyl : pathL y b = y :: (pathL y b).tail := (pathL_head q4 (by omega) hb1 (by omega)).symm
      have hpi : pathI (x : Int) (b : Int) (n : Int) = x :: y :: (pathL y b).tail := by unfold pathI; rw [if_pos (by unfold hasB; simp; omega), Int.toNat_natCast, Int.toNat_natCast, q1, ← hyl]
      have HT := Lib.hid (Toward_any (x : Int) (b : Int) (n : Int) wr)
      rw [hpi, show towI (x : Int) (x :: y :: (pathL y b).tail) = (y : Int) from rfl] at HT
      have hlt : l ++ y :: (pathL y b).tail = L := by
        have := HA.out.path
        rw [q1, hyl] at this
        exact this
      have hyn : y ∉ l := fun e => by
        have h9 := HAB.out.nod
        rw [HLQ.out, ← hlt, List.nodup_append] at h9
        exact h9.2.2 y e y (by simp) rfl
      have HA2 : Hid (At L b (k + 1) y (l ++ [y])) := Lib.hid ⟨by rw [List.append_assoc]; exact hlt, by rw [List.length_append, HA.out.len]; rfl⟩
      have HK2 : Hid (k + 1 + dst y b = D) := Lib.hid (by have := HK.out; omega)
      have hkf : k < fr := by have := HK2.out; have := HDF.out; omega
      have hk16 : k ≤ 16 := by have := HK2.out; omega
      have HYN := Lib.hid hyn
      have HYM := Lib.hid (near_mem hx1 hx2 hn2 q4 hy2 q2)
      have HQ3 := Lib.hid q3
      obtain ⟨N, hN⟩ : ∃ q, nearI (x : Int) (n : Int) = q := ⟨_, rfl⟩
      have HNL := Lib.hid (near_len (x : Int) (n : Int))
      have HNE : Hid (∀ wq, Calls Try.prog 13 #[.int .i64 (x : Int), .int .i64 (n : Int)] wq fun e w' => ∃ v, e = .returned v ∧ NR wq.heap.size w' v N ∧ Below wq.heap.size wq w') := Lib.hid fun wq => by rw [← hN]; exact Neighbours_any _ _ wq
      rw [hN] at HYM HNL
      have hxb2 : ((x : Int) == (b : Int)) = false := by simp; omega
      clear hXB q1 q2 q3 hy hyl hpi hlt hyn hN hxb HA HK
      go_wp2_with fail
      refine HT.out.mono ?_
      rintro e w5 ⟨rfl, hq⟩
      have HB5 := Lib.hid (HB.out.trans (hq.mono HB.out.size))
      have HS5 := Lib.hid (HS.out.later hq)
      clear hq HT HB HS
      go_wp2_with fail
      refine (HNE.out w5).mono ?_
      rintro e w6 ⟨v, rfl, hrow, hq⟩
      obtain ⟨A, c, rfl, hir, _, _⟩ := hrow.islice
      have HIR := Lib.hid hir
      have HB6 := Lib.hid (HB5.out.trans (hq.mono HB5.out.size))
      have HS6 := Lib.hid (HS5.out.later hq)
      obtain ⟨nn, hnn⟩ : ∃ q, N.length = q := ⟨_, rfl⟩
      have HNN := Lib.hid hnn
      rw [hnn]
      have hnn3 : nn ≤ 3 := by have := HNL.out; omega
      clear hrow hq hir hnn HNE HB5 HS5
      go_wp2_with fail
      go_loopw [14, 50] (fun r i wq => ∃ (j : Nat) (bb : Bool), j ≤ nn ∧ i = .int .i64 (j : Int) ∧ r = .bool bb ∧ Hid (bb = decide (y ∈ N.take j)) ∧ w6 = wq) (fun _ i _ => nn - (intOf i).toNat)
      case atStart => exact ⟨0, false, Nat.zero_le _, rfl, rfl, Lib.hid (by simp), rfl⟩
      case round =>
        obtain ⟨j, bb, hj, rfl, rfl, HBB, rfl⟩ := hrel
        by_cases hjn : j < nn
        · have hjl : j < N.length := by rw [HNN.out]; exact hjn
          obtain ⟨g, off, rfl, cj⟩ := HIR.out j (by rw [List.length_map]; exact hjl)
          rw [List.getElem_map] at cj
          obtain ⟨z, hz⟩ : ∃ z, N[j] = z := ⟨_, rfl⟩
          have htk : N.take (j + 1) = N.take j ++ [z] := by rw [List.take_add_one, List.getElem?_eq_getElem hjl, hz]; rfl
          rw [hz] at cj
          have HTK := Lib.hid htk
          clear hz hjl htk
          cases bb with
          | true =>
            have HB9 : Hid (true = decide (y ∈ N.take (j + 1))) := Lib.hid (by
              symm
              refine decide_eq_true ?_
              rw [HTK.out, List.mem_append]
              exact Or.inl (of_decide_eq_true HBB.out.symm))
            go_wp2_with fail
            go_roundw
            case rel => exact ⟨j + 1, true, by omega, by go_num, rfl, HB9, by trivial⟩
            case measure => simp [intOf]; omega
          | false =>
            have hno := of_decide_eq_false HBB.out.symm
            by_cases hzy : z = y
            · subst hzy
              have HB9 : Hid (true = decide (z ∈ N.take (j + 1))) := Lib.hid (by
                symm
                refine decide_eq_true ?_
                rw [HTK.out, List.mem_append]
                exact Or.inr (by simp))
              clear hno
              go_wp2_with fail
              go_roundw
              case rel => exact ⟨j + 1, true, by omega, by go_num, rfl, HB9, by trivial⟩
              case measure => simp [intOf]; omega
            · have HB9 : Hid (false = decide (y ∈ N.take (j + 1))) := Lib.hid (by
                symm
                refine decide_eq_false ?_
                rw [HTK.out, List.mem_append]
                rintro (e | e)
                · exact hno e
                · exact hzy (List.mem_singleton.1 e).symm)
              have e1 : ((z : Int) == (y : Int)) = false := by simp; omega
              clear hno hzy
              go_wp2_with fail
              go_roundw
              case rel => exact ⟨j + 1, false, by omega, by go_num, rfl, HB9, by trivial⟩
              case measure => simp [intOf]; omega
        · obtain rfl : j = nn := by omega
          obtain rfl : bb = true := by
            rw [HBB.out]
            refine decide_eq_true ?_
            rw [List.take_of_length_le (by rw [HNN.out]; exact Nat.le_refl _)]
            exact HYM.out
          have hlk := HS6.out.look HYN.out (by omega)
          have HF := Lib.hid (Far_any (n : Int) w6)
          rw [HFR.out] at HF
          have e1 : decide ((k : Int) ≥ (fr : Int)) = false := decide_eq_false (by omega)
          have e2 : decide (fr ≤ k) = false := decide_eq_false (by omega)
          go_wp2_with fail
          refine HF.out.mono ?_
          rintro e w7 ⟨rfl, hq⟩
          obtain ⟨w8, hst, hse, ho⟩ := (HS6.out.later hq).store (x := y) (by omega)
          have HS8 := Lib.hid hse
          have HB8 := Lib.hid ((HB6.out.trans (hq.mono HB6.out.size)).trans (ho.below (Nat.le_trans HB6.out.size hq.size) fun i e => by rw [e]; exact HMB.out))
          clear hq hse ho hlk HF
          go_wp2_with fail
          go_roundw
          case rel => exact ⟨k + 1, y, l ++ [y], by go_num, rfl, q4, hy2, HK2, HA2, HS8, HB8⟩
          case measure => simp [intOf]; have := HQ3.out; omega
theorem opened {H : Type} {enc : TypeId × Value → H} {W : World} {base : Nat} {gs : List (DataW H)} (v0 : Value) (d0 : DataW H) (p0 : List MemPlace) (v1 : Value) (d1 : DataW H) (p1 : List MemPlace) (v2 : Value) (d2 : DataW H) (p2 : List MemPlace)
    (o0 : Value.okWide Try.prog W .any base 5 v0) (t0 : DataW.Trod enc Try.prog W 0 (fun _ => true) true 5 v0 d0 p0)
    (o1 : Value.okWide Try.prog W .any base 5 v1) (t1 : DataW.Trod enc Try.prog W 0 (fun _ => true) true 5 v1 d1 p1)
    (o2 : Value.okWide Try.prog W .any base 5 v2) (t2 : DataW.Trod enc Try.prog W 0 (fun _ => true) true 5 v2 d2 p2)
    (_hsz : (DataW.weightsEach Try.prog ([5, 5, 5] ++ []) ([d0, d1, d2] ++ gs)).all (· ≤ reachBytes) = true) :
    Calls Try.prog 5 #[v0, v1, v2] W fun e W' => e = .returned (.bool true) ∧ Below W.heap.size W W' := by
  obtain ⟨x, rfl, hx⟩ := arg_u8 o0 t0
  obtain ⟨y, rfl, hy⟩ := arg_u8 o1 t1
  obtain ⟨z, rfl, hz⟩ := arg_u8 o2 t2
  exact walk x y z hx hy hz W

theorem contract (H : Type) (enc : TypeId × Value → H) (W : World) (base : Nat) (args : Array Value) (ds gs : List (DataW H)) (before : List MemPlace)
    (hval : ∀ (j : Nat) t v, Try.f5.params[j]? = some t → args[j]? = some v → Value.okWide Try.prog W .any base t v)
    (hW : DataW.Whole enc Try.prog Try.f5.params.toList Rows.spanLeadsSpec.vars false W args.toList ds gs before)
    (hsz : (DataW.weightsEach Try.prog (Try.f5.params.toList ++ []) (ds ++ gs)).all (· ≤ reachBytes) = true) :
    Calls Try.prog 5 args W fun e W' => ∃ v, e = .returned v ∧ Rows.spanLeadsSpec.post enc Try.prog Try.f5 false true false false W args v W' := by
  have hW0 := hW
  obtain ⟨p, q, hA0, hV, rfl, _, _⟩ := hW
  have hA : DataW.TrodAll enc Try.prog W 0 (fun _ => true) true Try.f5.params.toList args.toList ds p := hA0
  rw [Try.params5] at hA hval hsz
  obtain ⟨v0, vs0, d0, ds0, p0, q0, hargs, rfl, rfl, h0, r0⟩ := trodAll_cons hA
  obtain ⟨v1, vs1, d1, ds1, p1, q1, rfl, rfl, rfl, h1, r1⟩ := trodAll_cons r0
  obtain ⟨v2, vs2, d2, ds2, p2, q2, rfl, rfl, rfl, h2, r2⟩ := trodAll_cons r1
  obtain ⟨rfl, rfl, rfl⟩ := trodAll_nil r2
  obtain rfl : args = #[v0, v1, v2] := by cases args; simp_all
  refine (opened v0 d0 p0 v1 d1 p1 v2 d2 p2 (hval 0 5 v0 rfl rfl) h0 (hval 1 5 v1 rfl rfl) h1 (hval 2 5 v2 rfl rfl) h2 hsz).mono fun e W' ⟨he, hb⟩ => ⟨_, he, ?_⟩
  exact Base.law_post (tb := 4) Base.laidOut (by kernel_rfl) rfl Try.underlying4 rfl (fun l hl => by
    rw [Try.params5] at hl
    match l, hl with
    | [_, _, _], _ => rfl) (by rw [Try.params5]; rfl) hW0 hb

theorem laid_met (os : Os) : laidMet Try.prog Rows.spanLeadsRow.laid ((Base.plainWorld os).forCall (fun _ _ => 0) ⟨#[], #[.int .u8 0, .int .u8 0, .int .u8 0], []⟩).memory := laidMet_nil _ _
theorem reads (os : Os) {H : Type} (enc : TypeId × Value → H) : ∃ places, DataW.whole enc Try.prog ((Base.plainWorld os).forCall (fun _ _ => 0) ⟨#[], #[.int .u8 0, .int .u8 0, .int .u8 0], []⟩).memory Try.f5.params.toList Rows.spanLeadsSpec.vars false (#[.int .u8 0, .int .u8 0, .int .u8 0] : Array Value).toList 8 = some ([.lit (.int .u8 0), .lit (.int .u8 0), .lit (.int .u8 0)], [], places) :=
  ⟨[], by kernel_rfl⟩

set_option maxRecDepth 100000 in
theorem lifted (os : Os) (started : os.Started) (H : Type) (enc : TypeId × Value → H) (F : Stop.Interp) :
    ReturnsInHanded {} Try.checked os 5 .any ((OpenSpec.ofChange Rows.spanLeadsSpec).preRow enc Try.prog Try.f5 Rows.spanLeadsRow.domain false Rows.spanLeadsRow.laid) (((OpenSpec.ofChange Rows.spanLeadsSpec).at F).post enc Try.prog Try.f5 false true false false) := by
  obtain ⟨places, hx⟩ := reads os enc
  refine returnsInHanded_of_row (C := Try.checked) (s := OpenSpec.ofChange Rows.spanLeadsSpec) Base.own started (by kernel_rfl) Try.func5
    (witness_row_at (enc := enc) (C := Try.checked) false (Base.plainWorld os) #[.int .u8 0, .int .u8 0, .int .u8 0] rfl (by kernel_rfl) (by kernel_rfl) (by kernel_rfl)
      (OpenSpec.preRow_of_cond 8 hx (by kernel_rfl) (fun k hk => by cases hk) (by kernel_rfl) (laid_met os))) ?_
  intro W base args ds gs before hval hW _ _ hsz _ _ _
  exact contract H enc W base args ds gs before hval hW hsz

theorem said : Rows.SpanLeadsSaid :=
  OpenClaim.holds_of_cond 5 Try.f5 rfl rfl rfl rfl rfl rfl rfl ⟨rfl, rfl, rfl, rfl, rfl⟩ rfl rfl rfl rfl rfl (by kernel_rfl) Try.func5 (by kernel_rfl)
    (of_decide_eq_true (by kernel_rfl)) (by unfold Func.isWrapper; rw [if_neg (of_decide_eq_false (by kernel_rfl))]; exact ⟨rfl, rfl⟩)
    (fun os started H enc _ F => by rw [OpenClaim.pre_eq_preRow]; exact lifted os started H enc F)
#print axioms said
end Go.Proofs.Ytbchgnlfkcgklaa.SpanLeads
