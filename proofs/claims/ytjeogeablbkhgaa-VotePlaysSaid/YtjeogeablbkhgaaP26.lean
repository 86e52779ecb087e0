/-
  slices' CompactFunc at items: of items of one cell that stand side by side the first one stays.
  Conditions: none.
-/
import Derived.Test.YtjeogeablbkhgaaP24
import Derived.Test.YtjeogeablbkhgaaP15
import Derived.Test.YtjeogeablbkhgaaP4
import Derived.Deep.MidRow
import Derived.Lib.SliceRun
import Derived.IntWalk
namespace Go.Proofs.Ytjeogeablbkhgaa.Item
set_option maxRecDepth 100000
open Go.RowKit Go.Proofs.Ytjeogeablbkhgaa.Mem Go.Proofs.Ytjeogeablbkhgaa.Wire
/-- What stays of a list behind an item of cell c. -/
def cptF (c : Int) : List It → List It
 | [] => []
 | y :: l => if y.cell = c then cptF c l else y :: cptF y.cell l
def cpt : List It → List It
 | [] => []
 | x :: l => x :: cptF x.cell l
def lastCp (c : Int) (m : List It) : Int := (m.getLast?.map It.cell).getD c
theorem cptF_snoc (m : List It) (x : It) : ∀ c, cptF c (m ++ [x]) = if x.cell = lastCp c m then cptF c m else cptF c m ++ [x] := by
 induction m with
 | nil =>
  intro c
  show (if x.cell = c then [] else [x]) = if x.cell = c then [] else [] ++ [x]
  split <;> rfl
 | cons y m ih =>
  intro c
  have hl : lastCp c (y :: m) = lastCp y.cell m := by
   unfold lastCp
   cases m with
   | nil => rfl
   | cons z m => simp [List.getLast?_cons]
  rw [List.cons_append, cptF, cptF, hl]
  by_cases hy : y.cell = c
  ·rw [if_pos hy, if_pos hy, ih c]
   subst hy
   rfl
  ·rw [if_neg hy, if_neg hy, ih y.cell]
   split <;> rfl
theorem cpt_snoc {l : List It} {u : Nat} (hu : u < l.length) (h0 : 0 < u) : cpt (l.take (u + 1)) = if l[u].cell = (l[u - 1]'(by omega)).cell then cpt (l.take u) else cpt (l.take u) ++ [l[u]] := by
 rw [List.take_succ_eq_append_getElem hu]
 match l, hu with
 | z :: l, hu =>
  obtain ⟨v, rfl⟩ : ∃ v, u = v + 1 := ⟨u - 1, by omega⟩
  rw [List.take_succ_cons, List.cons_append, cpt, cpt, cptF_snoc]
  have hlast : lastCp z.cell (l.take v) = ((z :: l)[v + 1 - 1]'(by omega)).cell := by
   unfold lastCp
   cases v with
   | zero => rfl
   | succ v =>
    have hv : v < l.length := by simp at hu; omega
    rw [List.take_succ_eq_append_getElem hv, List.getLast?_append]
    simp
  rw [hlast]
  split <;> rfl
theorem cpt_one {l : List It} (h : l.length < 2) : cpt l = l := by
 match l, h with
 | [], _ => rfl
 | [x], _ => rfl
theorem run_clear_items (w : World) (ty : TypeId) (b o n c : Nat) (ht : w.there b o (n * 5)) : ∃ w', (Builtin.clear_ #[49] ty #[.slice (some ⟨b, o, none⟩) n c]).run Try.prog w = .ok (.tuple #[]) w' ∧ w' = w.setCells b o (Builtin.zeroCells (Value.agg #[.int .i64 0, .int .i64 0, .int .i64 0, .bool false, .int .i64 0]).cells n).toList := by
 refine ⟨_, ?_, rfl⟩
 have hv : ∀ w, (zeroValue 60).run Try.prog w = .ok (.agg #[.int .i64 0, .int .i64 0, .int .i64 0, .bool false, .int .i64 0]) w := fun w => Try.zeroValue60 w
 have hlen : (Builtin.zeroCells (Value.agg #[.int .i64 0, .int .i64 0, .int .i64 0, .bool false, .int .i64 0]).cells n).toList.length = n * 5 := by
  rw [Array.length_toList, size_zeroCells]; rfl
 have hone : ∀ v ∈ (Builtin.zeroCells (Value.agg #[.int .i64 0, .int .i64 0, .int .i64 0, .bool false, .int .i64 0]).cells n).toList, v.oneCell' = true := by
  intro v hv
  simp [Builtin.zeroCells] at hv
  obtain ⟨i, _, rfl⟩ := hv
  have h5 : i % 5 < 5 := Nat.mod_lt _ (by decide)
  obtain ⟨j, hj⟩ : ∃ j, i % 5 = j := ⟨_, rfl⟩
  rcases j with _ | _ | _ | _ | _ | j
  all_goals first
   | (exfalso; omega)
   | (simp [Value.cells, hj]; rfl)
 have hst := run_storeCells_cells (P := Try.prog) b o _ 0 w (fun j hj => by rw [Nat.add_zero]; exact (ht j (by rw [hlen] at hj; exact hj)).1) (fun j hj => by rw [Nat.add_zero]; exact (ht j (by rw [hlen] at hj; exact hj)).2) hone
 rw [Nat.add_zero] at hst
 by_cases h0 : n = 0
 ·subst h0
  simp [Builtin.clear_, run_underlying Try.underlying49, Builtin.zeroCells]
  rfl
 ·obtain ⟨m, rfl⟩ : ∃ m, n = m + 1 := ⟨n - 1, by omega⟩
  simp [Builtin.clear_, run_underlying Try.underlying49, hv, hst]
def cpA (b N cap u vv : Nat) (x y : It) : Nat → Value → World → Prop
 | 0, v, _ => v = .func (.func 47) #[] #[]
 | 1, v, _ => v = .slice (some ⟨b, 0, none⟩) N cap
 | 2, v, _ => v = .int .i64 (u : Int)
 | 3, v, _ => v = .pointer (some ⟨b, u * 5, none⟩)
 | 4, v, _ => v = .agg #[.int .i64 x.cell, .int .i64 x.version, .int .i64 x.value, .bool x.write, .int .i64 x.new]
 | 5, v, _ => v = .slice (some ⟨b, 0, none⟩) N cap
 | 6, v, _ => v = .int .i64 (u : Int)
 | 7, v, _ => v = .int .i64 (vv : Int)
 | 8, v, _ => v = .pointer (some ⟨b, vv * 5, none⟩)
 | 9, v, _ => v = .agg #[.int .i64 y.cell, .int .i64 y.version, .int .i64 y.value, .bool y.write, .int .i64 y.new]
 | 10, v, _ => v = .bool (x.cell == y.cell)
 | _, _, _ => True
theorem cpA_later {b N cap u vv : Nat} {x y : It} {j : Nat} {v : Value} {w w' : World} (_hb : Below w.heap.size w w') (h : cpA b N cap u vv x y j v w) : cpA b N cap u vv x y j v w' := by
 match j, h with
 | 0, h | 1, h | 2, h | 3, h | 4, h | 5, h | 6, h | 7, h | 8, h | 9, h | 10, h => exact h
 | _ + 11, _ => exact trivial
def cpB (b cM i0 M uu vv : Nat) (x y : It) : Nat → Value → World → Prop
 | 0, v, _ => v = .func (.func 47) #[] #[]
 | 1, v, _ => v = .slice (some ⟨b, i0 * 5, none⟩) M cM
 | 2, v, _ => v = .int .i64 (uu : Int)
 | 3, v, _ => v = .pointer (some ⟨b, i0 * 5 + uu * 5, none⟩)
 | 4, v, _ => v = .agg #[.int .i64 x.cell, .int .i64 x.version, .int .i64 x.value, .bool x.write, .int .i64 x.new]
 | 5, v, _ => v = .slice (some ⟨b, i0 * 5, none⟩) M cM
 | 6, v, _ => v = .int .i64 (uu : Int)
 | 7, v, _ => v = .int .i64 (vv : Int)
 | 8, v, _ => v = .pointer (some ⟨b, i0 * 5 + vv * 5, none⟩)
 | 9, v, _ => v = .agg #[.int .i64 y.cell, .int .i64 y.version, .int .i64 y.value, .bool y.write, .int .i64 y.new]
 | 10, v, _ => v = .bool (x.cell == y.cell)
 | 11, v, _ => v = .bool (!(x.cell == y.cell))
 | _, _, _ => True
theorem cpB_later {b cM i0 M uu vv : Nat} {x y : It} {j : Nat} {v : Value} {w w' : World} (_hb : Below w.heap.size w w') (h : cpB b cM i0 M uu vv x y j v w) : cpB b cM i0 M uu vv x y j v w' := by
 match j, h with
 | 0, h | 1, h | 2, h | 3, h | 4, h | 5, h | 6, h | 7, h | 8, h | 9, h | 10, h | 11, h => exact h
 | _ + 12, _ => exact trivial
set_option maxHeartbeats 3000000 in
theorem compact_any (l : List It) (b cap : Nat) (w : World) (h : Row w b l) (hcap : l.length ≤ cap) (hl : l.length ≤ 100000) :
  Calls Try.prog 46 #[.slice (some ⟨b, 0, none⟩) l.length cap, .func (.func 47) #[] #[]] w fun e w' => e = .returned (.slice (some ⟨b, 0, none⟩) (cpt l).length cap) ∧ (∃ ms, Cells w' b 60 (flat (cpt l) ++ ms)) ∧ Only (fun j => j = b) w w' := by
 have HR := Lib.hid h
 obtain ⟨N, hN⟩ : ∃ N, l.length = N := ⟨_, rfl⟩
 have HN := Lib.hid hN
 rw [hN] at hl hcap ⊢
 obtain ⟨K, hK⟩ : ∃ K, (cpt l).length = K := ⟨_, rfl⟩
 have HK := Lib.hid hK
 rw [hK]
 clear h hN hK
 by_cases hlt1 : N < 2
 ·have HE : Hid (cpt l = l ∧ K = N) := Lib.hid (by
   have e := cpt_one (l := l) (by have := HN.out; omega)
   exact ⟨e, by rw [← HK.out, e, HN.out]⟩)
  go_enter Try.func46, Try.ntmps46
  go_wp2_with fail
  go_returns
  exact ⟨by rw [HE.out.2]; rfl, ⟨[], by rw [HE.out.1, List.append_nil]; exact HR.out⟩, Only.refl _ _⟩
 go_enter Try.func46, Try.ntmps46
 go_wp2_with fail
 go_loopw [5, 6, 7] (fun i _ _ wr => ∃ u : Nat, u ≤ N ∧ 1 ≤ u ∧ i = .int .i64 (u : Int) ∧ Hid (cpt (l.take u) = l.take u) ∧ Hid (Below w.heap.size w wr)) (fun i _ _ _ => N - (intOf i).toNat)
 case atStart => exact ⟨1, by omega, by omega, rfl, Lib.hid (cpt_one (by rw [List.length_take]; omega)), Lib.hid (Below.refl _ _)⟩
 case round =>
  obtain ⟨u, hu, hu1, rfl, HP, HB⟩ := hrel
  by_cases hlt : u < N
  ·obtain ⟨v, hv⟩ : ∃ v, v = u - 1 := ⟨_, rfl⟩
   have hlu : u < l.length := by have := HN.out; omega
   have hlv : v < l.length := by omega
   obtain ⟨x, hx⟩ : ∃ x, l[u] = x := ⟨_, rfl⟩
   obtain ⟨y, hy⟩ : ∃ y, l[v] = y := ⟨_, rfl⟩
   have HX : Hid (l[u]? = some x) := Lib.hid (by rw [List.getElem?_eq_getElem hlu, hx])
   have HY : Hid (l[v]? = some y) := Lib.hid (by rw [List.getElem?_eq_getElem hlv, hy])
   have HCS : Hid (cpt (l.take (u + 1)) = if x.cell = y.cell then cpt (l.take u) else cpt (l.take u) ++ [x]) := Lib.hid (by
    have e := cpt_snoc hlu (by omega)
    simp only [hx, show l[u - 1]'(by omega) = y by rw [← hy]; congr 1; exact hv.symm] at e
    exact e)
   have HTK : Hid (l.take (u + 1) = l.take u ++ [x]) := Lib.hid (by rw [List.take_succ_eq_append_getElem hlu, hx])
   have HUN : Hid (u < N) := Lib.hid hlt
   have HVN : Hid (v < N) := Lib.hid (by omega)
   have HWV : Hid (IntKind.i64.wrap ((u : Int) - 1) = (v : Int)) := Lib.hid (by rw [hv, Int.natCast_sub (by omega)]; exact IntWalk.i64_in _ (by omega))
   have HROW : Hid (Row wr b l) := Lib.hid (HR.out.later HB.out)
   have HUV : Hid (v = u - 1) := Lib.hid hv
   clear hv hlu hlv hx hy
   go_wp2_with fail
   refine Reg.region_heavy (by kernel_rfl) 10 [10] (cpA b N cap u v x y) (fun a => Below wr.heap.size wr a) (fun a => Below wr.heap.size wr a) (fun V => [(some 18, V 0), (some 19, V 1), (some 20, V 2), (some 21, V 3), (some 22, V 4), (some 23, V 5), (some 24, V 6), (some 25, V 7), (some 26, V 8), (some 27, V 9), (some 28, V 10)]) (by kernel_rfl) (by kernel_rfl) (by kernel_rfl) (fun V => rfl) ?_ ?_ ?_
   ·exact (Below.refl _ _).drew
   ·intro i o ho
    have hi : i < 11 := (Array.getElem?_eq_some_iff.1 ho).1
    rcases i with _ | _ | _ | _ | _ | _ | _ | _ | _ | _ | _ | i
    rotate_right
    ·omega
    all_goals obtain rfl := Option.some.inj ho
    all_goals intro ρ wi hE hI hs hd
    all_goals try dsimp only at hI
    ·have e1 : ρ (.tmp 1) = .func (.func 47) #[] #[] := hs 1; exact Reg.gw hI
    ·have e0 : ρ (.tmp 0) = .slice (some ⟨b, 0, none⟩) N cap := hs 0; exact Reg.gw hI
    ·have e5 : ρ (.tmp 5) = .int .i64 (u : Int) := hs 5; exact Reg.gw hI
    ·obtain ⟨_, rfl, e19⟩ := hd 1 19; obtain ⟨_, rfl, e20⟩ := hd 2 20; have hx1 := HUN.out; exact Reg.gw hI
    ·obtain ⟨_, rfl, e21⟩ := hd 3 21; have hit := (HROW.out.later hI).item HX.out; have c0 := hit.cell; have c1 := hit.version; have c2 := hit.value; have c3 := hit.write; have c4 := hit.new; exact Reg.gw hI
    ·have e0 : ρ (.tmp 0) = .slice (some ⟨b, 0, none⟩) N cap := hs 0; exact Reg.gw hI
    ·have e5 : ρ (.tmp 5) = .int .i64 (u : Int) := hs 5; exact Reg.gw hI
    ·obtain ⟨_, rfl, e24⟩ := hd 6 24; have hc := hE.const; have hx1 := HWV.out; exact Reg.gw hI
    ·obtain ⟨_, rfl, e23⟩ := hd 5 23; obtain ⟨_, rfl, e25⟩ := hd 7 25; have hx1 := HVN.out; exact Reg.gw hI
    ·obtain ⟨_, rfl, e26⟩ := hd 8 26; have hit := (HROW.out.later hI).item HY.out; have c0 := hit.cell; have c1 := hit.version; have c2 := hit.value; have c3 := hit.write; have c4 := hit.new; exact Reg.gw hI
    ·obtain ⟨_, rfl, e18⟩ := hd 0 18; obtain ⟨_, rfl, e22⟩ := hd 4 22; obtain ⟨_, rfl, e27⟩ := hd 9 27
     refine Reg.Gives.call (f := 47) (args := #[.agg #[.int .i64 x.cell, .int .i64 x.version, .int .i64 x.value, .bool x.write, .int .i64 x.new], .agg #[.int .i64 y.cell, .int .i64 y.version, .int .i64 y.value, .bool y.write, .int .i64 y.new]]) (w' := wi) (by go_simp) ?_
     refine (eq_any x y wi).mono ?_
     rintro e w'' ⟨rfl, hbb⟩
     exact ⟨_, rfl, ⟨rfl, hI.trans (hbb.mono hI.size), fun j u _ _ h => cpA_later hbb h⟩⟩
   ·intro V w1 hV hI
    have hV10 : V 10 = .bool (x.cell == y.cell) := hV 10 (by decide) rfl
    simp only [Reg.putsO, List.foldl_cons, List.foldl_nil, Act.put, List.setIfInBounds_toArray, List.set_cons_succ, List.set_cons_zero, hV10]
    replace hI : (fun a => Below wr.heap.size wr a) w1 := hI
    clear hV hV10
    have HB1 := Lib.hid (HB.out.trans (hI.mono HB.out.size))
    clear hI
    by_cases hxy : x.cell = y.cell
    ·have e1 : (x.cell == y.cell) = true := by simpa using hxy
     have HCU : Hid (cpt (l.take (u + 1)) = l.take u) := Lib.hid (by rw [HCS.out, if_pos hxy, HP.out])
     rw [e1]
     obtain ⟨M, hM⟩ : ∃ M, M = N - u := ⟨_, rfl⟩
     obtain ⟨cM, hcM⟩ : ∃ cM, cM = cap - u := ⟨_, rfl⟩
     have hM1 : M + u ≤ N := by omega
     have hM2 : N ≤ M + u := by omega
     have hcM2 : M ≤ cM := by omega
     have HR1 : Hid (Row w1 b l) := Lib.hid (HR.out.later HB1.out)
     have HON1 : Hid (Only (fun j => j = b) w w1) := Lib.hid (Only.of_below HB1.out)
     clear hxy e1 HCS HTK HX HY HROW HUN HVN HWV HUV HB
     obtain ⟨i0, hi0⟩ : ∃ i0, i0 = u := ⟨u, rfl⟩
     subst hi0
     go_wp2_with fail
     rw [← hM, ← hcM]
     clear hM hcM
     go_loopw [5, 7] (fun i i2 wr => ∃ (q u : Nat) (cur : List It), i = .int .i64 (q : Int) ∧ i2 = .int .i64 (u : Int) ∧ 1 ≤ u ∧ u ≤ M ∧ q + 1 ≤ i0 + u ∧ Hid (cur.length = N ∧ cur.take q = cpt (l.take (i0 + u)) ∧ cur.drop (i0 + u - 1) = l.drop (i0 + u - 1)) ∧ Hid (Row wr b cur) ∧ Hid (Only (fun j => j = b) w wr)) (fun _ i2 _ => M - (intOf i2).toNat)
     case atStart => exact ⟨i0, 1, l, rfl, rfl, by omega, by omega, by omega, Lib.hid ⟨HN.out, HCU.out.symm, rfl⟩, HR1, HON1⟩
     case round =>
      obtain ⟨q, u, cur, rfl, rfl, hu1', huM, hqu, HC, HRW, HON⟩ := hrel
      by_cases hltM : u < M
      ·obtain ⟨v, hv⟩ : ∃ v, v = u - 1 := ⟨_, rfl⟩
       have hlu : i0 + u < l.length := by have := HN.out; omega
       have hlv : i0 + v < l.length := by omega
       obtain ⟨x, hx⟩ : ∃ x, l[i0 + u] = x := ⟨_, rfl⟩
       obtain ⟨y, hy⟩ : ∃ y, l[i0 + v] = y := ⟨_, rfl⟩
       have hcx : cur[i0 + u]? = some x := by
        have e := congrArg (fun m => m[1]?) HC.out.2.2
        simp only [List.getElem?_drop] at e
        rw [show i0 + u - 1 + 1 = i0 + u by omega, List.getElem?_eq_getElem hlu, hx] at e
        exact e
       have hcy : cur[i0 + v]? = some y := by
        have e := congrArg (fun m => m[0]?) HC.out.2.2
        simp only [List.getElem?_drop] at e
        rw [show i0 + u - 1 + 0 = i0 + v by omega, List.getElem?_eq_getElem hlv, hy] at e
        exact e
       have HX : Hid (∀ wi, Below wr.heap.size wr wi → ItAt wi b (i0 * 5 + u * 5) x) := Lib.hid (fun wi hb => by rw [← Nat.add_mul]; exact (HRW.out.later hb).item hcx)
       have HY : Hid (∀ wi, Below wr.heap.size wr wi → ItAt wi b (i0 * 5 + v * 5) y) := Lib.hid (fun wi hb => by rw [← Nat.add_mul]; exact (HRW.out.later hb).item hcy)
       have HCS : Hid (cpt (l.take (i0 + u + 1)) = if x.cell = y.cell then cpt (l.take (i0 + u)) else cpt (l.take (i0 + u)) ++ [x]) := Lib.hid (by
        have e := cpt_snoc hlu (by omega)
        simp only [hx, show l[i0 + u - 1]'(by omega) = y by rw [← hy]; congr 1; omega] at e
        exact e)
       have HDR : Hid (cur.drop (i0 + u) = l.drop (i0 + u)) := Lib.hid (by
        have e := congrArg (fun m => m.drop 1) HC.out.2.2
        simp only [List.drop_drop] at e
        rw [show i0 + u - 1 + 1 = i0 + u by omega] at e
        exact e)
       have HUN : Hid (u < M) := Lib.hid hltM
       have HVN : Hid (v < M) := Lib.hid (by omega)
       have HWV : Hid (IntKind.i64.wrap ((u : Int) - 1) = (v : Int)) := Lib.hid (by rw [hv, Int.natCast_sub (by omega)]; exact IntWalk.i64_in _ (by omega))
       clear hv hlu hlv hx hy hcx hcy
       go_wp2_with fail
       refine Reg.region_heavy (by kernel_rfl) 11 [11] (cpB b cM i0 M u v x y) (fun a => Below wr.heap.size wr a) (fun a => Below wr.heap.size wr a) (fun V => [(some 38, V 0), (some 39, V 1), (some 40, V 2), (some 41, V 3), (some 42, V 4), (some 43, V 5), (some 44, V 6), (some 45, V 7), (some 46, V 8), (some 47, V 9), (some 48, V 10), (some 49, V 11)]) (by kernel_rfl) (by kernel_rfl) (by kernel_rfl) (fun V => rfl) ?_ ?_ ?_
       ·exact (Below.refl _ _).drew
       ·intro i o ho
        have hi : i < 12 := (Array.getElem?_eq_some_iff.1 ho).1
        rcases i with _ | _ | _ | _ | _ | _ | _ | _ | _ | _ | _ | _ | i
        rotate_right
        ·omega
        all_goals obtain rfl := Option.some.inj ho
        all_goals intro ρ wi hE hI hs hd
        all_goals try dsimp only at hI
        ·have e1 : ρ (.tmp 1) = .func (.func 47) #[] #[] := hs 1; exact Reg.gw hI
        ·have e6 : ρ (.tmp 6) = .slice (some ⟨b, i0 * 5, none⟩) M cM := hs 6; exact Reg.gw hI
        ·have e7 : ρ (.tmp 7) = .int .i64 (u : Int) := hs 7; exact Reg.gw hI
        ·obtain ⟨_, rfl, e39⟩ := hd 1 39; obtain ⟨_, rfl, e40⟩ := hd 2 40; have hx1 := HUN.out; exact Reg.gw hI
        ·obtain ⟨_, rfl, e41⟩ := hd 3 41; have hit := HX.out wi hI; have c0 := hit.cell; have c1 := hit.version; have c2 := hit.value; have c3 := hit.write; have c4 := hit.new; exact Reg.gw hI
        ·have e6 : ρ (.tmp 6) = .slice (some ⟨b, i0 * 5, none⟩) M cM := hs 6; exact Reg.gw hI
        ·have e7 : ρ (.tmp 7) = .int .i64 (u : Int) := hs 7; exact Reg.gw hI
        ·obtain ⟨_, rfl, e44⟩ := hd 6 44; have hc := hE.const; have hx1 := HWV.out; exact Reg.gw hI
        ·obtain ⟨_, rfl, e43⟩ := hd 5 43; obtain ⟨_, rfl, e45⟩ := hd 7 45; have hx1 := HVN.out; exact Reg.gw hI
        ·obtain ⟨_, rfl, e46⟩ := hd 8 46; have hit := HY.out wi hI; have c0 := hit.cell; have c1 := hit.version; have c2 := hit.value; have c3 := hit.write; have c4 := hit.new; exact Reg.gw hI
        ·obtain ⟨_, rfl, e38⟩ := hd 0 38; obtain ⟨_, rfl, e42⟩ := hd 4 42; obtain ⟨_, rfl, e47⟩ := hd 9 47
         refine Reg.Gives.call (f := 47) (args := #[.agg #[.int .i64 x.cell, .int .i64 x.version, .int .i64 x.value, .bool x.write, .int .i64 x.new], .agg #[.int .i64 y.cell, .int .i64 y.version, .int .i64 y.value, .bool y.write, .int .i64 y.new]]) (w' := wi) (by go_simp) ?_
         refine (eq_any x y wi).mono ?_
         rintro e w'' ⟨rfl, hbb⟩
         exact ⟨_, rfl, ⟨rfl, hI.trans (hbb.mono hI.size), fun j u _ _ h => cpB_later hbb h⟩⟩
        ·obtain ⟨_, rfl, e48⟩ := hd 10 48; exact Reg.gw hI
       ·intro V w2 hV hI
        have hV11 : V 11 = .bool (!(x.cell == y.cell)) := hV 11 (by decide) rfl
        simp only [Reg.putsO, List.foldl_cons, List.foldl_nil, Act.put, List.setIfInBounds_toArray, List.set_cons_succ, List.set_cons_zero, hV11]
        replace hI : (fun a => Below wr.heap.size wr a) w2 := hI
        clear hV hV11
        have hbI := hI
        have HRW2 := Lib.hid (HRW.out.later hbI)
        have HON2 := Lib.hid (HON.out.trans (S' := fun _ => False) (Only.of_below hbI) fun _ _ e => e.elim)
        have hit := HX.out w2 hbI
        clear hI hbI
        by_cases hxy : x.cell = y.cell
        ·have e1 : (x.cell == y.cell) = true := by simpa using hxy
         have HC2 : Hid (cur.length = N ∧ cur.take q = cpt (l.take (i0 + (u + 1))) ∧ cur.drop (i0 + (u + 1) - 1) = l.drop (i0 + (u + 1) - 1)) := Lib.hid (by
          refine ⟨HC.out.1, ?_, ?_⟩
          ·rw [HC.out.2.1, ← Nat.add_assoc, HCS.out, if_pos hxy]
          ·rw [show i0 + (u + 1) - 1 = i0 + u by omega]; exact HDR.out)
         rw [e1]
         clear hxy e1 hit HCS HC HX HY
         go_wp2_with fail
         go_roundw
         case rel => exact ⟨q, u + 1, cur, rfl, by go_num, by omega, by omega, by omega, HC2, HRW2, HON2⟩
         case measure => simp [intOf]; omega
        ·have e1 : (x.cell == y.cell) = false := by simpa using hxy
         have hqN : q < N := by omega
         have hqc : q < cur.length := by have := HC.out.1; omega
         have HC2 : Hid ((cur.set q x).length = N ∧ (cur.set q x).take (q + 1) = cpt (l.take (i0 + (u + 1))) ∧ (cur.set q x).drop (i0 + (u + 1) - 1) = l.drop (i0 + (u + 1) - 1)) := Lib.hid (by
          refine ⟨by rw [List.length_set]; exact HC.out.1, ?_, ?_⟩
          ·rw [← Nat.add_assoc, HCS.out, if_neg hxy, ← HC.out.2.1, List.take_succ_eq_append_getElem (by rw [List.length_set]; exact hqc), List.take_set_of_le (Nat.le_refl _)]
           simp
          ·rw [show i0 + (u + 1) - 1 = i0 + u by omega, List.drop_set_of_lt (by omega)]; exact HDR.out)
         have c0 := hit.cell
         have c1 := hit.version
         have c2 := hit.value
         have c3 := hit.write
         have c4 := hit.new
         have hol := HRW2.out.at_ hqc
         obtain ⟨z, hz⟩ : ∃ z, cur[q] = z := ⟨_, rfl⟩
         rw [hz] at hol
         have z0 := hol.cell
         have z1 := hol.version
         have z2 := hol.value
         have z3 := hol.write
         have z4 := hol.new
         have f0 : w2.frozen? ⟨b, q * 5, none⟩ = false := HRW2.out.frozen hqc 0 (by decide)
         have f1 : w2.frozen? ⟨b, q * 5 + 1, none⟩ = false := HRW2.out.frozen hqc 1 (by decide)
         have f2 : w2.frozen? ⟨b, q * 5 + 2, none⟩ = false := HRW2.out.frozen hqc 2 (by decide)
         have f3 : w2.frozen? ⟨b, q * 5 + 3, none⟩ = false := HRW2.out.frozen hqc 3 (by decide)
         have f4 : w2.frozen? ⟨b, q * 5 + 4, none⟩ = false := HRW2.out.frozen hqc 4 (by decide)
         have HP2 := Lib.hid (HRW2.out.put hqc x)
         have HO2 := Lib.hid (HON2.out.trans (put5_only w2 b (q * 5) x) fun _ _ e => e)
         rw [e1]
         clear hxy e1 hit hol hz hqc HCS HC HX HY
         go_wp2_with fail
         go_roundw
         case rel => exact ⟨q + 1, u + 1, cur.set q x, by go_num, by go_num, by omega, by omega, by omega, HC2, Lib.hid HP2.out, Lib.hid HO2.out⟩
         case measure => simp [intOf]; omega
      ·obtain rfl : u = M := by omega
       have HQ : Hid (cur.take q = cpt l ∧ K = q ∧ q ≤ N) := Lib.hid (by
        have e := HC.out.2.1
        rw [show l.take (i0 + u) = l from List.take_of_length_le (by have := HN.out; omega)] at e
        have hq : q ≤ cur.length := by have := HC.out.1; omega
        exact ⟨e, by rw [← HK.out, ← e, List.length_take]; omega, by have := HC.out.1; omega⟩)
       have hqN : q ≤ N := HQ.out.2.2
       have HCE := Lib.hid (show Cells wr b 60 (flat cur) from HRW.out)
       have HFL : Hid ((flat cur).length = N * 5) := Lib.hid (by rw [flat_len, HC.out.1])
       obtain ⟨zs, hzs⟩ : ∃ zs, (Builtin.zeroCells (Value.agg #[.int .i64 0, .int .i64 0, .int .i64 0, .bool false, .int .i64 0]).cells (N - q)).toList = zs := ⟨_, rfl⟩
       have HZL : Hid (zs.length = (N - q) * 5) := Lib.hid (by rw [← hzs, Array.length_toList, size_zeroCells]; rfl)
       obtain ⟨wz, hwz⟩ : ∃ wz, wz = wr.setCells b (q * 5) zs := ⟨_, rfl⟩
       have HPUT := Lib.hid (Cells.put_at zs (q * 5) HCE.out (by have h1 := HFL.out; have h2 := HZL.out; omega))
       rw [← hwz] at HPUT
       have hcl : ∀ ty, (Builtin.clear_ #[49] ty #[.slice (some ⟨b, q * 5, none⟩) (N - q) (cap - q)]).run Try.prog wr = .ok (.tuple #[]) wz := fun ty => by
        obtain ⟨w', h1, h2⟩ := run_clear_items wr ty b (q * 5) (N - q) (cap - q) (fun j hj => ⟨by rw [HCE.out.cell (List.getElem?_eq_getElem (by have h3 := HFL.out; omega))]; rfl, HCE.out.frozen (by have h3 := HFL.out; omega)⟩)
        rw [hwz, ← hzs, ← h2]
        exact h1
       have HFT : Hid (∃ ms, Cells wz b 60 (flat (cpt l) ++ ms)) := Lib.hid (by
        refine ⟨zs ++ (flat cur).drop (q * 5 + zs.length), ?_⟩
        have h1 := HPUT.out.1
        have e : (flat cur).take (q * 5) = flat (cpt l) := by
         have h2 : flat cur = flat (cur.take q) ++ flat (cur.drop q) := by rw [← flat_app, List.take_append_drop]
         rw [h2, List.take_left' (by rw [flat_len, List.length_take]; have := HC.out.1; omega), HQ.out.1]
        rw [e] at h1
        exact h1)
       have HON2 := Lib.hid (HON.out.trans HPUT.out.2 fun _ _ e => e)
       clear hzs hwz HPUT HC HRW
       go_wp2_with fail
       go_returns
       exact ⟨by rw [HQ.out.2.1]; rfl, HFT.out, HON2.out⟩
    ·have e1 : (x.cell == y.cell) = false := by simpa using hxy
     have HCU : Hid (cpt (l.take (u + 1)) = l.take (u + 1)) := Lib.hid (by rw [HCS.out, if_neg hxy, HP.out, HTK.out])
     rw [e1]
     clear hxy e1 HCS HTK HX HY HROW
     go_wp2_with fail
     go_roundw
     case rel => exact ⟨u + 1, by omega, by omega, by go_num, HCU, HB1⟩
     case measure => simp [intOf]; omega
  ·obtain rfl : u = N := by omega
   have HE : Hid (cpt l = l ∧ K = u) := Lib.hid (by
    have e := HP.out
    rw [List.take_of_length_le (by have := HN.out; omega)] at e
    exact ⟨e, by rw [← HK.out, e, HN.out]⟩)
   clear HP
   go_wp2_with fail
   go_returns
   exact ⟨by rw [HE.out.2]; rfl, ⟨[], by rw [HE.out.1, List.append_nil]; exact HR.out.later HB.out⟩, Only.of_below HB.out⟩
end Go.Proofs.Ytjeogeablbkhgaa.Item
