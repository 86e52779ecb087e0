/-
  Layer 16's laws: the arrows of all nodes in a row; grow, leads, the document's example. Conditions: none.
-/
import Derived.Test.YteieehlllfnmcaaArr2
import Derived.Test.YteieehlllfnmcaaArrM
import Derived.Laws.OwnMore
namespace Go.Proofs.Yteieehlllfnmcaa.Arr
set_option maxRecDepth 100000
open Go.RowKit Go.Deep Go.Proofs.Yteieehlllfnmcaa.Mem Go.Proofs.Yteieehlllfnmcaa.Spn

def arT (n : Nat) (T : Nat → Nat) (v : Nat) : Ar := if v = 0 then ⟨0, 0, 0⟩ else ⟨v, n, T v⟩
def tl (n : Nat) (T : Nat → Nat) : List Ar := (List.range (n + 1)).map (arT n T)
theorem tl_len (n : Nat) (T : Nat → Nat) : (tl n T).length = n + 1 := by unfold tl; simp
theorem tl_get (n : Nat) (T : Nat → Nat) (i : Nat) : (tl n T)[i]? = if i < n + 1 then some (arT n T i) else none := by
  unfold tl
  rw [List.getElem?_map]
  by_cases h : i < n + 1
  · rw [if_pos h, List.getElem?_range h]; rfl
  · rw [if_neg h, List.getElem?_eq_none (by rw [List.length_range]; omega)]; rfl
theorem tl_at {n v : Nat} (T : Nat → Nat) (h1 : 1 ≤ v) (h : v < (tl n T).length) : (tl n T)[v] = ⟨v, n, T v⟩ := by
  have h2 := tl_get n T v
  rw [if_pos (by rw [tl_len] at h; exact h), List.getElem?_eq_getElem h] at h2
  rw [Option.some.inj h2]
  unfold arT
  rw [if_neg (by omega)]
theorem tl_set {n v : Nat} (T : Nat → Nat) (h1 : 1 ≤ v) (h2 : v ≤ n) (x : Nat) : (tl n T).set v ⟨v, n, x⟩ = tl n (upd T v x) := by
  apply List.ext_getElem?
  intro i
  rw [List.getElem?_set, tl_get, tl_get, tl_len]
  by_cases e : v = i
  · subst e
    rw [if_pos rfl, if_pos (by omega), if_pos (by omega)]
    unfold arT
    rw [if_neg (by omega), upd_self]
  · rw [if_neg e]
    unfold arT
    rw [upd_ne _ _ (fun e2 => e e2.symm)]
def Rw (B : Nat) (w : World) (V : Option Addr) (vc n : Nat) (T : Nat → Nat) : Prop := OwnG 51 3 Ar.vals B w (.slice V (n + 1) vc) (tl n T)
section
variable {B vc n v : Nat} {w w1 : World} {V : Option Addr} {T : Nat → Nat}
theorem Rw.later (h : Rw B w V vc n T) (hb : Below w.heap.size w w1) : Rw B w1 V vc n T := OwnG.later h hb
theorem Rw.only {S : Nat → Prop} (h : Rw B w V vc n T) (ho : Only S w w1) (h2 : ∀ k, blk V = some k → ¬ S k) : Rw B w1 V vc n T := row_only h ho fun k e => h2 k (by rw [← e, own_blk])
theorem Rw.low (h : Rw B w V vc n T) : ∃ g, V = some ⟨g, 0, none⟩ ∧ B ≤ g ∧ g < w.heap.size := by
  obtain ⟨g, e, hc⟩ := OwnG.elem fit_ar h (k := 0) (by rw [tl_len]; omega)
  subst e
  exact ⟨g, rfl, (World.ownsRow.lt (by exact h) g rfl)⟩
theorem Rw.elem {g : Nat} (h : Rw B w (some ⟨g, 0, none⟩) vc n T) (h1 : 1 ≤ v) (h2 : v ≤ n) : CellsO w g (v * 3) (Ar.vals ⟨v, n, T v⟩) := by
  have hv : v < (tl n T).length := by rw [tl_len]; omega
  obtain ⟨g2, e, hc⟩ := OwnG.elem fit_ar h hv
  obtain rfl : g = g2 := by simpa using e
  rw [tl_at T h1 hv] at hc
  exact hc
theorem Rw.turn {g : Nat} (h : Rw B w (some ⟨g, 0, none⟩) vc n T) (hb : Below w.heap.size w w1) (h1 : 1 ≤ v) (h2 : v ≤ n) (x : Nat) :
    Rw B (w1.setCell ⟨g, v * 3 + 2, none⟩ (.int .i64 (x : Int))) (some ⟨g, 0, none⟩) vc n (upd T v x) ∧ Only (fun j => j = g) w (w1.setCell ⟨g, v * 3 + 2, none⟩ (.int .i64 (x : Int))) := by
  have hv : v < (tl n T).length := by rw [tl_len]; omega
  refine ⟨?_, (Only.of_below hb).trans (Only.of_set w1 ⟨g, v * 3 + 2, none⟩ _) fun _ _ e => e⟩
  have := OwnG.setC fit_ar (h.later hb) (j := 2) (u := .int .i64 (x : Int)) hv (by omega) rfl (x := ⟨v, n, x⟩) (by rw [tl_at T h1 hv]; rfl)
  rw [tl_set T h1 h2] at this
  exact this
theorem ar_home {v n t : Nat} : homeB ⟨v, n, t⟩ = decide (t = v) := by
  unfold homeB
  by_cases h : t = v
  · subst h; simp
  · rw [decide_eq_false h]
    simp only [beq_eq_false_iff_ne]
    omega
theorem ar_on {v n t : Nat} : onI ⟨v, n, t⟩ = ((if t = v then 0 else t : Nat) : Int) := by
  unfold onI
  rw [ar_home]
  by_cases h : t = v
  · simp [h]
  · simp [h]
theorem tWant {g : Nat} (h : Rw B w (some ⟨g, 0, none⟩) vc n T) (h1 : 1 ≤ v) (h2 : v ≤ n) :
    Calls Try.prog 17 #[.pointer (some ⟨g, v * 3, none⟩)] w fun e w' => e = .returned (.tuple #[.int .i64 ((if T v = v then 0 else T v : Nat) : Int), .bool (!decide (T v = v))]) ∧ Rw B w' (some ⟨g, 0, none⟩) vc n (upd T v v) ∧ Only (fun j => j = g) w w' := by
  refine (Want_any (h.elem h1 h2)).mono ?_
  rintro e w' ⟨rfl, m, rfl⟩
  rw [ar_home, ar_on]
  exact ⟨rfl, h.turn (below_drew w m) h1 h2 v⟩
theorem tFind {g u : Nat} (h : Rw B w (some ⟨g, 0, none⟩) vc n T) (hn : n ≤ 16) (h1 : 1 ≤ v) (h2 : v ≤ n) (h3 : 1 ≤ u) (h4 : u ≤ n) (he : edgeB v u = true) :
    Calls Try.prog 18 #[.pointer (some ⟨g, v * 3, none⟩), .int .i64 (u : Int)] w fun e w' => e = .returned (.tuple #[.int .i64 ((if T v = v then 0 else T v : Nat) : Int), .bool (decide (T v = v)), .int .i64 0]) ∧ Rw B w' (some ⟨g, 0, none⟩) vc n (upd T v u) ∧ Only (fun j => j = g) w w' := by
  have hed : edgeI (v : Int) (u : Int) (n : Int) = true := by
    unfold edgeI
    rw [Bool.and_eq_true]
    exact ⟨decide_eq_true (by omega), by rw [Int.toNat_natCast, Int.toNat_natCast]; exact he⟩
  refine (Find_any (h.elem h1 h2) (u : Int)).mono ?_
  rintro e w' (⟨_, rfl, w1, hb, rfl⟩ | ⟨e2, _⟩)
  · rw [ar_home, ar_on]
    exact ⟨rfl, h.turn hb h1 h2 u⟩
  · rw [hed] at e2
    cases e2
theorem tHome {g : Nat} (h : Rw B w (some ⟨g, 0, none⟩) vc n T) (h1 : 1 ≤ v) (h2 : v ≤ n) :
    Calls Try.prog 20 #[.pointer (some ⟨g, v * 3, none⟩)] w fun e w' => e = .returned (.bool (decide (T v = v))) ∧ ∃ m, w' = w.drewN m := by
  refine (Home_any (h.elem h1 h2)).mono ?_
  rintro e w' ⟨rfl, m, rfl⟩
  rw [ar_home]
  exact ⟨rfl, m, rfl⟩
end
/-- The arrow of node v of n that leads to o. -/
theorem newAr_nx {n v o : Nat} (hn : n ≤ 16) (h1 : 1 ≤ v) (h2 : v ≤ n) (h3 : 1 ≤ o) (h4 : o ≤ n) : newAr (v : Int) (n : Int) (o : Int) = some ⟨v, n, nx v o⟩ := by
  have hp : pathI (v : Int) (o : Int) (n : Int) = pathL v o := by
    unfold pathI
    rw [if_pos (by rw [Bool.and_eq_true]; exact ⟨decide_eq_true (by omega), decide_eq_true (by omega)⟩), Int.toNat_natCast, Int.toNat_natCast]
  have ht : towI (v : Int) (pathI (v : Int) (o : Int) (n : Int)) = (nx v o : Int) := by
    rw [hp]
    unfold nx
    by_cases e : v = o
    · subst e
      rw [if_pos rfl, pathL_self]
      rfl
    · rw [if_neg e]
      have hab := AB.of h1 (show v ≤ 16 by omega) h3 (show o ≤ 16 by omega)
      obtain ⟨e1, e2, e3, e4, e5⟩ := hab.next e
      rw [e1, ← pathL_head e4 (by omega) h3 (by omega)]
      rfl
  unfold newAr
  rw [ht, if_neg (by have := (nx_in hn h1 h2 h3 h4).1; omega)]
theorem tl_take {n k : Nat} {T : Nat → Nat} : (List.range (k + 2)).map (arT n T) = (List.range (k + 1)).map (arT n T) ++ [⟨((k + 1 : Nat) : Int), n, T (k + 1)⟩] := by
  rw [List.range_succ, List.map_append]
  rfl
set_option maxHeartbeats 1000000 in
theorem grow_any (n o : Nat) (hn : n ≤ 16) (h3 : 1 ≤ o) (h4 : o ≤ n) (w : World) : Calls Try.prog 16 #[.int .i64 (n : Int), .int .i64 (o : Int)] w fun e w' => ∃ g vc, e = .returned (.tuple #[.slice (some ⟨g, 0, none⟩) (n + 1) vc, .bool true]) ∧ Rw w.heap.size w' (some ⟨g, 0, none⟩) vc n (fun v => nx v o) ∧ Below w.heap.size w w' := by
  obtain ⟨T, hT⟩ : ∃ T, (fun v => nx v o) = T := ⟨_, rfl⟩
  rw [hT]
  obtain ⟨w0, hw0⟩ : ∃ W, W = w.alloc (.cells #[.int .i64 0, .int .i64 0, .int .i64 0] 51) := ⟨_, rfl⟩
  have hb0 : Below w.heap.size w w0 := by rw [hw0]; exact below_alloc _ _
  have hr0 : OwnG 51 3 Ar.vals w.heap.size w0 (.slice (some ⟨w.heap.size, 0, none⟩) 1 1) ((List.range 1).map (arT n T)) := by
    rw [hw0]
    exact World.ownsRow_lit (base := w.heap.size) (e := 51) (size := 3) w #[.int .i64 0, .int .i64 0, .int .i64 0] 1 (Nat.le_refl _) (by decide) rfl
  have HB0 := Lib.hid hb0
  have HR0 := Lib.hid hr0
  have HNW : Hid (∀ (k : Nat) (wi : World), 1 ≤ k → k ≤ n → Calls Try.prog 21 #[.int .i64 (k : Int), .int .i64 (n : Int), .int .i64 (o : Int)] wi fun e w' => e = .returned (.tuple #[.agg #[.int .i64 (k : Int), .int .i64 (n : Int), .int .i64 (T k : Int)], .int .i64 0]) ∧ Below wi.heap.size wi w') := Lib.hid fun k wi e1 e2 => by
    have h := New_any (k : Int) (n : Int) (o : Int) wi
    rw [newAr_nx hn e1 e2 h3 h4] at h
    rw [← hT]
    exact h
  clear hT h3 h4 hb0 hr0
  obtain ⟨bb, hbb⟩ : ∃ q, w.heap.size = q := ⟨_, rfl⟩
  rw [hbb] at HB0 HR0 ⊢
  have HBZ : Hid (bb ≤ w0.heap.size) := Lib.hid (by rw [← hbb]; exact HB0.out.size)
  go_enter Try.func16, Try.ntmps16
  go_upto_region 2 with (fail)
  rw [← hw0]
  clear hw0 hbb
  go_wp2_with fail
  go_loopw [6, 7] (fun t i wr => ∃ (k : Nat) (V : Option Addr) (vc : Nat), i = .int .i64 ((k + 1 : Nat) : Int) ∧ t = .slice V (k + 1) vc ∧ k ≤ n ∧ Hid (OwnG 51 3 Ar.vals bb wr (.slice V (k + 1) vc) ((List.range (k + 1)).map (arT n T))) ∧ Hid (Below bb w wr) ∧ Hid (bb ≤ wr.heap.size)) (fun _ i _ => n + 1 - (intOf i).toNat)
  case atStart => exact ⟨0, _, 1, by go_num, rfl, Nat.zero_le _, HR0, HB0, HBZ⟩
  case round =>
    obtain ⟨k, V, vc, rfl, rfl, hk, HR, HB, HZ⟩ := hrel
    obtain ⟨i, hi⟩ : ∃ i, k + 1 = i := ⟨_, rfl⟩
    rw [hi] at HR
    rw [hi]
    by_cases hlt : i ≤ n
    · have hi1 : 1 ≤ i := by omega
      have hd : decide ((i : Int) ≤ (n : Int)) = true := decide_eq_true (by omega)
      have HTT : Hid ((List.range (i + 1)).map (arT n T) = (List.range i).map (arT n T) ++ [⟨(i : Int), n, T i⟩]) := Lib.hid (by rw [← hi]; exact tl_take)
      have HII := Lib.hid hi
      clear hi
      go_wp2_with fail
      refine (HNW.out i wr hi1 hlt).mono ?_
      rintro e w1 ⟨rfl, hb⟩
      obtain ⟨w3, hw3⟩ : ∃ W, W = w1.alloc (.cells #[.int .i64 (i : Int), .int .i64 (n : Int), .int .i64 (T i : Int)] 51) := ⟨_, rfl⟩
      have hb3 : Below w1.heap.size w1 w3 := by rw [hw3]; exact below_alloc _ _
      have hc3 : Cells w3 w1.heap.size 51 [.int .i64 (i : Int), .int .i64 (n : Int), .int .i64 (T i : Int)] := by rw [hw3]; exact cells_new _ _ _ _ rfl
      have hz3 : bb ≤ w3.heap.size := Nat.le_trans HZ.out (Nat.le_trans hb.size hb3.size)
      have hr3 := (HR.out.later hb).later hb3
      obtain ⟨V', n', vc', w', hrun, hrow, hbl⟩ := OwnG.more el_ar fit_ar hr3 ⟨(i : Int), n, T i⟩ #[.int .i64 (i : Int), .int .i64 (n : Int), .int .i64 (T i : Int)] rfl hz3 (by rw [List.length_map, List.length_range]; omega)
      obtain rfl : n' = i + 1 := by have := (OwnG.sl fit_ar hrow).1; rw [List.length_append, List.length_map, List.length_range] at this; exact this
      rw [← HTT.out] at hrow
      have y0 := hc3.cell (j := 0) rfl
      have y1 := hc3.cell (j := 1) rfl
      have y2 := hc3.cell (j := 2) rfl
      have HB3 := Lib.hid (((HB.out.trans (hb.mono HZ.out)).trans (hb3.mono (Nat.le_trans HZ.out hb.size))).trans hbl)
      have HZ3 := Lib.hid (Nat.le_trans hz3 hbl.size)
      have HROW := Lib.hid hrow
      have HRUN := Lib.hid hrun
      have hin : i ≤ 16 := by omega
      clear hb hb3 hc3 hz3 hr3 hrun hrow hbl HR HTT HB HZ
      go_upto_region 8 with (fail)
      rw [← hw3]
      clear hw3
      go_wp2_with (at_builtin
                   refine Lib.wpList_append_run _ rfl _ _ 48 48 rfl _ _ rfl rfl _ _ HRUN.out ?_)
      go_roundw
      case rel => exact ⟨i, V', vc', by go_num, rfl, hlt, HROW, HB3, HZ3⟩
      case measure => simp [intOf]; omega
    · obtain rfl : k = n := by omega
      subst hi
      have hd : decide (((k + 1 : Nat) : Int) ≤ (k : Int)) = false := decide_eq_false (by omega)
      obtain ⟨g, hg, _⟩ := Rw.low (show Rw bb wr V vc k T from HR.out)
      subst hg
      go_wp2_with fail
      go_returns
      exact ⟨g, vc, rfl, HR.out, HB.out⟩
end Go.Proofs.Yteieehlllfnmcaa.Arr
