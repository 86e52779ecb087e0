/- Part 34 of the proof. Conditions: none. -/
import Derived.Test.YtdkchpiinelmiaaGreatZ33
namespace Go.Proofs.YtdkchpiinelmiaaGreat.Led
set_option maxRecDepth 100000
open Go.RowKit Go.Deep Mem fN Rec
def Bb (node nodes cells : Int) : Rc := ⟨1, ⟨0, 0, 0⟩, [], [], node, nodes, cells, 0, 0, 0, 0, 0, false⟩
def bP (node nodes : Int) (n k : Nat) : List Pl := (List.range n).map fun c => if c < k /\ home (c : Int) nodes = node then ⟨1, 0, 0, 0, 0⟩ else rH
def eA (node nodes : Int) (n : Nat) : St := ⟨node, nodes, n, 0, bP node nodes n n, [], [], []⟩
def cD (node nodes cells : Int) : St × Int := if right (Bb node nodes cells) = false then (vC, 1) else (eA node nodes cells.toNat, 0)
theorem dI (node nodes : Int) (n k : Nat) : (bP node nodes n k).length = n := by unfold bP; simp
theorem wC (node nodes : Int) (n : Nat) : bP node nodes n 0 = List.replicate n rH := by
 unfold bP
 apply List.ext_getElem
 ·simp
 intro i h1 h2
 simp
theorem AK {node nodes : Int} {n k : Nat} (h : k < n) : (bP node nodes n k)[k]? = some rH := by
 unfold bP; rw [List.getElem?_map, List.getElem?_range h]
 simp
theorem fA (node nodes : Int) (n k i : Nat) : (bP node nodes n k)[i]? = if i < n then some (if i < k /\ home (i : Int) nodes = node then ⟨1, 0, 0, 0, 0⟩ else rH) else none := by
 unfold bP; rw [List.getElem?_map]
 by_cases h : i < n
 ·rw [List.getElem?_range h, if_pos h]
  rfl
 rw [List.getElem?_eq_none (by rw [List.length_range]; omega), if_neg h]
 rfl
theorem yV {node nodes : Int} {n k : Nat} (h : k < n) (hh : home (k : Int) nodes = node) : bP node nodes n (k + 1) = (bP node nodes n k).set k ⟨1, 0, 0, 0, 0⟩ := by
 apply List.ext_getElem?
 intro i; rw [fA, List.getElem?_set, fA, dI]
 by_cases e : k = i
 ·subst e
  rw [if_pos rfl, if_pos h, if_pos h, if_pos ⟨Nat.lt_succ_self k, hh⟩]
 have : (i < k + 1) ↔ (i < k) := by omega
 rw [if_neg e]; simp only [this]
theorem AJ {node nodes : Int} {n k : Nat} (hh : ¬ home (k : Int) nodes = node) : bP node nodes n (k + 1) = bP node nodes n k := by
 apply List.ext_getElem?
 intro i; rw [fA, fA]
 by_cases e : i = k
 ·subst e
  by_cases hi : i < n
  ·rw [if_pos hi, if_pos hi, if_neg (fun h => hh h.2), if_neg (fun h => hh h.2)]
  rw [if_neg hi, if_neg hi]
 have : (i < k + 1) ↔ (i < k) := by omega
 simp only [this]
theorem yG {w : World} {B pb p n k : Nat} {L : List Pl} {q : Pl} (h : w.ownsRow B 66 5 (.slice (some ⟨pb, 0, none⟩) n p) n (L.map Pl.vals).flatten) (hq : L[k]? = some q) : w.cell? ⟨pb, k * 5, none⟩ = some (iv q.status) /\ w.frozen? ⟨pb, k * 5, none⟩ = false := by
 obtain ⟨hk, XU⟩ := List.getElem?_eq_some_iff.1 hq; obtain ⟨hc, _⟩ := cR h; have hf := aW (vs := L.map Pl.vals) (sz := 5) (aU _).len; rw [List.length_map] at hf; have hm := Nat.mul_le_mul_right 5 hk; refine ⟨hc.cell ?_, hc.frozen (by omega)⟩; have e := eG (sz := 5) (aU L).len k (by rw [List.length_map]; exact hk) 0 (by decide); rw [Nat.add_zero, List.getElem_map, XU] at e; exact e
theorem yw {r : Rc} (h : right r = true) (hk : r.kind = 1) : 1 <= r.count /\ r.count <= 16 := by
 unfold right at h; simp only [Bool.and_eq_true] at h; have h2 := h.2; rw [hk] at h2; have h3 := List.all_eq_true.1 h2 1 (by decide)
 simp [rf, iP, Rc.get, Rc.jN] at h3
 exact h3
theorem Ah {w : World} {B pb p n k : Nat} {L : List Pl} {q pl : Pl} (h : w.ownsRow B 66 5 (.slice (some ⟨pb, 0, none⟩) n p) n (L.map Pl.vals).flatten) (hn : L.length = n) (hq : L[k]? = some q) (l : List Value) (h1 : ∀ v ∈ l, v.oneCell' = true) (ho : l.length <= 5) (he : over q.vals 0 l = pl.vals) :
  (w.setCells pb (k * 5) l).ownsRow B 66 5 (.slice (some ⟨pb, 0, none⟩) n p) n ((L.set k pl).map Pl.vals).flatten /\ Only (fun k => k = pb) w (w.setCells pb (k * 5) l) := by
 obtain ⟨hk, XU⟩ := List.getElem?_eq_some_iff.1 hq; have hle : k * 5 + l.length <= n * 5 := by have := Nat.mul_le_mul_right 5 (show k + 1 <= n by omega); omega
 obtain ⟨r1, r2, r3⟩ := mo h hle h1; refine ⟨?_, r2⟩; have e : over (L.map Pl.vals).flatten (k * 5) l = ((L.set k pl).map Pl.vals).flatten := by
  rw [List.map_set, <- mq (sz := 5) (aU _).len rfl (by rw [List.length_map]; exact hk), <- he]; have hf := aW (vs := L.map Pl.vals) (sz := 5) (aU _).len; rw [List.length_map] at hf; have hqq : (L.map Pl.vals).flatten.drop (k * 5) = q.vals ++ (L.map Pl.vals).flatten.drop ((k + 1) * 5) := by
   rw [cN (aU _).len k (by rw [List.length_map]; omega), cN (aU _).len (k + 1) (by rw [List.length_map]; omega), List.drop_eq_getElem_cons (by rw [List.length_map]; exact hk), List.getElem_map, List.flatten_cons, XU]
  have hs : (L.map Pl.vals).flatten = (L.map Pl.vals).flatten.take (k * 5) ++ (q.vals ++ (L.map Pl.vals).flatten.drop ((k + 1) * 5)) := by rw [<- hqq, List.take_append_drop]
  have hA : ((L.map Pl.vals).flatten.take (k * 5)).length = k * 5 := by rw [List.length_take]; omega
  generalize (L.map Pl.vals).flatten.take (k * 5) = A at hs hA
  generalize (L.map Pl.vals).flatten.drop ((k + 1) * 5) = Z at hs hqq
  rw [hs, <- hA]; have h0 := jE A q.vals Z 0 l (by show 0 + l.length <= 5; omega)
  rw [Nat.add_zero] at h0; rw [h0, jH A q.vals Z (over q.vals 0 l) (dR (show 0 + l.length <= q.vals.length by show 0 + l.length <= 5; omega))]
 rw [<- e]; exact r1
structure JQ (w wr : World) (node nodes : Int) (n k pb p b8 : Nat) (z : Sy) : Prop where
 row : wr.ownsRow w.heap.size 66 5 (.slice (some ⟨pb, 0, none⟩) n p) n ((bP node nodes n k).map Pl.vals).flatten
 box : Cells wr b8 32 [iv node, iv nodes, iv (n : Int), iv 0, .slice (some ⟨pb, 0, none⟩) n p, .slice z.Q 0 z.q, .slice z.D 0 z.d, .slice z.C 0 z.c]
 res : Cells wr w.heap.size 32 ZL
 low : Below w.heap.size w wr
 far : pb ≠ b8 /\ pb ≠ w.heap.size /\ b8 ≠ w.heap.size /\ w.heap.size <= pb
set_option maxHeartbeats 4000000 in
theorem vA (node nodes cells : Int) (w : World) :
  Calls Tryz.prog 6 #[iv node, iv nodes, iv cells] w fun e w' => (∃ y', e = .returned (.tuple #[(cD node nodes cells).1.val y', iv (cD node nodes cells).2]) /\ Br w.heap.size w' (cD node nodes cells).1 y') /\ Below w.heap.size w w' := by
 obtain ⟨wb, hwb⟩ := aj (w.alloc (.cells #[iv 0, iv 0, iv 0, iv 0, .slice none 0 0, .slice none 0 0, .slice none 0 0, .slice none 0 0] 32)); have hb : Below w.heap.size w wb := by rw [hwb]; exact av _ _
 have hc : Cells wb w.heap.size 32 ZL := by rw [hwb]; exact aB _ _ _ _ rfl
 have HC := ak hc; have HB := ak hb; have iG := ak (cU (Bb node nodes cells) Js wb ⟨qO _ _, ft _ _⟩ (Nat.zero_le _) (Nat.zero_le _)); have I4 : Hid (cD node nodes cells = if right (Bb node nodes cells) = false then (vC, 1) else (eA node nodes cells.toNat, 0)) := ak rfl; obtain ⟨F, hF⟩ := ah (cD node nodes cells); rw [hF] at I4 ⊢; clear hb hc hF
 go_enter Tryz.func6, Tryz.ntmps6
 go_wp2_with fail
 rw [<- hwb]; clear hwb; refine iG.o.mono ?_; rintro e wc ⟨rfl, hI⟩; have l7 := ak (HC.o.later hI); have bZ := ak (HB.o.trans (hI.mono HB.o.size)); clear hI
 cases hr : right (Bb node nodes cells) with
 | false =>
  have bf : Hid (F = (vC, 1)) := ak (by rw [I4.o, if_pos hr]); clear hr
  go_upto_region 2 with (fail)
  apply wp_region_lit
  refine Go.Great.wpList_runTo rfl (some 16) rfl (.agg ZA) wc (by go_simp) ?_; refine aA rfl 32 _ _ rfl w.heap.size ZA ZL rfl rfl rfl l7.o rfl (by kernel_rfl) (by simp [Value.oneCell']) fun w5 hpt hov => ?_
  have bU := ak hpt; have cj := ak hov; clear hpt hov
  go_wp2_with fail
  refine bodyPost_ret (v := .tuple #[.agg ZA, iv 1]) ((aI (p := 6) (q := 7) (ty := 32) (by rfl) _ bU.o _ (by rfl) Tryz.underlying32 rfl (by kernel_rfl)).trans (by rfl)) rfl ?_; rw [bf.o]; exact ⟨⟨_, rfl, fun _ _ => kN _⟩, bZ.o.trans (cj.o.below bZ.o.size fun j e => by rw [e]; exact Nat.le_refl _)⟩
 | true =>
  have hnm := iM hr rfl; have hnd := yw hr rfl; simp only [Bb] at hnm hnd; obtain ⟨n, hn⟩ := Int.eq_ofNat_of_zero_le (show 0 <= cells by omega)
  have bf : Hid (F = (eA node nodes n, 0)) := ak (by rw [I4.o, if_neg (by rw [hr]; decide), hn]; rfl); subst hn; have Gk : n <= 16 := by omega
  have hn1 : 1 <= n := by omega
  have ad9 : nodes <= 16 := hnd.2; clear hr hnm hnd I4
  go_wp2_with fail
  refine (vh node nodes n wc Gk).mono ?_; rintro e w2 ⟨⟨z, rfl, hl⟩, hb2⟩; have HL := ak hl; have mW := ak hb2; clear hl hb2; obtain ⟨pb, hP⟩ : ∃ pb, z.P = some ⟨pb, 0, none⟩ := by
   rcases HL.o.rowP.2 with ⟨_, h2⟩ | ⟨g, cap, cur, e, _⟩
   ·unfold cJ at h2
    rw [List.length_replicate] at h2
    omega
   simp only [Value.slice.injEq] at e
   exact ⟨g, e.1⟩
  obtain ⟨w3, hw3⟩ := aj (w2.alloc (.cells #[iv node, iv nodes, iv (n : Int), iv 0, .slice (some ⟨pb, 0, none⟩) n z.p, .slice z.Q 0 z.q, .slice z.D 0 z.d, .slice z.C 0 z.c] 32)); have HST : Hid (JQ w w3 node nodes n 0 pb z.p w2.heap.size z) := ak (by
   have hb3 : Below w2.heap.size w2 w3 := by rw [hw3]; exact av _ _
   have hrow := HL.o.rowP; have hlt := HL.o.lt (k := pb) (Or.inl (by rw [hP]; rfl)); have hcl := l7.o.lt; have hsz := mW.o.size; refine ⟨?_, by rw [hw3]; exact aB _ _ _ _ rfl, (l7.o.later mW.o).later hb3, bZ.o.trans ((mW.o.trans (hb3.mono hsz)).mono bZ.o.size), by omega, by omega, by omega, by omega⟩; have h9 := cS (Nat.le_of_lt hcl) (aF hrow (Only.of_below (S := fun _ => False) hb3) fun _ _ e => e); rw [hP] at h9; unfold cJ at h9; simp only [List.length_replicate] at h9; rw [wC]; exact h9)
  unfold St.val cJ; simp only [hP, List.length_replicate, List.length_nil]
  go_upto_region 4 with (fail)
  rw [<- hw3]; clear hw3; have q4 := HST.o.box.cell (j := 4) rfl
  go_wp2_with fail
  clear q4; obtain ⟨b8, Jc⟩ := ah w2.heap.size; rw [Jc] at HST; simp only [Jc]; clear Jc
  go_loopw [24] (fun i wr => ∃ k : Nat, k <= n /\ i = iv (k : Int) /\ Hid (JQ w wr node nodes n k pb z.p b8 z)) (fun i _ => n - (intOf i).toNat)
  case atStart => exact ⟨0, Nat.zero_le _, rfl, HST⟩
  case round =>
   obtain ⟨k, hk, rfl, eY⟩ := hrel
   by_cases hlt : k < n
   ·go_wp2_with fail
    refine (yj (k : Int) nodes wr (by omega)).mono ?_; rintro e w4 ⟨rfl, rfl⟩
    by_cases hh : home (k : Int) nodes = node
    ·have HY := ak (yV hlt hh)
     have hat := AK (node := node) (nodes := nodes) hlt; obtain ⟨hp0, hp1⟩ := yG eY.o.row hat; have q4 := eY.o.box.cell (j := 4) rfl; have kj : Hid (JQ w (wr.setCell ⟨pb, k * 5, none⟩ (iv 1)) node nodes n (k + 1) pb z.p b8 z) := ak (by
      obtain ⟨r1, r2⟩ := Ah eY.o.row (dI _ _ _ _) hat [iv 1] (by simp [Value.oneCell']) (by simp) (pl := ⟨1, 0, 0, 0, 0⟩) rfl; have hf := eY.o.far; refine ⟨by rw [HY.o]; exact r1, aJ eY.o.box r2 (fun e => hf.1 e.symm), aJ eY.o.res r2 (fun e => hf.2.1 e.symm), eY.o.low.trans (r2.below eY.o.low.size fun j e => by rw [e]; exact hf.2.2.2), hf⟩)
     simp only [rH] at hp0; clear hat; simp only [hh]; clear hh
     go_wp2_with fail
     go_roundw
     case rel => exact ⟨k + 1, by omega, by go_num, kj⟩
     case measure => simp [intOf]; omega
    have kj : Hid (JQ w wr node nodes n (k + 1) pb z.p b8 z) := ak (by
     have h := eY.o; exact ⟨by rw [AJ hh]; exact h.row, h.box, h.res, h.low, h.far⟩)
    obtain ⟨hv, hhv⟩ := ah (home (k : Int) nodes); rw [hhv] at hh ⊢; clear hhv
    go_wp2_with fail
    go_roundw
    case rel => exact ⟨k + 1, by omega, by go_num, kj⟩
    case measure => simp [intOf]; omega
   obtain rfl : k = n := by omega
   go_upto_region 10 with (fail)
   apply wp_region_lit
   refine aD rfl 32 _ rfl b8 #[iv node, iv nodes, iv (k : Int), iv 0, .slice (some ⟨pb, 0, none⟩) k z.p, .slice z.Q 0 z.q, .slice z.D 0 z.d, .slice z.C 0 z.c] rfl rfl eY.o.box Tryz.underlying32 rfl (by kernel_rfl) ?_; refine aA rfl 32 _ _ rfl w.heap.size #[iv node, iv nodes, iv (k : Int), iv 0, .slice (some ⟨pb, 0, none⟩) k z.p, .slice z.Q 0 z.q, .slice z.D 0 z.d, .slice z.C 0 z.c] [iv node, iv nodes, iv (k : Int), iv 0, .slice (some ⟨pb, 0, none⟩) k z.p, .slice z.Q 0 z.q, .slice z.D 0 z.d, .slice z.C 0 z.c] rfl rfl rfl eY.o.res rfl (by kernel_rfl) (by simp [Value.oneCell']) fun w5 hpt hov => ?_
   have bU := ak hpt; have cj := ak hov; clear hpt hov
   go_wp2_with fail
   refine bodyPost_ret (v := .tuple #[.agg #[iv node, iv nodes, iv (k : Int), iv 0, .slice (some ⟨pb, 0, none⟩) k z.p, .slice z.Q 0 z.q, .slice z.D 0 z.d, .slice z.C 0 z.c], iv 0]) ((aI (p := 6) (q := 7) (ty := 32) (by rfl) _ bU.o _ (by rfl) Tryz.underlying32 rfl (by kernel_rfl)).trans (by rfl)) rfl ?_; rw [bf.o]; refine ⟨⟨⟨some ⟨pb, 0, none⟩, z.p, z.Q, z.q, z.D, z.d, z.C, z.c, [], []⟩, ?_, ?_⟩, eY.o.low.trans (cj.o.below eY.o.low.size fun j e => by rw [e]; exact Nat.le_refl _)⟩
   ·unfold St.val eA
    simp only [dI, List.length_nil]
   intro w6 h6
   have hr5 := aF (aF eY.o.row cj.o fun j e e2 => eY.o.far.2.1 (by rw [aK] at e; exact (Option.some.inj e).trans e2)) h6 fun j e e2 => by
    have hf := eY.o.far.2.2.2; have : pb = j := by rw [aK] at e; exact Option.some.inj e
    omega
   have hs5 := gV (vs := (bP node nodes k k).map Pl.vals) (by rw [List.length_map, dI]; exact hr5) (aU _).len; have hzs := HL.o.sees; exact ⟨hs5.1, gN _ _ _, gN _ _ _, gN _ _ _, rfl, rfl, fun j h => absurd h (by simp [eA]), fun j h => absurd h (by simp [eA]), fun e => (by cases e), hzs.Jz, hzs.JB, hzs.JC⟩
open Go.ChangeShapes Go.WideShapes Go.ChangeAt
theorem Eh : ∃ f0 f1 f2 f3 f4 f5 f6 f7 f8 f9 f10 f11 f12 : Field, Tryz.prog.underlying 51 = some (.struct #[f0, f1, f2, f3, f4, f5, f6, f7, f8, f9, f10, f11, f12]) /\
  (f0.type = 3 /\ f1.type = 47 /\ f2.type = 48 /\ f3.type = 49 /\ f4.type = 3 /\ f5.type = 3 /\ f6.type = 3 /\ f7.type = 3 /\ f8.type = 3 /\ f9.type = 3 /\ f10.type = 3 /\ f11.type = 3 /\ f12.type = 4) /\
  (f0.offset = 0 /\ f1.offset = 1 /\ f2.offset = 4 /\ f3.offset = 5 /\ f4.offset = 6 /\ f5.offset = 7 /\ f6.offset = 8 /\ f7.offset = 9 /\ f8.offset = 10 /\ f9.offset = 11 /\ f10.offset = 12 /\ f11.offset = 13 /\ f12.offset = 14) :=
 ⟨_, _, _, _, _, _, _, _, _, _, _, _, _, Tryz.underlying51, ⟨rfl, rfl, rfl, rfl, rfl, rfl, rfl, rfl, rfl, rfl, rfl, rfl, rfl⟩, ⟨rfl, rfl, rfl, rfl, rfl, rfl, rfl, rfl, rfl, rfl, rfl, rfl, rfl⟩⟩
theorem II : Tryz.prog.cellsOf 51 = 15 := by kernel_rfl
theorem gB : Tryz.prog.cellsOf 3 = 1 := by kernel_rfl
theorem Fe : Tryz.prog.cellsOf 4 = 1 := by kernel_rfl
theorem A8 : Tryz.prog.cellsOf 48 = 1 := by kernel_rfl
theorem Fb : Tryz.prog.cellsOf 49 = 1 := by kernel_rfl
theorem TS {α : Type} {cs : List α} (h : cs.length = 15) : ∃ c0 c1 c2 c3 c4 c5 c6 c7 c8 c9 c10 c11 c12 c13 c14, cs = [c0, c1, c2, c3, c4, c5, c6, c7, c8, c9, c10, c11, c12, c13, c14] := by
 match cs, h with
 | [c0, c1, c2, c3, c4, c5, c6, c7, c8, c9, c10, c11, c12, c13, c14], _ => exact ⟨c0, c1, c2, c3, c4, c5, c6, c7, c8, c9, c10, c11, c12, c13, c14, rfl⟩
theorem TT {α : Type} {cs : List α} (h : cs.length = 13) : ∃ c0 c1 c2 c3 c4 c5 c6 c7 c8 c9 c10 c11 c12, cs = [c0, c1, c2, c3, c4, c5, c6, c7, c8, c9, c10, c11, c12] := by
 match cs, h with
 | [c0, c1, c2, c3, c4, c5, c6, c7, c8, c9, c10, c11, c12], _ => exact ⟨c0, c1, c2, c3, c4, c5, c6, c7, c8, c9, c10, c11, c12, rfl⟩
section
variable {H : Type} {enc : TypeId × Value -> H} {W : World}
theorem eO {m : Nat} {c : Value} {y : DataW H × List MemPlace} (h : DataW.trod enc Tryz.prog W 0 (fun _ => true) true m 3 [c] = some y) : ∃ x, c = iv x /\ lW x := by
 obtain ⟨x, q, _, wf⟩ := DataW.trod_int Tryz.underlying3 h
 simp at q
 exact ⟨x, q, jT wf⟩
theorem Fg {m : Nat} {c : Value} {y : DataW H × List MemPlace} (h : DataW.trod enc Tryz.prog W 0 (fun _ => true) true m 4 [c] = some y) : ∃ x, c = .bool x := by
 obtain ⟨x, q, _⟩ := DataW.trod_bool Tryz.underlying4 h
 simp at q
 exact ⟨x, q⟩
theorem G8 {fuel : Nat} {cs : List Value} {yy : DataW H × List MemPlace} (T4 : cs.length = 15) (hf : DataW.trod enc Tryz.prog W 0 (fun _ => true) true fuel 51 cs = some yy) : ∃ (r : Rc) (y : Lay), cs = r.vals y /\ Two W r.items r.nodes y /\ r.ok /\ r.items.length <= maxLen /\ r.nodes.length <= maxLen := by
 obtain ⟨f0, f1, f2, f3, f4, f5, f6, f7, f8, f9, f10, f11, f12, hst, ⟨e0, e1, e2, e3, e4, e5, e6, e7, e8, e9, e10, e11, e12⟩, o0, o1, o2, o3, o4, o5, o6, o7, o8, o9, o10, o11, o12⟩ := Eh; obtain ⟨c0, c1, c2, c3, c4, c5, c6, c7, c8, c9, c10, c11, c12, c13, c14, rfl⟩ := TS T4; obtain ⟨xs, n, _, _, hlen, hxl, hg⟩ := DataW.trod_struct hst hf; obtain ⟨y0, y1, y2, y3, y4, y5, y6, y7, y8, y9, y10, y11, y12, rfl⟩ := TT hxl; have g0 := hg 0 f0 rfl; have g1 := hg 1 f1 rfl; have g2 := hg 2 f2 rfl; have g3 := hg 3 f3 rfl; have g4 := hg 4 f4 rfl; have g5 := hg 5 f5 rfl; have g6 := hg 6 f6 rfl; have g7 := hg 7 f7 rfl; have g8 := hg 8 f8 rfl; have g9 := hg 9 f9 rfl; have g10 := hg 10 f10 rfl; have g11 := hg 11 f11 rfl; have g12 := hg 12 f12 rfl; rw [e0, o0, gB] at g0; rw [e1, o1, IG] at g1; rw [e2, o2, A8] at g2; rw [e3, o3, Fb] at g3; rw [e4, o4, gB] at g4; rw [e5, o5, gB] at g5; rw [e6, o6, gB] at g6; rw [e7, o7, gB] at g7; rw [e8, o8, gB] at g8; rw [e9, o9, gB] at g9; rw [e10, o10, gB] at g10; rw [e11, o11, gB] at g11; rw [e12, o12, Fe] at g12; obtain ⟨x0, rfl, w0⟩ := eO (c := c0) g0; obtain ⟨F0, F1, F2, hts, hone, t0, t1, t2⟩ : ∃ F0 F1 F2 : Field, Tryz.prog.underlying 47 = some (.struct #[F0, F1, F2]) /\ oneCellFields Tryz.prog #[F0, F1, F2] = true /\ F0.type = 3 /\ F1.type = 3 /\ F2.type = 3 := ⟨_, _, _, Tryz.underlying47, by kernel_rfl, rfl, rfl, rfl⟩; obtain ⟨z0, z1, z2, m, _, _, h0, h1, h2⟩ := trod_struct3 hts g1; obtain ⟨O0, K0⟩ := hone_of hone 0 F0 rfl; obtain ⟨O1, K1⟩ := hone_of hone 1 F1 rfl; obtain ⟨O2, K2⟩ := hone_of hone 2 F2 rfl; rw [O0, K0, t0] at h0; rw [O1, K1, t1] at h1; rw [O2, K2, t2] at h2; obtain ⟨x1, rfl, w1⟩ := eO (c := c1) h0; obtain ⟨x2, rfl, w2⟩ := eO (c := c2) h1; obtain ⟨x3, rfl, w3⟩ := eO (c := c3) h2
 change DataW.trod enc Tryz.prog W 0 (fun _ => true) true n 48 [c4] = some y2 at g2
 change DataW.trod enc Tryz.prog W 0 (fun _ => true) true n 49 [c5] = some y3 at g3
 obtain ⟨A, L, cc, q4⟩ := Go.Joins.slice_form Tryz.underlying48 g2; obtain ⟨B, M, dd, q5⟩ := Go.Joins.slice_form Tryz.underlying49 g3; obtain rfl : c4 = .slice A L cc := by simpa using q4
 obtain rfl : c5 = .slice B M dd := by simpa using q5
 obtain ⟨its, rfl, a1, a2, a3, a4⟩ := Au g2; obtain ⟨tT, rfl, b1, b2, b3, b4⟩ := Ep g3; obtain ⟨x6, rfl, w6⟩ := eO (c := c6) g4; obtain ⟨x7, rfl, w7⟩ := eO (c := c7) g5; obtain ⟨x8, rfl, w8⟩ := eO (c := c8) g6; obtain ⟨x9, rfl, w9⟩ := eO (c := c9) g7; obtain ⟨x10, rfl, w10⟩ := eO (c := c10) g8; obtain ⟨eW, rfl, w11⟩ := eO (c := c11) g9; obtain ⟨eV, rfl, w12⟩ := eO (c := c12) g10; obtain ⟨eU, rfl, w13⟩ := eO (c := c13) g11; obtain ⟨dZ, rfl⟩ := Fg (c := c14) g12; exact ⟨⟨x0, ⟨x1, x2, x3⟩, its, tT, x6, x7, x8, x9, x10, eW, eV, eU, dZ⟩, ⟨A, cc, B, dd⟩, rfl, ⟨a1, b1, a4.1, b4.1⟩, ⟨w0, ⟨w1, w2, w3⟩, a3, b3, w6, w7, w8, w9, w10, w11, w12, w13⟩, a2, b2⟩
theorem Eo {base : Nat} {v : Value} {d : DataW H} {p : List MemPlace}
  (hv : Value.okWide Tryz.prog W .any base 24 v) (h : DataW.Trod enc Tryz.prog W 0 (fun _ => true) true 24 v d p) :
  ∃ (A : Option Addr) (l : List Rc) (zs : List Lay) (cap : Nat), v = .slice A l.length cap /\ zM W A l zs /\ l.length <= maxLen /\ (∀ r ∈ l, r.ok /\ r.items.length <= maxLen /\ r.nodes.length <= maxLen) /\ Y7 A l.length cap := by
 obtain ⟨a0, len, cap, rfl⟩ := okWide_slice Tryz.underlying24 hv; obtain ⟨fuel, hf⟩ := h; have hf : DataW.trod enc Tryz.prog W 0 (fun _ => true) true fuel 24 [.slice a0 len cap] = some (d, p) := by simpa [Value.cells] using hf
 rcases open_slice Tryz.underlying24 hf with ⟨hcs, hx⟩ | ⟨a, len', cap', m, n, D, Pl, hcs, _, hl, hm, hmm, hx, hi⟩
 ·simp at hcs
  obtain ⟨rfl, rfl, rfl⟩ := hcs; exact ⟨none, [], [], 0, rfl, ⟨gN _ _ _, rfl, fun k h => absurd h (by simp)⟩, by decide, fun x hx => (by cases hx), And.intro (fun _ => rfl) (Nat.le_refl _)⟩
 simp at hcs
 obtain ⟨rfl, rfl, rfl⟩ := hcs; simp only [if_true] at hmm; have each : ∀ i, i < len -> ∃ x : Rc × Lay, (∀ j u, (x.1.vals x.2)[j]? = some u -> W.cell? (a.add (i * 15 + j)) = some u) /\ Two W x.1.items x.1.nodes x.2 /\ x.1.ok /\ x.1.items.length <= maxLen /\ x.1.nodes.length <= maxLen := by
  intro i hil; obtain ⟨cs', hc, hr⟩ := hi i (by omega); rw [II] at hc; obtain ⟨_, hcl, hat⟩ := World.cells?_some hc; obtain ⟨r, y, rfl, h2, h3, h4, h5⟩ := G8 hcl hr; refine ⟨(r, y), fun j u hu => ?_, h2, h3, h4, h5⟩; have hj : j < 15 := (List.getElem?_eq_some_iff.1 hu).1; have := hat j (by omega); simp only [Go.Deep.add_add] at this; exact this.trans hu
 obtain ⟨f, hfn⟩ := mN (rc0, Js) each; have hle : ((List.range len).map fun i => (f i).1).length = len := by simp
 refine ⟨some a, (List.range len).map fun i => (f i).1, (List.range len).map fun i => (f i).2, cap, by rw [hle], ⟨?_, by simp, ?_⟩, by simp; omega, ?_, And.intro (fun h => by cases h) (by simp; omega)⟩
 ·intro k hk
  have hk' : k < len := by simpa using hk
  have hspec := (hfn k hk').1; have hspot : a.spot = none := by
   have := World.cell?_spot ((hfn 0 (by omega)).1 0 _ rfl)
   simpa [Addr.add] using this
  obtain ⟨ab, ao, asp⟩ := a; simp only at hspot; subst hspot; refine ⟨ab, ao, rfl, fun j u hu => ?_⟩; simp only [List.getElem_zipWith, List.getElem_map, List.getElem_range] at hu; have := hspec j u hu; simp only [add_plain, <- Nat.add_assoc] at this; exact this
 ·intro k h1 h2
  simp only [List.getElem_map, List.getElem_range]; exact (hfn k (by simpa using h1)).2.1
 intro x hx
 obtain ⟨i, hi, rfl⟩ := List.mem_map.1 hx; exact (hfn i (List.mem_range.1 hi)).2.2
end
def ur (r : Rc) : Bool := decide (60 < r.items.length) || decide (60 < r.nodes.length)
def lH (l : List Rc) (most : Nat) : Bool := decide (most < l.length) || l.any ur
theorem yU {l : List Rc} {most : Nat} (h : lH l most = false) : l.length <= most /\ ∀ r ∈ l, r.items.length <= 60 /\ r.nodes.length <= 60 := by
 unfold lH ur at h; simp only [Bool.or_eq_false_iff, decide_eq_false_iff_not, List.any_eq_false, Bool.or_eq_true, decide_eq_true_eq] at h; refine ⟨by omega, fun r hr => ?_⟩; have := h.2 r hr
 omega
set_option maxHeartbeats 4000000 in
theorem EU (A : Option Addr) (l : List Rc) (zs : List Lay) (cap most : Nat) (w : World) (hr : zM w A l zs) (hl : l.length <= maxLen) (hs : ∀ r ∈ l, r.items.length <= maxLen /\ r.nodes.length <= maxLen) (hm : most <= 1000) :
  Calls Tryz.prog 5 #[.slice A l.length cap, iv (most : Int)] w fun e w' => e = .returned (.bool (lH l most)) /\ Below w.heap.size w w' := by
 have HR := ak hr; have HS := ak hs; have HG : Hid (lH l most = (decide (most < l.length) || l.any ur)) := ak rfl; obtain ⟨G, hG⟩ := ah (lH l most); rw [hG] at HG ⊢; obtain ⟨n, hn⟩ := ah l.length; have HN := ak hn; rw [hn] at hl HG ⊢; have aee : n <= 9223372036854775807 := by unfold maxLen at hl; omega
 clear hr hs hG hn hl
 go_enter Tryz.func5, Tryz.ntmps5
 by_cases hmn : most < n
 ·have Ll : Hid (G = true) := ak (by rw [HG.o, decide_eq_true hmn]; rfl)
  have h2 : (most : Int) < (n : Int) := by omega
  go_wp2_with fail
  go_returns
  exact ⟨aG Ll.o, Below.refl _ _⟩
 have h2 : ¬ (most : Int) < (n : Int) := by omega
 have HG2 : Hid (G = l.any ur) := ak (by rw [HG.o, decide_eq_false hmn]; rfl)
 go_wp2_with fail
 go_loopw [13] (fun i wr => ∃ k : Nat, k <= n /\ i = iv (k : Int) /\ Hid (∀ j (hj : j < l.length), j < k -> ur l[j] = false) /\ Hid (Below w.heap.size w wr)) (fun i _ => n - (intOf i).toNat)
 case atStart => exact ⟨0, Nat.zero_le _, rfl, ak fun j _ hj => absurd hj (by omega), ak (Below.refl _ _)⟩
 case round =>
  obtain ⟨k, hk, rfl, HD, HB⟩ := hrel
  by_cases hlt : k < n
  ·have hlk : k < l.length := by have := HN.o; omega
   have Kt : k < zs.length := by have := HR.o.len; omega
   obtain ⟨ab, off, KA, bS⟩ := (HR.o.later HB.o).row k (by rw [List.length_zipWith]; omega); rw [List.getElem_zipWith] at bS; have HT : Hid (ur l[k] = true -> G = true) := ak fun h => by rw [HG2.o]; exact List.any_eq_true.2 ⟨_, List.getElem_mem hlk, h⟩
   have HE : Hid (ur l[k] = false -> ∀ j (hj : j < l.length), j < k + 1 -> ur l[j] = false) := ak fun h j hj hjk => by
    by_cases e : j = k
    ·subst e; exact h
    exact HD.o j hj (by omega)
   have hss := HS.o l[k] (List.getElem_mem hlk); obtain ⟨r, hr⟩ := ah (l[k]); obtain ⟨z1, hz1⟩ := ah (zs[k]); rw [hr] at HT HE hss; rw [hr, hz1] at bS; clear hr hz1; have x0 : wr.cell? ⟨ab, off + k * 15, none⟩ = some (iv r.kind) := bS 0 _ rfl; have x1 : wr.cell? ⟨ab, off + k * 15 + 1, none⟩ = some (iv r.tid.node) := bS 1 _ rfl; have x2 : wr.cell? ⟨ab, off + k * 15 + 2, none⟩ = some (iv r.tid.epoch) := bS 2 _ rfl; have x3 : wr.cell? ⟨ab, off + k * 15 + 3, none⟩ = some (iv r.tid.seq) := bS 3 _ rfl; have x4 : wr.cell? ⟨ab, off + k * 15 + 4, none⟩ = some (.slice z1.A r.items.length z1.c) := bS 4 _ rfl; have x5 : wr.cell? ⟨ab, off + k * 15 + 5, none⟩ = some (.slice z1.B r.nodes.length z1.d) := bS 5 _ rfl; have x6 : wr.cell? ⟨ab, off + k * 15 + 6, none⟩ = some (iv r.node) := bS 6 _ rfl; have x7 : wr.cell? ⟨ab, off + k * 15 + 7, none⟩ = some (iv r.count) := bS 7 _ rfl; have x8 : wr.cell? ⟨ab, off + k * 15 + 8, none⟩ = some (iv r.num) := bS 8 _ rfl; have x9 : wr.cell? ⟨ab, off + k * 15 + 9, none⟩ = some (iv r.cell) := bS 9 _ rfl; have x10 : wr.cell? ⟨ab, off + k * 15 + 10, none⟩ = some (iv r.status) := bS 10 _ rfl; have eW : wr.cell? ⟨ab, off + k * 15 + 11, none⟩ = some (iv r.hop) := bS 11 _ rfl; have eV : wr.cell? ⟨ab, off + k * 15 + 12, none⟩ = some (iv r.version) := bS 12 _ rfl; have eU : wr.cell? ⟨ab, off + k * 15 + 13, none⟩ = some (iv r.value) := bS 13 _ rfl; have dZ : wr.cell? ⟨ab, off + k * 15 + 14, none⟩ = some (.bool r.yes) := bS 14 _ rfl; clear bS hlk Kt; simp only [KA]; clear KA; have bZ : Hid (Below w.heap.size w (wr.alloc (.cells #[iv r.kind, iv r.tid.node, iv r.tid.epoch, iv r.tid.seq, .slice z1.A r.items.length z1.c, .slice z1.B r.nodes.length z1.d, iv r.node, iv r.count, iv r.num, iv r.cell, iv r.status, iv r.hop, iv r.version, iv r.value, .bool r.yes] 51))) := ak (HB.o.trans ((av _ _).mono HB.o.size)); obtain ⟨ni, hni⟩ := ah r.items.length; obtain ⟨nd, hnd⟩ := ah r.nodes.length; have Y2 : Hid (ur r = (decide (60 < ni) || decide (60 < nd))) := ak (by unfold ur; rw [hni, hnd]); rw [hni, hnd] at bZ hss; rw [hni] at x4; rw [hnd] at x5; have ad5 : ni <= 9223372036854775807 := by unfold maxLen at hss; omega
   have ad4 : nd <= 9223372036854775807 := by unfold maxLen at hss; omega
   clear hni hnd hss
   by_cases g1 : 60 < ni
   ·have Ll : Hid (G = true) := ak (HT.o (by rw [Y2.o, decide_eq_true g1]; rfl))
    have g2 : (60 : Int) < (ni : Int) := by omega
    go_wp2_with fail
    go_returns
    exact ⟨aG Ll.o, bZ.o⟩
   have g2 : ¬ (60 : Int) < (ni : Int) := by omega
   by_cases g3 : 60 < nd
   ·have Ll : Hid (G = true) := ak (HT.o (by rw [Y2.o, decide_eq_true g3, Bool.or_true]))
    have g4 : (60 : Int) < (nd : Int) := by omega
    go_wp2_with fail
    go_returns
    exact ⟨aG Ll.o, bZ.o⟩
   have g4 : ¬ (60 : Int) < (nd : Int) := by omega
   have rJ := ak (HE.o (by rw [Y2.o, decide_eq_false g1, decide_eq_false g3]; rfl)); clear HD
   go_wp2_with fail
   go_roundw
   case rel => exact ⟨k + 1, by omega, by go_num, rJ, bZ⟩
   case measure => simp [intOf]; omega
  have Ll : Hid (G = false) := ak (by
   rw [HG2.o, List.any_eq_false]; intro r hr; obtain ⟨j, hj, rfl⟩ := List.mem_iff_getElem.1 hr; rw [HD.o j hj (by have := HN.o; omega)]
   exact Bool.false_ne_true)
  clear HD
  go_wp2_with fail
  go_returns
  exact ⟨aG Ll.o, HB.o⟩
theorem Sz.first (b1 b2 b3 : Int) : Sz 0 (cD b1 b2 b3).1 := by
 unfold cD
 cases hr : right (Bb b1 b2 b3) with
 | false => exact ⟨Nat.zero_le _, Nat.zero_le _, Nat.zero_le _, Nat.zero_le _, fun p hp => (by cases hp), fun p hp => (by cases hp)⟩
 | true =>
  have hn := iM hr rfl; simp only [Bb] at hn; refine ⟨?_, Nat.zero_le _, Nat.zero_le _, Nat.zero_le _, fun p hp => (by cases hp), fun p hp => (by cases hp)⟩; rw [if_neg (by decide)]; unfold eA; rw [dI]
  omega
def DM : St := ⟨1, 2, 2, 0, [⟨1, 0, 0, 0, 0⟩, rH], [], [], []⟩
def Yt : cT := ⟨1, 1, 1⟩
def awI : It := ⟨0, 0, 0, true, 7⟩
def JE : Rc := ⟨4, Yt, [awI], [1], 0, 0, 0, 0, 0, 0, 0, 0, false⟩
def JD : Rc := ⟨6, Yt, [], [], 0, 0, 0, 0, 0, 0, 0, 0, true⟩
def Xp : St := ⟨1, 2, 2, 0, [⟨1, 0, 0, 1, 7⟩, rH], [], [⟨Yt, true⟩], []⟩
theorem IJ : cD 1 2 2 = (DM, 0) := by decide
theorem IK : iA DM [JE, JD] = (Xp, 0) := by decide
theorem BJ : owns DM 0 = true /\ owns DM 1 = false := by decide
structure JR (w wr : World) (b1 b4 : Nat) (y0 y4 : Sy) : Prop where
 low : Below w.heap.size w wr
 c1 : Cells wr b1 32 [iv 1, iv 2, iv 2, iv 0, .slice y0.P 2 y0.p, .slice y0.Q 0 y0.q, .slice y0.D 0 y0.d, .slice y0.C 0 y0.c]
 c4 : Cells wr b4 32 [iv 1, iv 2, iv 2, iv 0, .slice y4.P 2 y4.p, .slice y4.Q 0 y4.q, .slice y4.D 1 y4.d, .slice y4.C 0 y4.c]
 s1 : cL wr DM y0
 s4 : cL wr Xp y4
theorem JR.later {w wr w' : World} {b1 b4 : Nat} {y0 y4 : Sy} (h : JR w wr b1 b4 y0 y4) (hb : Below wr.heap.size wr w') : JR w w' b1 b4 y0 y4 := ⟨h.low.trans (hb.mono h.low.size), h.c1.later hb, h.c4.later hb, h.s1.later hb, h.s4.later hb⟩
set_option maxHeartbeats 2000000 in
theorem Fj (w : World) : Calls Tryz.prog 4 #[] w fun e w' => e = .returned (.bool true) /\ Below w.heap.size w w' := by
 have eY := ak (vA 1 2 2 w)
 go_enter Tryz.func4, Tryz.ntmps4
 go_wp2_with fail
 refine eY.o.mono ?_; rintro e w2 ⟨⟨y0, rfl, hst⟩, hb2⟩; rw [IJ] at hst ⊢; have HST := ak hst; have bZ := ak hb2; clear eY hst hb2; unfold St.val; simp only [DM, List.length_cons, List.length_nil]; obtain ⟨w3, hw3⟩ := aj (w2.alloc (.cells #[iv 1, iv 2, iv 2, iv 0, .slice y0.P 2 y0.p, .slice y0.Q 0 y0.q, .slice y0.D 0 y0.d, .slice y0.C 0 y0.c] 32)); obtain ⟨w4, hw4⟩ := aj (w3.alloc (.cells #[iv 1, iv 1, iv 1] 47)); obtain ⟨w5, IY⟩ := aj (w4.alloc (.cells #[iv 0, iv 0, iv 0, .bool true, iv 7] 64)); obtain ⟨w6, UJ⟩ := aj (w5.alloc (.cells #[iv 1] 3)); obtain ⟨w7, FK⟩ : ∃ v, v = w6.alloc (.cells #[iv 4, iv 1, iv 1, iv 1, .slice (some ⟨w2.heap.size + 1 + 1, 0, none⟩) 1 1, .slice (some ⟨w2.heap.size + 1 + 1 + 1, 0, none⟩) 1 1, iv 0, iv 0, iv 0, iv 0, iv 0, iv 0, iv 0, iv 0, .bool false,
  iv 6, iv 1, iv 1, iv 1, .slice none 0 0, .slice none 0 0, iv 0, iv 0, iv 0, iv 0, iv 0, iv 0, iv 0, iv 0, .bool true] 51) := ⟨_, rfl⟩
 have hs3 : w3.heap.size = w2.heap.size + 1 := by rw [hw3, World.size_alloc]
 have hs4 : w4.heap.size = w2.heap.size + 1 + 1 := by rw [hw4, World.size_alloc, hs3]
 have hs5 : w5.heap.size = w2.heap.size + 1 + 1 + 1 := by rw [IY, World.size_alloc, hs4]
 have hs6 : w6.heap.size = w2.heap.size + 1 + 1 + 1 + 1 := by rw [UJ, World.size_alloc, hs5]
 have Yr : Below w2.heap.size w2 w3 := by rw [hw3]; exact av _ _
 have Yq : Below w3.heap.size w3 w4 := by rw [hw4]; exact av _ _
 have Yo : Below w4.heap.size w4 w5 := by rw [IY]; exact av _ _
 have Yn : Below w5.heap.size w5 w6 := by rw [UJ]; exact av _ _
 have Yl : Below w6.heap.size w6 w7 := by rw [FK]; exact av _ _
 have Ym : Below w5.heap.size w5 w7 := Yn.trans (Yl.mono Yn.size); have b47 : Below w4.heap.size w4 w7 := Yo.trans (Ym.mono Yo.size); have Yp : Below w3.heap.size w3 w7 := Yq.trans (b47.mono Yq.size); have Xo : Below w2.heap.size w2 w7 := Yr.trans (Yp.mono Yr.size); have hc1 : Cells w7 w2.heap.size 32 [iv 1, iv 2, iv 2, iv 0, .slice y0.P 2 y0.p, .slice y0.Q 0 y0.q, .slice y0.D 0 y0.d, .slice y0.C 0 y0.c] := Cells.later (by rw [hw3]; exact aB _ _ _ _ rfl) Yp; have Ul : Cells w7 (w2.heap.size + 1 + 1) 64 [iv 0, iv 0, iv 0, .bool true, iv 7] := by
  rw [<- hs4]; exact Cells.later (by rw [IY]; exact aB _ _ _ _ rfl) Ym
 have hcn : Cells w7 (w2.heap.size + 1 + 1 + 1) 3 [iv 1] := by
  rw [<- hs5]; exact Cells.later (by rw [UJ]; exact aB _ _ _ _ rfl) Yl
 have hcr : Cells w7 (w2.heap.size + 1 + 1 + 1 + 1) 51 (List.zipWith Rc.vals [JE, JD] [⟨some ⟨w2.heap.size + 1 + 1, 0, none⟩, 1, some ⟨w2.heap.size + 1 + 1 + 1, 0, none⟩, 1⟩, Js]).flatten := by
  rw [<- hs6]; rw [FK]; exact aB _ _ _ _ rfl
 have DW := ak (vB DM y0 [JE, JD] [⟨some ⟨w2.heap.size + 1 + 1, 0, none⟩, 1, some ⟨w2.heap.size + 1 + 1 + 1, 0, none⟩, 1⟩, Js] (some ⟨w2.heap.size + 1 + 1 + 1 + 1, 0, none⟩) 2 0 w7 (HST.o.sees.later Xo)
  ⟨by decide, by decide, by decide, by decide, fun p hp => (by cases hp), fun p hp => (by cases hp)⟩
  ⟨cW hcr (fun v hv => by
   simp only [List.zipWith_cons_cons, List.zipWith_nil_left, List.mem_cons, List.not_mem_nil, or_false] at hv; rcases hv with rfl | rfl <;> rfl), rfl, fun k h1 h2 => by
   have : k = 0 \/ k = 1 := by simp at h1; omega
   rcases this with rfl | rfl
   ·exact ⟨xE (cW (by exact Ul) (by simp [It.vals])), Bx (cW (by exact hcn) (by simp)), fun e => (by cases e), fun e => (by cases e)⟩
   exact ⟨qO _ _, ft _ _, fun _ => rfl, fun _ => rfl⟩⟩
  (by decide) (by decide))
 have I9 : Hid (Below w.heap.size w w7) := ak (bZ.o.trans (Xo.mono bZ.o.size)); have DV := ak hc1; have zE : Hid (cL w7 DM y0) := ak (HST.o.sees.later Xo); have mU : Hid (w2.heap.size < w7.heap.size) := ak hc1.lt; clear hs3 hs4 hs5 hs6 Yr Yq Yo Yn Yl Ym b47 Yp Xo hc1 Ul hcn hcr; unfold St.val at DW; simp only [DM, List.length_cons, List.length_nil] at DW
 go_wp2_with fail
 rw [<- hw3]; rw [<- hw4]; rw [<- IY]; rw [<- UJ]; rw [<- FK]; clear hw3 hw4 IY UJ FK; refine DW.o.mono ?_; rintro e w8 ⟨⟨y4, rfl, wY⟩, Jc⟩; rw [show iA ⟨1, 2, 2, 0, [⟨1, 0, 0, 0, 0⟩, rH], [], [], []⟩ [JE, JD] = (Xp, 0) from IK] at wY ⊢
 simp only [Xp, List.length_cons, List.length_nil]; obtain ⟨b1, hb1⟩ := ah w2.heap.size; rw [hb1] at DV mU; obtain ⟨w9, Xb⟩ := aj (w8.alloc (.cells #[iv 1, iv 2, iv 2, iv 0, .slice y4.P 2 y4.p, .slice y4.Q 0 y4.q, .slice y4.D 1 y4.d, .slice y4.C 0 y4.c] 32)); have Kw : Below w8.heap.size w8 w9 := by rw [Xb]; exact av _ _
 have FU := DV.o.later Jc; have q4 := FU.cell (j := 4) rfl; have q0 := FU.cell (j := 0) rfl; have q1 := FU.cell (j := 1) rfl; have q2 := FU.cell (j := 2) rfl; have q3 := FU.cell (j := 3) rfl; have q5 := FU.cell (j := 5) rfl; have q6 := FU.cell (j := 6) rfl; have q7 := FU.cell (j := 7) rfl; have hlt := FU.lt; have HA : Hid (JR w w9 b1 w8.heap.size y0 y4) := ak ⟨I9.o.trans ((Jc.trans (Kw.mono Jc.size)).mono I9.o.size), FU.later Kw, by rw [Xb]; exact aB _ _ _ _ rfl, (zE.o.later Jc).later Kw, wY.sees.later Kw⟩; clear DV zE mU DW Jc Kw FU wY HST bZ I9; rw [hb1]; clear hb1
 go_wp2_with fail
 rw [<- Xb]; clear Xb hlt q0 q1 q2 q3 q4 q5 q6 q7; have HO := ak (jG DM y0 0 w9 HA.o.s1); rw [BJ.1] at HO; unfold St.val at HO; simp only [DM, List.length_cons, List.length_nil] at HO; refine HO.o.mono ?_; rintro e wa ⟨rfl, hba⟩; have rS := ak (HA.o.later hba); clear HA HO hba; have HO := ak (jG DM y0 1 wa rS.o.s1); rw [BJ.2] at HO; unfold St.val at HO; simp only [DM, List.length_cons, List.length_nil] at HO; obtain ⟨q0, q1, q2, q3, q4, q5, q6, q7⟩ := rS.o.c1.q8
 go_wp2_with fail
 clear q0 q1 q2 q3 q4 q5 q6 q7; refine HO.o.mono ?_; rintro e wc ⟨rfl, hbc⟩; have Jq := ak (rS.o.later hbc); clear rS HO hbc; have q4 := Jq.o.c1.cell (j := 4) rfl; have u4 := Jq.o.c4.cell (j := 4) rfl; obtain ⟨pb, po, hP, _, _, _, x3, x4⟩ := ig Jq.o.s4.places (show 0 < 2 by decide)
 obtain ⟨qb, qo, hQ, _, _, _, z3, _⟩ := ig Jq.o.s1.places (show 0 < 2 by decide)
 rw [hP] at u4; rw [hQ] at q4; have hx3 : wc.cell? ⟨pb, po + 0 * 5 + 3, none⟩ = some (iv 1) := x3; have KV : wc.cell? ⟨pb, po + 0 * 5 + 4, none⟩ = some (iv 7) := x4; have hz3 : wc.cell? ⟨qb, qo + 0 * 5 + 3, none⟩ = some (iv 0) := z3; simp only [Nat.zero_mul, Nat.add_zero] at hx3 KV hz3; clear x3 x4 z3 hP hQ
 go_wp2_with fail
 go_returns
 exact ⟨rfl, Jq.o.low⟩
theorem A_ : Tryz.prog.cellsOf 23 = 3 := by kernel_rfl
theorem Aj {H : Type} {enc : TypeId × Value -> H} {W : World} {base : Nat} {v : Value} {d : DataW H} {p : List MemPlace}
  (hv : Value.okWide Tryz.prog W .any base 23 v) (h : DataW.Trod enc Tryz.prog W 0 (fun _ => true) true 23 v d p) : ∃ a b c : Int, v = .agg #[iv a, iv b, iv c] /\ lW a /\ lW b /\ lW c := by
 obtain ⟨c0, c1, c2, y0, y1, y2, m, rfl, _, _, h0, h1, h2⟩ := Go.Joins.open_agg3 Tryz.underlying23 (by kernel_rfl) A_ hv h; obtain ⟨x0, q0, _, w0⟩ := DataW.trod_int Tryz.underlying3 h0; obtain ⟨x1, q1, _, w1⟩ := DataW.trod_int Tryz.underlying3 h1; obtain ⟨x2, q2, _, w2⟩ := DataW.trod_int Tryz.underlying3 h2
 simp at q0 q1 q2
 subst q0; subst q1; subst q2; exact ⟨x0, x1, x2, rfl, jT w0, jT w1, jT w2⟩
theorem uo {w w' : World} {p : Addr} {v : Value} (hb : Below w.heap.size w w') (h : w.cell? p = some v) : w'.cell? p = some v := (hb.cell (aH h)).trans h
