/- Part 51 of the proof. Conditions: none. -/
import Derived.Test.YtdkchpiinelmiaaGreatZ49
namespace Go.Proofs.YtdkchpiinelmiaaGreat.Led
set_option maxRecDepth 100000
open Go.RowKit Go.Deep Mem fN Rec
theorem yJ (n : Nat) (hn : n <= 16) (w : World) : ∃ w1, (Instr.makeSlice 36 (iv (n : Int)) (iv (n : Int))).run Tryz.prog w = .ok (.slice (some ⟨w.heap.size, 0, none⟩) n n) w1 /\ w1.ownsRow w.heap.size 69 5 (.slice (some ⟨w.heap.size, 0, none⟩) n n) n ((List.replicate n rH).map Pl.vals).flatten /\ Below w.heap.size w w1 := by
 obtain ⟨i0, hi, hz0, hz1, hz2⟩ := info_parts (fM 0).info; have Zf : i0.bytes = 40 := hz2; obtain ⟨w1, hmk, hrow, hgr⟩ := run_makeSlice_full (P := Tryz.prog) (w := w) w.heap.size 36 69 i0 _ 5 Tryz.underlying36 hi hz0 hz1 .i64 .i64 n (by omega) (by rw [Zf]; omega) (by unfold maxLen; omega) (Nat.le_refl _); rw [show (madeCells (zT 0).cells (n * 5)).toList = ((List.replicate n rH).map Pl.vals).flatten from rB n hn] at hrow
 exact ⟨w1, hmk, hrow, (Below.refl _ _).grown hgr (Nat.le_refl _) (fun k e => by cases e)⟩
def U_ (wr : World) (n : Nat) (v : Value) (W : World) : Prop := ∃ m, v = .slice (some ⟨m, 0, none⟩) n n /\ wr.heap.size <= m /\ W.ownsRow wr.heap.size 69 5 (.slice (some ⟨m, 0, none⟩) n n) n ((List.replicate n rH).map Pl.vals).flatten
set_option maxHeartbeats 4000000 in
theorem Zb {B0 : Nat} {w0 : World} {g2 g6 : Nat} {s : St} {y : Sy} {r : Rc} {z : Lay} (hn : r.kind ≠ 1 -> je [1, 1, 1, 1, 1, 1] B0 w0 g2 g6 s y r z) : je [1, 1, 1, 1, 1] B0 w0 g2 g6 s y r z := by
 intro wr h cc hc; iterate 546 intro _
 conv at hc => rhs; whnf
 subst hc
 apply wp_seq_k
 intro K hK; have ju := ak hK; clear hK; have aN := ak h; have iu := ak hn; have q0 := h.dF.cell (j := 0) rfl; clear h hn
 go_upto_region 6 with (fail)
 by_cases hk : r.kind = 1
 ·have HK := ak hk
  have HB : Hid (aC s r = aV s r) := ak (bN aN.o.rt); rw [hk] at q0; clear hk iu; obtain ⟨n, hn⟩ : ∃ n : Nat, r.num = (n : Int) := ⟨r.num.toNat, by have := iM aN.o.rt HK.o; omega⟩
  have Tq := ak hn; have Gz : Hid (n <= 16) := ak (by have := iM aN.o.rt HK.o; omega)
  have HF : Hid (aC s r = (cJ r.node r.count n, 0)) := ak (by rw [HB.o]; unfold aV; rw [if_pos HK.o, Tq.o, Int.toNat_natCast]); have F7 : Hid (∀ wi, Only (fun j => j = g2 + 2) wr wi -> Cells wi (g2 + 1) 55 (r.vals z)) := ak fun wi ho => aJ aN.o.dF ho (by omega)
  have sF : Hid (Cells wr (g2 + 2) 41 tS) := ak aN.o.fi.res; have HG2 : Hid (g2 + 2 < wr.heap.size) := ak aN.o.fi.res.lt; clear hn
  go_upto_region 7 with (fail)
  clear q0; refine N.bk (by kernel_rfl) (fun i => ([some (.pointer (some ⟨g2 + 1, 6, none⟩)), some (iv r.node), some (.pointer (some ⟨g2 + 1, 7, none⟩)), some (iv r.count), some (.pointer (some ⟨g2 + 1, 8, none⟩)), some (iv (n : Int)), some (.pointer (some ⟨g2 + 1, 8, none⟩)), some (iv (n : Int)), none, none, none, some (iv 0)] : List (Option Value)).getD i none) (fun D V W => Only (fun j => j = g2 + 2) wr W /\ ((D 8) = true -> U_ wr n (V 8) W) /\ ((D 9) = true -> (V 9) = Value.agg #[iv r.node, iv r.count, iv (n : Int), iv 0, (V 8), .slice none 0 0, .slice none 0 0, .slice none 0 0]) /\ Cells W (g2 + 2) 41 (cond (D 10) [iv r.node, iv r.count, iv (n : Int), iv 0, (V 8), .slice none 0 0, .slice none 0 0, .slice none 0 0] tS)) (fun V => [(some 57, V 0), (some 58, V 1), (some 59, V 2), (some 60, V 3), (some 61, V 4), (some 62, V 5), (some 63, V 6), (some 64, V 7), (some 65, V 8), (some 66, V 9), (none, V 10), (some 5, V 11)]) (by kernel_rfl) (by kernel_rfl) (fun V => rfl) ?_ ?_ ?_
  ·intro V
   exact ⟨Only.of_below (Below.refl _ _).drew, fun e => (by cases e), fun e => (by cases e), sF.o.later (Below.refl _ _).drew⟩
  ·intro i o ho
   have hi : i < 12 := (Array.getElem?_eq_some_iff.1 ho).1; rcases i with _ | _ | _ | _ | _ | _ | _ | _ | _ | _ | _ | _ | i
   rotate_right
   ·omega
   all_goals obtain rfl := Option.some.inj ho
   all_goals intro D V ρ wi hE hI cP hT hF hs hd hk
   all_goals (have e3 : ρ (.tmp 3) = (au (g2 + 1)) := hs 3)
   ·clear hT hF hk
    exact N.gi _ ⟨fun _ => N.oi, hI⟩
   ·have e57 := (hd 0 57).trans (hk 0 _ rfl); clear hT hF hk; have x0 := (F7.o wi hI.1).cell (j := 6) rfl
    exact N.gi _ ⟨fun _ => N.oi, hI⟩
   ·clear hT hF hk
    exact N.gi _ ⟨fun _ => N.oi, hI⟩
   ·have e59 := (hd 2 59).trans (hk 2 _ rfl); clear hT hF hk; have x0 := (F7.o wi hI.1).cell (j := 7) rfl
    exact N.gi _ ⟨fun _ => N.oi, hI⟩
   ·clear hT hF hk
    exact N.gi _ ⟨fun _ => N.oi, hI⟩
   ·have e61 := (hd 4 61).trans (hk 4 _ rfl); clear hT hF hk; have x0 := (F7.o wi hI.1).cell (j := 8) rfl
    rw [Tq.o] at x0; exact N.gi _ ⟨fun _ => N.oi, hI⟩
   ·clear hT hF hk
    exact N.gi _ ⟨fun _ => N.oi, hI⟩
   ·have e63 := (hd 6 63).trans (hk 6 _ rfl); clear hT hF hk; have x0 := (F7.o wi hI.1).cell (j := 8) rfl
    rw [Tq.o] at x0; exact N.gi _ ⟨fun _ => N.oi, hI⟩
   ·have Yk := (hd 7 64).trans (hk 7 _ rfl); have d_ : D 9 = false := hF 1 9; have cI : D 10 = false := hF 1 10; clear hT hF; obtain ⟨w9, hmk, hrow, Kw⟩ := yJ n Gz.o wi; have hz : wr.heap.size <= wi.heap.size := hI.1.size; have h4 := hI.2.2.2
    rw [cI] at h4; exact N.Gives.value (v := .slice (some ⟨wi.heap.size, 0, none⟩) n n) (w' := w9) (vg _ _ _ rfl _ _ Yk Yk hmk) ⟨fun x h => (by cases h), by show Only (fun j => j = g2 + 2) wr w9 /\ (true = true -> U_ wr n (Value.slice (some ⟨wi.heap.size, 0, none⟩) n n) w9) /\ ((D 9) = true -> (V 9) = Value.agg #[iv r.node, iv r.count, iv (n : Int), iv 0, (Value.slice (some ⟨wi.heap.size, 0, none⟩) n n), .slice none 0 0, .slice none 0 0, .slice none 0 0]) /\ Cells w9 (g2 + 2) 41 (cond (D 10) [iv r.node, iv r.count, iv (n : Int), iv 0, (Value.slice (some ⟨wi.heap.size, 0, none⟩) n n), .slice none 0 0, .slice none 0 0, .slice none 0 0] tS); rw [cI]; exact ⟨hI.1.trans (S' := fun _ => False) (Only.of_below Kw) fun _ _ e => e.elim, fun _ => ⟨wi.heap.size, rfl, hz, cS hz hrow⟩, fun e => (by rw [d_] at e; cases e), h4.later Kw⟩⟩
   ·have e58 := (hd 1 58).trans (hk 1 _ rfl); have e60 := (hd 3 60).trans (hk 3 _ rfl); have e62 := (hd 5 62).trans (hk 5 _ rfl); have e65 : ρ (.tmp 65) = V 8 := hd 8 65; have rP : D 8 = true := hT 1 8; clear hT hF; obtain ⟨m8, UL, hm8, hr8⟩ := hI.2.1 rP; have e9 := e65
    rw [UL] at e9; have h4 := hI.2.2.2; exact N.Gives.value (v := Value.agg #[iv r.node, iv r.count, iv (n : Int), iv 0, .slice (some ⟨m8, 0, none⟩) n n, .slice none 0 0, .slice none 0 0, .slice none 0 0]) (w' := wi) (by go_simp) ⟨fun x h => (by cases h), by show Only (fun j => j = g2 + 2) wr wi /\ ((D 8) = true -> U_ wr n (V 8) wi) /\ (true = true -> (Value.agg #[iv r.node, iv r.count, iv (n : Int), iv 0, .slice (some ⟨m8, 0, none⟩) n n, .slice none 0 0, .slice none 0 0, .slice none 0 0]) = Value.agg #[iv r.node, iv r.count, iv (n : Int), iv 0, (V 8), .slice none 0 0, .slice none 0 0, .slice none 0 0]) /\ Cells wi (g2 + 2) 41 (cond (D 10) [iv r.node, iv r.count, iv (n : Int), iv 0, (V 8), .slice none 0 0, .slice none 0 0, .slice none 0 0] tS); exact ⟨hI.1, hI.2.1, fun _ => (by rw [UL]), h4⟩⟩
   ·have e4 : ρ (.tmp 4) = (au (g2 + 2)) := hs 4; have e66 : ρ (.tmp 66) = V 9 := hd 9 66; have rP : D 8 = true := hT 1 8; have d_ : D 9 = true := hT 1 9; have cI : D 10 = false := cP; clear hT hF; obtain ⟨m8, UL, hm8, hr8⟩ := hI.2.1 rP; have h9 := hI.2.2.1 d_
    rw [UL] at h9; have e9 := e66; rw [h9] at e9; have h4 := hI.2.2.2; rw [cI] at h4; obtain ⟨hcs, hos⟩ := Cells.put (l := [iv r.node, iv r.count, iv (n : Int), iv 0, .slice (some ⟨m8, 0, none⟩) n n, .slice none 0 0, .slice none 0 0, .slice none 0 0]) h4 rfl; exact N.Gives.skip (w' := wi.setCells (g2 + 2) 0 [iv r.node, iv r.count, iv (n : Int), iv 0, .slice (some ⟨m8, 0, none⟩) n n, .slice none 0 0, .slice none 0 0, .slice none 0 0]) (eH 41 _ _ rfl (g2 + 2) 0 #[iv r.node, iv r.count, iv (n : Int), iv 0, .slice (some ⟨m8, 0, none⟩) n n, .slice none 0 0, .slice none 0 0, .slice none 0 0] e4 e9 (run_storeVar_mid _ (g2 + 2) 0 41 #[iv r.node, iv r.count, iv (n : Int), iv 0, .slice (some ⟨m8, 0, none⟩) n n, .slice none 0 0, .slice none 0 0, .slice none 0 0] (Cells.there h4 (by show 8 <= 8; decide)) (by kernel_rfl) (by simp [Value.oneCell']))) ⟨fun x h => (by cases h), by show Only (fun j => j = g2 + 2) wr (wi.setCells (g2 + 2) 0 [iv r.node, iv r.count, iv (n : Int), iv 0, .slice (some ⟨m8, 0, none⟩) n n, .slice none 0 0, .slice none 0 0, .slice none 0 0]) /\ ((D 8) = true -> U_ wr n (V 8) (wi.setCells (g2 + 2) 0 [iv r.node, iv r.count, iv (n : Int), iv 0, .slice (some ⟨m8, 0, none⟩) n n, .slice none 0 0, .slice none 0 0, .slice none 0 0])) /\ ((D 9) = true -> (V 9) = Value.agg #[iv r.node, iv r.count, iv (n : Int), iv 0, (V 8), .slice none 0 0, .slice none 0 0, .slice none 0 0]) /\ Cells (wi.setCells (g2 + 2) 0 [iv r.node, iv r.count, iv (n : Int), iv 0, .slice (some ⟨m8, 0, none⟩) n n, .slice none 0 0, .slice none 0 0, .slice none 0 0]) (g2 + 2) 41 (cond true [iv r.node, iv r.count, iv (n : Int), iv 0, (V 8), .slice none 0 0, .slice none 0 0, .slice none 0 0] tS); rw [UL]; exact ⟨hI.1.trans hos fun _ _ e => e, fun _ => ⟨m8, rfl, hm8, aF hr8 hos fun k e e2 => by have := HG2.o; have e3 : m8 = k := Option.some.inj e; omega⟩, fun _ => h9, hcs⟩⟩
   have hc := hE.const; clear hT hF hk
   exact N.gi _ ⟨fun _ => N.oi, hI⟩
  intro V wb hk hI
  have VO := hk 11 (by show _ < 12; decide) _ rfl
  simp only [N.aP, List.foldl_cons, List.foldl_nil, Act.put, List.setIfInBounds_toArray, List.set_cons_succ, List.set_cons_zero, VO]; replace hI : Only (fun j => j = g2 + 2) wr wb /\ (true = true -> U_ wr n (V 8) wb) /\ (true = true -> (V 9) = Value.agg #[iv r.node, iv r.count, iv (n : Int), iv 0, (V 8), .slice none 0 0, .slice none 0 0, .slice none 0 0]) /\ Cells wb (g2 + 2) 41 (cond true [iv r.node, iv r.count, iv (n : Int), iv 0, (V 8), .slice none 0 0, .slice none 0 0, .slice none 0 0] tS) := hI; clear hk VO; obtain ⟨ho, hm, _, hc⟩ := hI; obtain ⟨m, hv, hml, hrow⟩ := hm rfl; have hpt : Cells wb (g2 + 2) 41 [iv r.node, iv r.count, iv (n : Int), iv 0, .slice (some ⟨m, 0, none⟩) n n, .slice none 0 0, .slice none 0 0, .slice none 0 0] := by
   rw [hv] at hc; exact hc
  have bU := ak hpt; have HO := ak ho; have dW := ak hrow; have HML := ak hml; clear ho hm hc hv hrow hml hpt
  go_wp2_with fail
  refine bodyPost_ret (v := .tuple #[.agg #[iv r.node, iv r.count, iv (n : Int), iv 0, .slice (some ⟨m, 0, none⟩) n n, .slice none 0 0, .slice none 0 0, .slice none 0 0], iv 0]) ((aI (p := 4) (q := 5) (ty := 41) (by rfl) _ bU.o _ (by rfl) Tryz.underlying41 rfl (by kernel_rfl)).trans (by rfl)) rfl ?_; have e1 : ko s r = (cJ r.node r.count n, 0) := by unfold ko; rw [HF.o]; rfl
  have hl : fq (fun k => B0 <= k) wr.heap.size wb (cJ r.node r.count n) ⟨some ⟨m, 0, none⟩, n, none, 0, none, 0, none, 0, [], []⟩ := by
   refine ⟨?_, World.ownsRow_nil _ _ _ _, World.ownsRow_nil _ _ _ _, World.ownsRow_nil _ _ _ _, rfl, rfl, fun k h => absurd h (by simp [cJ]), fun k h => absurd h (by simp [cJ]), fun _ _ e => (by cases e), fun _ _ e => (by cases e), fun _ _ e => (by cases e), fun _ e => (by cases e), fun _ e => (by cases e), fun _ e => (by cases e)⟩; have h := dW.o; unfold cJ; simp only [List.length_replicate]; exact h
  refine ⟨⟨⟨some ⟨m, 0, none⟩, n, none, 0, none, 0, none, 0, [], []⟩, ?_, ?_⟩, ?_⟩
  ·rw [e1]
   unfold St.val cJ
   simp
  ·rw [e1]
   exact hl.deep fun k hk => by have := (hl.lt hk).1; have := aN.o.fi.low.size; have := aN.o.fi.gt; omega
  exact aN.o.fi.low.trans (HO.o.below aN.o.fi.low.size fun k e => by have := aN.o.fi.gt; omega)
 have fL := ak (iu.o hk)
 go_wp2_with fail
 exact ju.o _ _ (by apply fL.o _ aN.o _ (by kernel_rfl))
theorem fh.GK {base b : Nat} {s : St} {y : Sy} {w : World} (h : fh base w b s y) {k : Nat} (hk : k < s.com.length) : ∃ cb, y.C = some ⟨cb, 0, none⟩ /\ w.cell? ⟨cb, k * 6 + 5, none⟩ = some (.bool (jA s k).over) /\ w.frozen? ⟨cb, k * 6 + 5, none⟩ = false /\
  fh base (w.setCell ⟨cb, k * 6 + 5, none⟩ (.bool true)) b (dn s k) y /\ Only (fun k => some k = blk y.C) w (w.setCell ⟨cb, k * 6 + 5, none⟩ (.bool true)) := by
 have hl := h.lists.jw; have hcs := h.lists.cs; have hca : jA s k = s.com[k] := by unfold jA; rw [List.getElem?_eq_getElem hk]; rfl
 rcases hl.2 with ⟨_, h2⟩ | ⟨g, cap, cur, e, k2, k3, k4, k5, k6, k7⟩
 ·omega
 simp only [Value.slice.injEq] at e
 have hC : y.C = some ⟨g, 0, none⟩ := e.1; rw [hC] at hl; obtain ⟨hc, _⟩ := cR hl; have hfit := iI s.com y.cs; have hzl := cY Co.vals hcs; have hm := Nat.mul_le_mul_right 6 hk; have hfl := aW hfit.len; rw [hzl] at hfl; obtain ⟨r1, r2, _⟩ := mo (o := k * 6 + 5) (l := [.bool true]) hl (by simp; omega) (by simp [Value.oneCell']); have tU : Only (fun k => some k = blk y.C) w (w.setCell ⟨g, k * 6 + 5, none⟩ (.bool true)) := r2.mono fun j _ e => by rw [hC, e]; rfl
 refine ⟨g, hC, ?_, ?_, ?_, tU⟩
 ·refine hc.cell ?_
  rw [eG (sz := 6) hfit.len k (by rw [hzl]; exact hk) 5 (by decide), List.getElem_zipWith, hca]
  rfl
 ·refine hc.frozen ?_
  omega
 have hov : over (List.zipWith Co.vals s.com y.cs).flatten (k * 6 + 5) [.bool true] = (List.zipWith Co.vals (dn s k).com y.cs).flatten := by
  have hky : k < y.cs.length := by omega
  have e1 : List.zipWith Co.vals (dn s k).com y.cs = (List.zipWith Co.vals s.com y.cs).set k (({ s.com[k] with over := true } : Co).vals y.cs[k]) := by
   unfold dn; rw [hca]
   apply List.ext_getElem
   ·simp
   intro i h1 h2
   simp only [List.getElem_zipWith, List.getElem_set]
   split
   ·rename_i hik
    subst hik
    simp
   rfl
  rw [e1, <- mq (sz := 6) hfit.len rfl (by rw [hzl]; exact hk)]; have hq : (List.zipWith Co.vals s.com y.cs).flatten.drop (k * 6) = s.com[k].vals y.cs[k] ++ (List.zipWith Co.vals s.com y.cs).flatten.drop ((k + 1) * 6) := by
   rw [cN hfit.len k (by omega), cN hfit.len (k + 1) (by omega), List.drop_eq_getElem_cons (by rw [hzl]; exact hk), List.getElem_zipWith, List.flatten_cons]
  have hs : (List.zipWith Co.vals s.com y.cs).flatten = (List.zipWith Co.vals s.com y.cs).flatten.take (k * 6) ++ (s.com[k].vals y.cs[k] ++ (List.zipWith Co.vals s.com y.cs).flatten.drop ((k + 1) * 6)) := by rw [<- hq, List.take_append_drop]
  have hA : ((List.zipWith Co.vals s.com y.cs).flatten.take (k * 6)).length = k * 6 := by rw [List.length_take]; omega
  generalize (List.zipWith Co.vals s.com y.cs).flatten.take (k * 6) = A at hs hA
  generalize (List.zipWith Co.vals s.com y.cs).flatten.drop ((k + 1) * 6) = Z at hs hq
  rw [hs, <- hA, jE A (s.com[k].vals y.cs[k]) Z 5 [.bool true] (by show 5 + 1 <= 6; omega)]
  have eo : over (s.com[k].vals y.cs[k]) 5 [.bool true] = ({ s.com[k] with over := true } : Co).vals y.cs[k] := rfl; rw [eo]; exact (jH A (s.com[k].vals y.cs[k]) Z (({ s.com[k] with over := true } : Co).vals y.cs[k]) rfl).symm
 have hlen : (dn s k).com.length = s.com.length := by unfold dn; rw [List.length_set]
 refine h.Lv (l' := (dn s k).com) tU hlen (fun j h1 h2 => ?_) ?_
 ·have e9 : (dn s k).com = s.com.set k { jA s k with over := true } := rfl
  simp only [e9, List.getElem_set]
  split
  ·rename_i hkj
   subst hkj; rw [hca]; exact ⟨rfl, rfl⟩
  exact ⟨rfl, rfl⟩
 rw [hlen, <- hov, hC]
 exact r1
theorem Fi.over {B0 : Nat} {w0 wr : World} {g2 g6 : Nat} {s : St} {y : Sy} (h : Fi B0 w0 g2 g6 s y wr) {k : Nat} (hk : k < s.com.length) : ∃ cb, y.C = some ⟨cb, 0, none⟩ /\ wr.cell? ⟨cb, k * 6 + 5, none⟩ = some (.bool (jA s k).over) /\ wr.frozen? ⟨cb, k * 6 + 5, none⟩ = false /\
  Fi B0 w0 g2 g6 (dn s k) y (wr.setCell ⟨cb, k * 6 + 5, none⟩ (.bool true)) := by
 obtain ⟨cb, h1, h2, h3, h4, h5⟩ := h.own.GK hk; have hg := h.gt; have hcb : g2 + 3 <= cb := h.far cb (Or.inr (Or.inr (Or.inr (by rw [h1]; rfl)))); refine ⟨cb, h1, h2, h3, h.low.trans (h5.below h.low.size fun j e => ?_), h.gt, aJ h.res h5 fun e => ?_, h4, h.far⟩
 ·rw [h1] at e
  have e2 : j = cb := Option.some.inj e
  omega
 rw [h1] at e
 have e2 : g2 + 2 = cb := Option.some.inj e
 omega
set_option maxHeartbeats 4000000 in
theorem WO {B0 : Nat} {w0 : World} {g2 g6 : Nat} {s : St} {y : Sy} {r : Rc} {z : Lay} (hn : r.kind ≠ 7 -> je [1, 1, 1, 1, 1, 1, 1, 1, 1, 1, 1, 1, 1, 1] B0 w0 g2 g6 s y r z) : je [1, 1, 1, 1, 1, 1, 1, 1, 1, 1, 1, 1, 1] B0 w0 g2 g6 s y r z := by
 intro wr h cc hc; iterate 546 intro _
 conv at hc => rhs; whnf
 subst hc
 apply wp_seq_k
 intro K hK; have ju := ak hK; clear hK; have aN := ak h; have iu := ak hn; have q0 := h.dF.cell (j := 0) rfl; clear h hn
 go_upto_region 97 with (fail)
 by_cases hk : r.kind = 7
 ·have HK := ak hk
  have HB : Hid (aC s r = aV s r) := ak (bN aN.o.rt); rw [hk] at q0; clear hk iu; have HF : Hid (aC s r = lf s r) := ak (by rw [HB.o]; unfold aV; rw [HK.o]; rfl); have q1 := aN.o.dF.cell (j := 1) rfl; have q2 := aN.o.dF.cell (j := 2) rfl; have q3 := aN.o.dF.cell (j := 3) rfl
  go_upto_region 98 with (fail)
  apply wp_region_lit
  refine aD rfl 41 _ rfl g6 (s.va y) rfl rfl (aN.o.fi.own.br) Tryz.underlying41 rfl (by kernel_rfl) ?_
  go_wp2_with fail
  refine (iE s y r.tid wr aN.o.fi.own.sees (aN.o.sm.kZ).2.2.2).mono ?_; rintro e wl ⟨rfl, hbl⟩; have aN := ak (aN.o.later hbl); clear q0 q1 q2 q3 hbl; obtain ⟨f, hf⟩ := ah (cE s r.tid); have wW := ak hf; rw [hf]; clear hf
  by_cases ud : f < 0
  ·have fJ : Hid ((aC s r).2 = 8) := ak (by rw [HF.o]; unfold lf; rw [wW.o, if_pos ud])
   go_upto_region 100 with (fail)
   apply wp_region_lit
   refine Go.Great.wpList_runTo rfl (some 441) rfl (.agg ZA) wl (by go_simp) ?_; refine aA rfl 41 _ _ rfl (g2 + 2) ZA ZL rfl rfl rfl (aN.o.fi).res rfl (by kernel_rfl) (by simp [Value.oneCell']) fun w5 hpt hov => ?_
   have bU := ak hpt; have cj := ak hov; clear hpt hov
   go_wp2_with fail
   refine bodyPost_ret (v := .tuple #[.agg ZA, iv 8]) ((aI (p := 4) (q := 5) (ty := 41) (by rfl) _ bU.o _ (by rfl) Tryz.underlying41 rfl (by kernel_rfl)).trans (by rfl)) rfl ?_; exact bC (aN.o.fi) cj.o (fJ.o) (by decide)
  have Vo := ak ud
  have lD : Hid (∃ k : Nat, f = (k : Int) /\ k < s.com.length) := ak (by
   obtain ⟨k, h1, h2, _⟩ := rG (s := s) (u := r.tid) (by rw [wW.o]; exact ud); rw [wW.o] at h1; exact ⟨k, h1, h2⟩)
  obtain ⟨k, Xg, hkl⟩ := lD.o; clear lD; subst Xg; obtain ⟨cb, hC, hov, hfz, hfi⟩ := aN.o.fi.over hkl; have hcs := aN.o.fi.own.br.cell (j := 7) rfl; rw [hC] at hcs; have HC := ak hC; obtain ⟨n, hn⟩ := ah s.com.length; rw [hn] at hcs hkl; have z1 : (0 : Int) <= (k : Int) := by omega
  have z2 : (k : Int) < (n : Int) := by omega
  have Jm : Hid (aC s r = if (jA s k).over = true then (s, 9) else (dn s k, 0)) := ak (by
   rw [HF.o]; unfold lf; rw [wW.o, if_neg Vo.o, Int.toNat_natCast])
  obtain ⟨ov, VA⟩ := ah ((jA s k).over); rw [VA] at hov Jm; clear VA hC hn ud
  cases ov with
  | true =>
   have fJ : Hid ((aC s r).2 = 9) := ak (by rw [Jm.o]; rfl); clear hfi
   go_upto_region 102 with (fail)
   apply wp_region_lit
   refine Go.Great.wpList_runTo rfl (some 448) rfl (.agg ZA) wl (by go_simp) ?_; refine aA rfl 41 _ _ rfl (g2 + 2) ZA ZL rfl rfl rfl (aN.o.fi).res rfl (by kernel_rfl) (by simp [Value.oneCell']) fun w5 hpt hov => ?_
   have bU := ak hpt; have cj := ak hov; clear hpt hov
   go_wp2_with fail
   refine bodyPost_ret (v := .tuple #[.agg ZA, iv 9]) ((aI (p := 4) (q := 5) (ty := 41) (by rfl) _ bU.o _ (by rfl) Tryz.underlying41 rfl (by kernel_rfl)).trans (by rfl)) rfl ?_; exact bC (aN.o.fi) cj.o (fJ.o) (by decide)
  | false =>
   obtain ⟨s', hs'⟩ : ∃ x, dn s k = x := ⟨_, rfl⟩; have kX : Hid (aC s r = (s', 0)) := ak (by rw [Jm.o, <- hs']; rfl); rw [hs'] at hfi; obtain ⟨wq, lU⟩ := aj (wl.setCell ⟨cb, k * 6 + 5, none⟩ (.bool true)); rw [<- lU] at hfi; have eY := ak hfi; clear hfi hs' Jm
   go_upto_region 104 with (fail)
   rw [<- lU]; clear lU hcs hov hfz z1 z2 hkl
   go_upto_region 104 with (fail)
   apply wp_region_lit
   refine aD rfl 41 _ rfl g6 (s'.va y) rfl rfl (eY.o.own.br) Tryz.underlying41 rfl (by kernel_rfl) ?_; refine aA rfl 41 _ _ rfl (g2 + 2) (s'.va y) (s'.vl y) rfl rfl rfl (eY.o).res rfl (by kernel_rfl) (by kernel_rfl) fun w5 hpt hov => ?_
   have bU := ak hpt; have cj := ak hov; clear hpt hov
   go_wp2_with fail
   refine bodyPost_ret (v := .tuple #[.agg (s'.va y), iv 0]) ((aI (p := 4) (q := 5) (ty := 41) (by rfl) _ bU.o _ (by rfl) Tryz.underlying41 rfl (by kernel_rfl)).trans (by rfl)) rfl ?_; exact jS (eY.o) cj.o (kX.o) rfl
 have fL := ak (iu.o hk)
 go_wp2_with fail
 exact ju.o _ _ (by apply fL.o _ aN.o _ (by kernel_rfl))
