/-
  Layer 8: records one behind the other: the walk.
  Conditions: none.
-/
import Derived.Test.YtalhbblmnahcdaaGreatPa43
namespace Go.Proofs.YtalhbblmnahcdaaGreat.Led
set_option maxRecDepth 100000
open Go.RowKit Go.Deep Go.Proofs.YtalhbblmnahcdaaGreat.Mem Go.Proofs.YtalhbblmnahcdaaGreat.Item Go.Proofs.YtalhbblmnahcdaaGreat.Rec
theorem applyL_step {s : St} {l : List Rc} {k : Nat} (h : k < l.length) : applyL s (l.drop k) = if (fFollow s l[k]).2 = 0 then applyL (fFollow s l[k]).1 (l.drop (k + 1)) else (stZ, (fFollow s l[k]).2) := by
 rw [List.drop_eq_getElem_cons h]
 rfl
theorem sees_zero (w : World) : Sees w stZ ⟨none, 0, none, 0, none, 0, none, 0, [], []⟩ := ⟨sl_nil _ _ _, sl_nil _ _ _, sl_nil _ _ _, sl_nil _ _ _, rfl, rfl, fun k h => absurd h (by simp [stZ]), fun k h => absurd h (by simp [stZ]), fun _ => rfl, fun _ => rfl, fun _ => rfl, fun _ => rfl⟩
/-- A state's lists are there, and stay whatever is written below block B. -/
def Stays (B : Nat) (w : World) (s : St) (y : Sy) : Prop := ∀ w', Only (fun k => k < B) w w' → Sees w' s y
theorem Stays.sees {B : Nat} {w : World} {s : St} {y : Sy} (h : Stays B w s y) : Sees w s y := h _ (Only.refl _ _)
theorem Stays.only {B B' : Nat} {w w' : World} {s : St} {y : Sy} (h : Stays B w s y) (ho : Only (fun k => k < B) w w') (hB : B' ≤ B) : Stays B' w' s y := fun w2 h2 => h w2 (ho.trans h2 fun k _ e => by omega)
/-- Records that came in. -/
structure Recs (w : World) (A : Option Addr) (l : List Rc) (zs : List Lay) : Prop where
 row : Sl w A 15 (List.zipWith Rc.vals l zs)
 len : zs.length = l.length
 each : ∀ k (h : k < l.length) (h' : k < zs.length), Two w l[k].items l[k].nodes zs[k]
theorem Recs.later {w w' : World} {A : Option Addr} {l : List Rc} {zs : List Lay} (h : Recs w A l zs) (hb : Below w.heap.size w w') : Recs w' A l zs := ⟨h.row.later hb, h.len, fun k h1 h2 => (h.each k h1 h2).later hb⟩
/-- Where Apply stands ahead of a record. -/
structure ApSt (w wr : World) (s0 : St) (l : List Rc) (m k : Nat) (s : St) (y : Sy) : Prop where
 own : Own w.heap.size wr w.heap.size s y
 rest : applyL s0 l = applyL s (l.drop k)
 size : Sz (m + k) s
 low : Below w.heap.size w wr
 res : Cells wr (w.heap.size + 1) 32 [.int .i64 0, .int .i64 0, .int .i64 0, .int .i64 0, .slice none 0 0, .slice none 0 0, .slice none 0 0, .slice none 0 0]
 off : ¬ turf w.heap.size y (w.heap.size + 1)
set_option maxHeartbeats 8000000 in
theorem Apply_any (s : St) (y : Sy) (l : List Rc) (zs : List Lay) (A : Option Addr) (cap m : Nat) (w : World) (h : Sees w s y) (hz : Sz m s) (hr : Recs w A l zs) (hs : ∀ r ∈ l, r.items.length ≤ 1000 ∧ r.nodes.length ≤ 1000) (hl : m + l.length ≤ 100000) :
  Calls Tryz.prog 12 #[s.val y, .slice A l.length cap] w fun e w' => (∃ y', e = .returned (.tuple #[(applyL s l).1.val y', .int .i64 (applyL s l).2]) ∧ Stays w.heap.size w' (applyL s l).1 y') ∧ Below w.heap.size w w' := by
 obtain ⟨wb, hwb⟩ : ∃ v, v = (w.alloc (.cells #[.int .i64 s.node, .int .i64 s.nodes, .int .i64 s.cells, .int .i64 s.epoch, .slice y.P s.places.length y.p, .slice y.Q s.prep.length y.q, .slice y.D s.dec.length y.d, .slice y.C s.com.length y.c] 32)).alloc (.cells #[.int .i64 0, .int .i64 0, .int .i64 0, .int .i64 0, .slice none 0 0, .slice none 0 0, .slice none 0 0, .slice none 0 0] 32) := ⟨_, rfl⟩
 have hb1 := below_alloc w (.cells #[.int .i64 s.node, .int .i64 s.nodes, .int .i64 s.cells, .int .i64 s.epoch, .slice y.P s.places.length y.p, .slice y.Q s.prep.length y.q, .slice y.D s.dec.length y.d, .slice y.C s.com.length y.c] 32)
 have hb : Below w.heap.size w wb := by rw [hwb]; exact hb1.alloc hb1.size _
 have hc : Cells wb w.heap.size 32 [.int .i64 s.node, .int .i64 s.nodes, .int .i64 s.cells, .int .i64 s.epoch, .slice y.P s.places.length y.p, .slice y.Q s.prep.length y.q, .slice y.D s.dec.length y.d, .slice y.C s.com.length y.c] := by rw [hwb]; exact (cells_new w 32 [.int .i64 s.node, .int .i64 s.nodes, .int .i64 s.cells, .int .i64 s.epoch, .slice y.P s.places.length y.p, .slice y.Q s.prep.length y.q, .slice y.D s.dec.length y.d, .slice y.C s.com.length y.c] _ rfl).later (below_alloc _ _)
 have hc2 : Cells wb (w.heap.size + 1) 32 [.int .i64 0, .int .i64 0, .int .i64 0, .int .i64 0, .slice none 0 0, .slice none 0 0, .slice none 0 0, .slice none 0 0] := by
  rw [hwb]
  have h := cells_new (w.alloc (.cells #[.int .i64 s.node, .int .i64 s.nodes, .int .i64 s.cells, .int .i64 s.epoch, .slice y.P s.places.length y.p, .slice y.Q s.prep.length y.q, .slice y.D s.dec.length y.d, .slice y.C s.com.length y.c] 32)) 32 [.int .i64 0, .int .i64 0, .int .i64 0, .int .i64 0, .slice none 0 0, .slice none 0 0, .slice none 0 0, .slice none 0 0] _ rfl
  rw [World.size_alloc] at h
  exact h
 have HCL := Lib.hid (clone_state s y wb (h.later hb) (hz.small (by omega)))
 have HC := Lib.hid hc
 have HC2 := Lib.hid hc2
 have HB := Lib.hid hb
 have HZ := Lib.hid hz
 have HR := Lib.hid hr
 have HS := Lib.hid hs
 obtain ⟨FF, hF⟩ : ∃ F, applyL s l = F := ⟨_, rfl⟩
 have HF := Lib.hid hF
 rw [hF]
 obtain ⟨n, hn⟩ : ∃ n, l.length = n := ⟨_, rfl⟩
 have HN := Lib.hid hn
 rw [hn] at hl ⊢
 unfold St.val at HCL ⊢
 clear h hz hr hs hb1 hb hc hc2 hF hn
 go_enter Tryz.func12, Tryz.ntmps12
 go_wp2_with fail
 rw [← hwb]
 clear hwb
 refine HCL.out.mono ?_
 rintro e w2 ⟨⟨z, rfl, hli⟩, hb2⟩
 have HLI := Lib.hid hli
 have HB2 := Lib.hid hb2
 have HCa := Lib.hid (HC.out.later hb2)
 have HCb := Lib.hid (HC2.out.later hb2)
 clear hli hb2
 rename_i hKK
 refine hKK _ _ ?_
 refine wpList_store_cells rfl 32 _ _ rfl w.heap.size #[.int .i64 s.node, .int .i64 s.nodes, .int .i64 s.cells, .int .i64 s.epoch, .slice z.P s.places.length z.p, .slice z.Q s.prep.length z.q, .slice z.D s.dec.length z.d, .slice z.C s.com.length z.c] [.int .i64 s.node, .int .i64 s.nodes, .int .i64 s.cells, .int .i64 s.epoch, .slice z.P s.places.length z.p, .slice z.Q s.prep.length z.q, .slice z.D s.dec.length z.d, .slice z.C s.com.length z.c] rfl rfl rfl HCa.out rfl (by kernel_rfl) (by simp [Value.oneCell']) fun w3 hpt hov => ?_
 have hw1 : w.heap.size < wb.heap.size := HC.out.lt
 have hw2 : w.heap.size + 1 < wb.heap.size := HC2.out.lt
 have HST : Hid (ApSt w w3 s l m 0 s z) := Lib.hid (by
  have hl3 := HLI.out.only hov (fun k _ e => by rw [e]; exact hw1) (fun k hk e => by have := (HLI.out.lt hk).1; omega)
  have hoff : ∀ k, rowsOf z k → wb.heap.size ≤ k := fun k hk => (HLI.out.lt hk).1
  refine ⟨⟨Nat.le_refl _, hpt, hl3.weak HB.out.size (fun k e => by unfold sb at e; omega), fun e => by have := hoff _ e; omega, by have := HB2.out.size; have := hov.size; omega⟩, by rw [List.drop_zero], HZ.out.mono (Nat.le_refl _), HB.out.trans ((HB2.out.mono HB.out.size).trans (hov.below (Nat.le_trans HB.out.size HB2.out.size) fun k e => by rw [e]; exact Nat.le_refl _)), cells_only HCb.out hov (by omega), fun e => ?_⟩
  rcases e with e | e
  ·omega
  ·have := hoff _ e; omega)
 have HLT := Lib.hid hw2
 clear hpt hov hw1 hw2
 go_wp2_with fail
 go_loopw [13] (fun i wr => ∃ k : Nat, k ≤ n ∧ i = .int .i64 (k : Int) ∧ Hid (∃ sk yk, ApSt w wr s l m k sk yk)) (fun i _ => n - (intOf i).toNat)
 case atStart => exact ⟨0, Nat.zero_le _, rfl, Lib.hid ⟨_, _, HST.out⟩⟩
 case round =>
  obtain ⟨k, hk, rfl, HA⟩ := hrel
  obtain ⟨sk, yk, hA⟩ := HA.out
  have HP := Lib.hid hA
  clear hA
  by_cases hlt : k < n
  ·have hlk : k < l.length := by have := HN.out; omega
   have hzk : k < zs.length := by have := HR.out.len; omega
   have hrr := HR.out.later HP.out.low
   obtain ⟨ab, off, hAA, hr0⟩ := hrr.row k (by rw [List.length_zipWith]; omega)
   rw [List.getElem_zipWith] at hr0
   have HTW := Lib.hid (hrr.each k hlk hzk)
   have HSR := Lib.hid (HS.out l[k] (List.getElem_mem hlk))
   have HAP := Lib.hid (applyL_step (s := sk) hlk)
   obtain ⟨r, hr⟩ : ∃ r, l[k] = r := ⟨_, rfl⟩
   obtain ⟨z1, hz1⟩ : ∃ z, zs[k] = z := ⟨_, rfl⟩
   have HTW0 := Lib.hid (HR.out.each k hlk hzk)
   rw [hr, hz1] at HTW HTW0 hr0
   rw [hr] at HSR HAP
   have HAA := Lib.hid hAA
   clear hr hz1 hrr
   have x0 : wr.cell? ⟨ab, off + k * 15, none⟩ = some (.int .i64 r.kind) := hr0 0 _ rfl
   have x1 : wr.cell? ⟨ab, off + k * 15 + 1, none⟩ = some (.int .i64 r.tid.node) := hr0 1 _ rfl
   have x2 : wr.cell? ⟨ab, off + k * 15 + 2, none⟩ = some (.int .i64 r.tid.epoch) := hr0 2 _ rfl
   have x3 : wr.cell? ⟨ab, off + k * 15 + 3, none⟩ = some (.int .i64 r.tid.seq) := hr0 3 _ rfl
   have x4 : wr.cell? ⟨ab, off + k * 15 + 4, none⟩ = some (.slice z1.A r.items.length z1.c) := hr0 4 _ rfl
   have x5 : wr.cell? ⟨ab, off + k * 15 + 5, none⟩ = some (.slice z1.B r.nodes.length z1.d) := hr0 5 _ rfl
   have x6 : wr.cell? ⟨ab, off + k * 15 + 6, none⟩ = some (.int .i64 r.node) := hr0 6 _ rfl
   have x7 : wr.cell? ⟨ab, off + k * 15 + 7, none⟩ = some (.int .i64 r.count) := hr0 7 _ rfl
   have x8 : wr.cell? ⟨ab, off + k * 15 + 8, none⟩ = some (.int .i64 r.num) := hr0 8 _ rfl
   have x9 : wr.cell? ⟨ab, off + k * 15 + 9, none⟩ = some (.int .i64 r.cell) := hr0 9 _ rfl
   have x10 : wr.cell? ⟨ab, off + k * 15 + 10, none⟩ = some (.int .i64 r.status) := hr0 10 _ rfl
   have x11 : wr.cell? ⟨ab, off + k * 15 + 11, none⟩ = some (.int .i64 r.hop) := hr0 11 _ rfl
   have x12 : wr.cell? ⟨ab, off + k * 15 + 12, none⟩ = some (.int .i64 r.version) := hr0 12 _ rfl
   have x13 : wr.cell? ⟨ab, off + k * 15 + 13, none⟩ = some (.int .i64 r.value) := hr0 13 _ rfl
   have x14 : wr.cell? ⟨ab, off + k * 15 + 14, none⟩ = some (.bool r.yes) := hr0 14 _ rfl
   clear hr0 hlk hzk
   simp only [hAA]
   clear hAA
   obtain ⟨wx, hwx⟩ : ∃ v, v = wr.alloc (.cells #[.int .i64 r.kind, .int .i64 r.tid.node, .int .i64 r.tid.epoch, .int .i64 r.tid.seq, .slice z1.A r.items.length z1.c, .slice z1.B r.nodes.length z1.d, .int .i64 r.node, .int .i64 r.count, .int .i64 r.num, .int .i64 r.cell, .int .i64 r.status, .int .i64 r.hop, .int .i64 r.version, .int .i64 r.value, .bool r.yes] 51) := ⟨_, rfl⟩
   have hbx : Below wr.heap.size wr wx := by rw [hwx]; exact below_alloc _ _
   have HFO := Lib.hid (follow_any sk yk r z1 w.heap.size w.heap.size wx (HP.out.own.later hbx) (fun w9 h9 => HTW0.out.later (HP.out.low.trans ((hbx.mono HP.out.low.size).trans (h9.below (Nat.le_trans HP.out.low.size hbx.size) fun j e => (HP.out.own.turf_lt e).1)))) (HP.out.size.small (by omega)) HSR.out)
   have HBX := Lib.hid hbx
   unfold Rc.val at HFO
   go_wp2_with fail
   rw [← hwx]
   clear hwx hbx x0 x1 x2 x3 x4 x5 x6 x7 x8 x9 x10 x11 x12 x13 x14
   refine HFO.out.mono ?_
   rintro e w4 ⟨rfl, hst⟩
   have HFS := Lib.hid hst
   clear hst
   obtain ⟨q, hq⟩ : ∃ q, fFollow sk r = q := ⟨_, rfl⟩
   have HQ := Lib.hid hq
   rw [hq] at HFS HAP ⊢
   clear hq
   by_cases he : q.2 = 0
   ·have HN2 : Hid (∃ s2 y2, ApSt w w4 s l m (k + 1) s2 y2) := Lib.hid (by
     obtain ⟨y2, g1, g2, g3⟩ := HFS.out
     have hx2 := HBX.out.size
     refine ⟨q.1, y2, g1, by rw [HP.out.rest, HAP.out, if_pos he], ?_, ?_, ?_, fun e => ?_⟩
     ·rw [← HQ.out]; exact HP.out.size.follow r HSR.out
     ·exact HP.out.low.trans ((HBX.out.mono HP.out.low.size).trans (g2.below (Nat.le_trans HP.out.low.size hx2) fun j e => (HP.out.own.turf_lt e).1))
     ·exact cells_only (HP.out.res.later HBX.out) g2 HP.out.off
     ·rcases g3 _ e with e | e
      ·exact HP.out.off e
      ·have := (HP.out.res.lt); omega)
    have hee : q.2 = 0 := he
    simp only [hee]
    clear he hee
    go_wp2_with fail
    go_roundw
    case rel => exact ⟨k + 1, by omega, by go_num, HN2⟩
    case measure => simp [intOf]; omega
   ·have HFX : Hid (FF = (stZ, q.2)) := Lib.hid (by rw [← HF.out, HP.out.rest, HAP.out, if_neg he])
    have HC9 : Hid (Cells w4 (w.heap.size + 1) 32 [.int .i64 0, .int .i64 0, .int .i64 0, .int .i64 0, .slice none 0 0, .slice none 0 0, .slice none 0 0, .slice none 0 0] ∧ Below w.heap.size w w4) := Lib.hid (by
     obtain ⟨y2, g1, g2, g3⟩ := HFS.out
     exact ⟨cells_only (HP.out.res.later HBX.out) g2 HP.out.off, HP.out.low.trans ((HBX.out.mono HP.out.low.size).trans (g2.below (Nat.le_trans HP.out.low.size HBX.out.size) fun j e => (HP.out.own.turf_lt e).1))⟩)
    obtain ⟨ec, hec⟩ : ∃ e, q.2 = e := ⟨_, rfl⟩
    rw [hec] at HFX he ⊢
    have hnz : (ec != 0) = true := by simpa using he
    clear hec
    go_upto_region 7 with (fail)
    apply wp_region_lit
    refine Go.Great.wpList_runTo rfl (some 21) rfl (.agg #[.int .i64 0, .int .i64 0, .int .i64 0, .int .i64 0, .slice none 0 0, .slice none 0 0, .slice none 0 0, .slice none 0 0]) w4 (by go_simp) ?_
    refine Go.Great.wpList_runTo rfl (some 22) rfl (.int .i64 ec) w4 (by rfl) ?_
    refine wpList_store_cells rfl 32 _ _ rfl (w.heap.size + 1) #[.int .i64 0, .int .i64 0, .int .i64 0, .int .i64 0, .slice none 0 0, .slice none 0 0, .slice none 0 0, .slice none 0 0] [.int .i64 0, .int .i64 0, .int .i64 0, .int .i64 0, .slice none 0 0, .slice none 0 0, .slice none 0 0, .slice none 0 0] rfl rfl rfl HC9.out.1 rfl (by kernel_rfl) (by simp [Value.oneCell']) fun w5 hpt hov => ?_
    have HPT := Lib.hid hpt
    have HOV := Lib.hid hov
    clear hpt hov
    go_wp2_with fail
    refine bodyPost_ret (v := .tuple #[.agg #[.int .i64 0, .int .i64 0, .int .i64 0, .int .i64 0, .slice none 0 0, .slice none 0 0, .slice none 0 0, .slice none 0 0], .int .i64 ec]) ((ret_cell_tmp (p := 4) (q := 5) (ty := 32) (by rfl) _ HPT.out _ (by rfl) Tryz.underlying32 rfl (by kernel_rfl)).trans (by rfl)) rfl ?_
    rw [HFX.out]
    exact ⟨⟨_, rfl, fun _ _ => sees_zero _⟩, HC9.out.2.trans (HOV.out.below HC9.out.2.size fun j e => by rw [e]; exact Nat.le_succ _)⟩
  ·have HFX : Hid (FF = (sk, 0)) := Lib.hid (by rw [← HF.out, HP.out.rest, List.drop_of_length_le (by have := HN.out; omega)]; rfl)
   go_upto_region 9 with (fail)
   apply wp_region_lit
   refine wpList_load_cells rfl 32 _ rfl w.heap.size #[.int .i64 sk.node, .int .i64 sk.nodes, .int .i64 sk.cells, .int .i64 sk.epoch, .slice yk.P sk.places.length yk.p, .slice yk.Q sk.prep.length yk.q, .slice yk.D sk.dec.length yk.d, .slice yk.C sk.com.length yk.c] rfl rfl HP.out.own.cel Tryz.underlying32 rfl (by kernel_rfl) ?_
   refine wpList_store_cells rfl 32 _ _ rfl (w.heap.size + 1) #[.int .i64 sk.node, .int .i64 sk.nodes, .int .i64 sk.cells, .int .i64 sk.epoch, .slice yk.P sk.places.length yk.p, .slice yk.Q sk.prep.length yk.q, .slice yk.D sk.dec.length yk.d, .slice yk.C sk.com.length yk.c] [.int .i64 sk.node, .int .i64 sk.nodes, .int .i64 sk.cells, .int .i64 sk.epoch, .slice yk.P sk.places.length yk.p, .slice yk.Q sk.prep.length yk.q, .slice yk.D sk.dec.length yk.d, .slice yk.C sk.com.length yk.c] rfl rfl rfl HP.out.res rfl (by kernel_rfl) (by simp [Value.oneCell']) fun w5 hpt hov => ?_
   have HPT := Lib.hid hpt
   have HOV := Lib.hid hov
   clear hpt hov
   go_wp2_with fail
   refine bodyPost_ret (v := .tuple #[.agg #[.int .i64 sk.node, .int .i64 sk.nodes, .int .i64 sk.cells, .int .i64 sk.epoch, .slice yk.P sk.places.length yk.p, .slice yk.Q sk.prep.length yk.q, .slice yk.D sk.dec.length yk.d, .slice yk.C sk.com.length yk.c], .int .i64 0]) ((ret_cell_tmp (p := 4) (q := 5) (ty := 32) (by rfl) _ HPT.out _ (by rfl) Tryz.underlying32 rfl (by kernel_rfl)).trans (by rfl)) rfl ?_
   rw [HFX.out]
   refine ⟨⟨yk, rfl, ?_⟩, HP.out.low.trans (HOV.out.below HP.out.low.size fun j e => by rw [e]; exact Nat.le_succ _)⟩
   have h9 := HP.out.own.lists.only HOV.out (fun j _ e => by unfold sb; omega) (fun j hj e => HP.out.off (by rw [← e]; exact Or.inr hj))
   intro w6 h6
   exact (h9.only h6 (fun j _ e => by unfold sb; omega) (fun j hj e => by have := (h9.lt hj).1; omega)).sees
end Go.Proofs.YtalhbblmnahcdaaGreat.Led
