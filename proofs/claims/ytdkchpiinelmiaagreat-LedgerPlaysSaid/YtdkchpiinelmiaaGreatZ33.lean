/- Part 33 of the proof. Conditions: none. -/
import Derived.Test.YtdkchpiinelmiaaGreatZ31
import Derived.Test.YtdkchpiinelmiaaGreatZ32
namespace Go.Proofs.YtdkchpiinelmiaaGreat.Led
set_option maxRecDepth 100000
open Go.RowKit Go.Deep Mem fN Rec
theorem rz {r : Rc} (h : right r = true) : 1 <= r.kind /\ r.kind <= 12 := by
  unfold right at h; simp only [Bool.and_eq_true, decide_eq_true_eq] at h; exact h.1.1
theorem AH (s : St) (y : Sy) (r : Rc) (z : Lay) (base b : Nat) (w : World) (ho : Own base w b s y) (hh : Fr (fun j => iw b y j) w r.items r.nodes z) (hs : Small s) (hr : r.items.length <= 1000 /\ r.nodes.length <= 1000) :
    Calls Tryz.prog 30 #[(au b), r.val z] w fun e w' => e = .returned (iv (aC s r).2) /\ Step base b s y w (aC s r).1 w' := by
  cases hrt : right r with
  | false => exact AG s y r z base b w ho hh hs hr hrt
  | true =>
    obtain ⟨h1, h2⟩ := rz hrt; rcases (show r.kind = 1 \/ r.kind = 2 \/ r.kind = 3 \/ r.kind = 4 \/ r.kind = 5 \/ r.kind = 6 \/ r.kind = 7 \/ r.kind = 8 \/ r.kind = 9 \/ r.kind = 10 \/ r.kind = 11 \/ r.kind = 12 by omega) with hk | hk | hk | hk | hk | hk | hk | hk | hk | hk | hk | hk
    · exact E4 s y r z base b w ho hh hs hr hk hrt
    · exact E3 s y r z base b w ho hh hs hr hk hrt
    · exact E2 s y r z base b w ho hh hs hr hk hrt
    · exact E1 s y r z base b w ho hh hs hr hk hrt
    · exact E0 s y r z base b w ho hh hs hr hk hrt
    · exact EZ s y r z base b w ho hh hs hr hk hrt
    · exact EY s y r z base b w ho hh hs hr hk hrt
    · exact EX s y r z base b w ho hh hs hr hk hrt
    · exact EW s y r z base b w ho hh hs hr hk hrt
    · exact AE s y r z base b w ho hh hs hr hk hrt
    · exact AB s y r z base b w ho hh hs hr hk hrt
    exact AA s y r z base b w ho hh hs hr hk hrt
structure Sz (m : Nat) (s : St) : Prop where
  places : s.places.length <= 100
  ay : s.ay.length <= m
  dec : s.dec.length <= m
  com : s.com.length <= m
  pin : ∀ p ∈ s.ay, p.items.length <= 1000 /\ p.nodes.length <= 1000
  cin : ∀ p ∈ s.com, p.items.length <= 1000 /\ p.nodes.length <= 1000
theorem Sz.small {m : Nat} {s : St} (h : Sz m s) (hm : m <= 100000) : Small s := ⟨Nat.le_trans h.places (by decide), Nat.le_trans h.ay hm, Nat.le_trans h.dec hm, Nat.le_trans h.com hm, fun p hp => ⟨Nat.le_trans (h.pin p hp).1 (by decide), Nat.le_trans (h.pin p hp).2 (by decide)⟩, fun p hp => ⟨Nat.le_trans (h.cin p hp).1 (by decide), Nat.le_trans (h.cin p hp).2 (by decide)⟩⟩
theorem Sz.mono {m n : Nat} {s : St} (h : Sz m s) (hm : m <= n) : Sz n s := ⟨h.places, Nat.le_trans h.ay hm, Nat.le_trans h.dec hm, Nat.le_trans h.com hm, h.pin, h.cin⟩
theorem Sz.bJ {m : Nat} {s : St} (h : Sz m s) (c : Int) (p : Pl) : Sz m (bJ s c p) := ⟨by unfold Led.bJ; rw [List.length_set]; exact h.places, h.ay, h.dec, h.com, h.pin, h.cin⟩
theorem Sz.eX {m : Nat} {s : St} (h : Sz m s) (r : Rc) : Sz (m + 1) (eX s r) := ⟨h.places, Nat.le_succ_of_le h.ay, by unfold Led.eX; rw [Ip]; exact Nat.succ_le_succ h.dec, Nat.le_succ_of_le h.com, h.pin, h.cin⟩
theorem Sz.aO {m : Nat} {s : St} (h : Sz m s) (l : List It) : Sz m (aO s l) := by
  obtain ⟨b1, b2, b3, b4, _⟩ := iJ l s; exact ⟨by rw [b1]; exact h.places, by rw [b2]; exact h.ay, by rw [b3]; exact h.dec, by rw [b4]; exact h.com, by rw [b2]; exact h.pin, by rw [b4]; exact h.cin⟩
theorem Sz.cut {m : Nat} {s : St} (h : Sz m s) (k : Nat) : Sz m { s with ay := cut s.ay k } := ⟨h.places, Nat.le_trans (GY _ _) h.ay, h.dec, h.com, fun p hp => h.pin p (BI hp), h.cin⟩
theorem Sz.eN {m : Nat} {s : St} (h : Sz m s) (r : Rc) (hr : r.items.length <= 1000 /\ r.nodes.length <= 1000) : Sz (m + 1) (eN s r) := by
  refine ⟨h.places, ?_, Nat.le_succ_of_le h.dec, Nat.le_succ_of_le h.com, fun p hp => ?_, h.cin⟩
  · unfold Led.eN
    rw [kU _ (vT _ _)]; exact Nat.succ_le_succ h.ay
  unfold Led.eN fU at hp
  rcases List.mem_append.1 hp with hp | hp
  · exact h.pin p (List.mem_of_mem_take hp)
  rcases List.mem_cons.1 hp with rfl | hp
  · exact hr
  exact h.pin p (List.mem_of_mem_drop hp)
theorem Sz.commit {m : Nat} {s : St} (h : Sz m s) (r : Rc) (hr : r.items.length <= 1000 /\ r.nodes.length <= 1000) : Sz (m + 1) { s with com := s.com ++ [dw r] } := by
  refine ⟨h.places, Nat.le_succ_of_le h.ay, Nat.le_succ_of_le h.dec, ?_, h.pin, fun p hp => ?_⟩
  · rw [List.length_append]
    exact Nat.succ_le_succ h.com
  rcases List.mem_append.1 hp with hp | hp
  · exact h.cin p hp
  rw [List.mem_singleton.1 hp]
  exact hr
theorem Sz.dn {m : Nat} {s : St} (h : Sz m s) (k : Nat) : Sz m (dn s k) := by
  refine ⟨h.places, h.ay, h.dec, ?_, h.pin, fun p hp => ?_⟩
  · unfold Led.dn
    rw [List.length_set]; exact h.com
  unfold Led.dn at hp
  rcases List.mem_or_eq_of_mem_set hp with hp | rfl
  · exact h.cin p hp
  unfold jA
  cases hk : s.com[k]? with
  | none => exact ⟨Nat.zero_le _, Nat.zero_le _⟩
  | some c => exact h.cin c (List.mem_of_getElem? hk)
theorem Sz.empty (m : Nat) (a c : Int) (n : Nat) (hn : n <= 16) : Sz m (cJ a c n) := ⟨by unfold cJ; rw [List.length_replicate]; omega, Nat.zero_le _, Nat.zero_le _, Nat.zero_le _, fun p hp => (by cases hp), fun p hp => (by cases hp)⟩
theorem Sz.past {m : Nat} {s : St} (h : Sz m s) (r : Rc) : Sz (m + 1) (dK s r).1 := by
  unfold dK
  repeat' split
  all_goals first | exact h.mono (Nat.le_succ m) | exact h.eX r
theorem Sz.begin_ {m : Nat} {s : St} (h : Sz m s) (r : Rc) : Sz (m + 1) (gj s r).1 := by
  have h1 := h.mono (Nat.le_succ m); unfold gj
  repeat' (first | exact h1 | (exact ⟨h1.places, h1.ay, h1.dec, h1.com, h1.pin, h1.cin⟩) | split)
theorem Sz.TP {m : Nat} {s : St} (h : Sz m s) (r : Rc) : Sz (m + 1) (eB s r).1 := by
  have h1 := h.mono (Nat.le_succ m); unfold eB
  repeat' (first | exact h1 | (exact h1.bJ _ _) | split)
theorem Sz.Hf {m : Nat} {s : St} (h : Sz m s) (r : Rc) (hr : r.items.length <= 1000 /\ r.nodes.length <= 1000) : Sz (m + 1) (bq s r).1 := by
  have h1 := h.mono (Nat.le_succ m); unfold bq
  repeat' (first | exact h1 | (exact h.eN r hr) | split)
theorem Sz.refuse {m : Nat} {s : St} (h : Sz m s) (r : Rc) : Sz (m + 1) (dH s r).1 := by
  have h1 := h.mono (Nat.le_succ m); unfold dH
  split
  · exact h1
  split
  · exact h1
  exact h.past r
theorem Sz.vW {m : Nat} {s : St} (h : Sz m s) (r : Rc) : Sz (m + 1) (cK s r).1 := by
  unfold cK
  split
  · exact h.refuse r
  exact (Sz.cut (by split
                    · exact h.aO _
                    · exact h) _).eX r
theorem Sz.Km {m : Nat} {s : St} (h : Sz m s) (r : Rc) (hr : r.items.length <= 1000 /\ r.nodes.length <= 1000) : Sz (m + 1) (cQ s r).1 := by
  have h1 := h.mono (Nat.le_succ m); unfold cQ
  repeat' (first | exact h1 | (exact h.commit r hr) | split)
theorem Sz.end_ {m : Nat} {s : St} (h : Sz m s) (r : Rc) : Sz (m + 1) (lf s r).1 := by
  have h1 := h.mono (Nat.le_succ m); unfold lf
  repeat' (first | exact h1 | (exact h1.dn _) | split)
theorem Sz.Y9 {m : Nat} {s : St} (h : Sz m s) (r : Rc) : Sz (m + 1) (iz s r).1 := by
  have h1 := h.mono (Nat.le_succ m); unfold iz
  repeat' (first | exact h1 | (exact h1.bJ _ _) | split)
theorem Sz.in_ {m : Nat} {s : St} (h : Sz m s) (r : Rc) : Sz (m + 1) (vG s r).1 := by
  have h1 := h.mono (Nat.le_succ m); unfold vG
  repeat' (first | exact h1 | (exact h1.bJ _ _) | split)
theorem Sz.W4 {m : Nat} {s : St} (h : Sz m s) (r : Rc) : Sz (m + 1) (fY s r).1 := by
  have h1 := h.mono (Nat.le_succ m); unfold fY
  repeat' (first | exact h1 | (exact h1.bJ _ _) | split)
theorem Sz.follow {m : Nat} {s : St} (h : Sz m s) (r : Rc) (hr : r.items.length <= 1000 /\ r.nodes.length <= 1000) : Sz (m + 1) (aC s r).1 := by
  have h1 := h.mono (Nat.le_succ m); unfold aC
  cases hrt : right r with
  | false => exact h1
  | true =>
    rw [if_neg (by decide)]; unfold aV
    by_cases hk : r.kind = 1
    · rw [if_pos hk]
      exact Sz.empty _ _ _ _ (by have := iM hrt hk; omega)
    rw [if_neg hk]; clear hk
    by_cases hk : r.kind = 2
    · rw [if_pos hk]
      exact h.begin_ r
    rw [if_neg hk]; clear hk
    by_cases hk : r.kind = 3
    · rw [if_pos hk]
      exact h.TP r
    rw [if_neg hk]; clear hk
    by_cases hk : r.kind = 4
    · rw [if_pos hk]
      exact h.Hf r hr
    rw [if_neg hk]; clear hk
    by_cases hk : r.kind = 6
    · rw [if_pos hk]
      exact h.vW r
    rw [if_neg hk]; clear hk
    by_cases hk : r.kind = 11
    · rw [if_pos hk]
      exact h.past r
    rw [if_neg hk]; clear hk
    by_cases hk : r.kind = 5
    · rw [if_pos hk]
      exact h.Km r hr
    rw [if_neg hk]; clear hk
    by_cases hk : r.kind = 7
    · rw [if_pos hk]
      exact h.end_ r
    rw [if_neg hk]; clear hk
    by_cases hk : r.kind = 8
    · rw [if_pos hk]
      exact h.Y9 r
    rw [if_neg hk]; clear hk
    by_cases hk : r.kind = 9
    · rw [if_pos hk]
      exact h.in_ r
    rw [if_neg hk]; clear hk
    by_cases hk : r.kind = 10
    · rw [if_pos hk]
      exact h.W4 r
    rw [if_neg hk]; clear hk; exact h1
def vC : St := ⟨0, 0, 0, 0, [], [], [], []⟩
def iA : St -> List Rc -> St × Int
  | s, [] => (s, 0)
  | s, r :: l => if (aC s r).2 = 0 then iA (aC s r).1 l else (vC, (aC s r).2)
theorem zh {s : St} {l : List Rc} {k : Nat} (h : k < l.length) : iA s (l.drop k) = if (aC s l[k]).2 = 0 then iA (aC s l[k]).1 (l.drop (k + 1)) else (vC, (aC s l[k]).2) := by
 rw [List.drop_eq_getElem_cons h]
 rfl
theorem kN (w : World) : cL w vC ⟨none, 0, none, 0, none, 0, none, 0, [], []⟩ := ⟨gN _ _ _, gN _ _ _, gN _ _ _, gN _ _ _, rfl, rfl, fun k h => absurd h (by simp [vC]), fun k h => absurd h (by simp [vC]), fun _ => rfl, fun _ => rfl, fun _ => rfl, fun _ => rfl⟩
def Br (B : Nat) (w : World) (s : St) (y : Sy) : Prop := ∀ w', Only (fun k => k < B) w w' -> cL w' s y
theorem Br.sees {B : Nat} {w : World} {s : St} {y : Sy} (h : Br B w s y) : cL w s y := h _ (Only.refl _ _)
structure zM (w : World) (A : Option Addr) (l : List Rc) (zs : List Lay) : Prop where
 row : Sl w A 15 (List.zipWith Rc.vals l zs)
 len : zs.length = l.length
 each : ∀ k (h : k < l.length) (h' : k < zs.length), Two w l[k].items l[k].nodes zs[k]
theorem zM.later {w w' : World} {A : Option Addr} {l : List Rc} {zs : List Lay} (h : zM w A l zs) (hb : Below w.heap.size w w') : zM w' A l zs := ⟨h.row.later hb, h.len, fun k h1 h2 => (h.each k h1 h2).later hb⟩
structure TG (w wr : World) (s0 : St) (l : List Rc) (m k : Nat) (s : St) (y : Sy) : Prop where
 own : Own w.heap.size wr w.heap.size s y
 rest : iA s0 l = iA s (l.drop k)
 size : Sz (m + k) s
 low : Below w.heap.size w wr
 res : Cells wr (w.heap.size + 1) 32 ZL
 off : ¬ iw w.heap.size y (w.heap.size + 1)
set_option maxHeartbeats 8000000 in
theorem vB (s : St) (y : Sy) (l : List Rc) (zs : List Lay) (A : Option Addr) (cap m : Nat) (w : World) (h : cL w s y) (hz : Sz m s) (hr : zM w A l zs) (hs : ∀ r ∈ l, r.items.length <= 1000 /\ r.nodes.length <= 1000) (hl : m + l.length <= 100000) :
  Calls Tryz.prog 10 #[s.val y, .slice A l.length cap] w fun e w' => (∃ y', e = .returned (.tuple #[(iA s l).1.val y', iv (iA s l).2]) /\ Br w.heap.size w' (iA s l).1 y') /\ Below w.heap.size w w' := by
 obtain ⟨wb, hwb⟩ := aj ((w.alloc (.cells #[iv s.node, iv s.nodes, iv s.cells, iv s.epoch, .slice y.P s.places.length y.p, .slice y.Q s.ay.length y.q, .slice y.D s.dec.length y.d, .slice y.C s.com.length y.c] 32)).alloc (.cells #[iv 0, iv 0, iv 0, iv 0, .slice none 0 0, .slice none 0 0, .slice none 0 0, .slice none 0 0] 32)); have hb1 := av w (.cells #[iv s.node, iv s.nodes, iv s.cells, iv s.epoch, .slice y.P s.places.length y.p, .slice y.Q s.ay.length y.q, .slice y.D s.dec.length y.d, .slice y.C s.com.length y.c] 32); have hb : Below w.heap.size w wb := by rw [hwb]; exact hb1.alloc hb1.size _
 have hc : Cells wb w.heap.size 32 (s.vl y) := by rw [hwb]; exact (aB w 32 (s.vl y) _ rfl).later (av _ _)
 have hc2 : Cells wb (w.heap.size + 1) 32 ZL := by
  rw [hwb]; have h := aB (w.alloc (.cells #[iv s.node, iv s.nodes, iv s.cells, iv s.epoch, .slice y.P s.places.length y.p, .slice y.Q s.ay.length y.q, .slice y.D s.dec.length y.d, .slice y.C s.com.length y.c] 32)) 32 ZL _ rfl; rw [World.size_alloc] at h; exact h
 have FE := ak (za s y wb (h.later hb) (hz.small (by omega))); have HC := ak hc; have l7 := ak hc2; have HB := ak hb; have HZ := ak hz; have HR := ak hr; have HS := ak hs; obtain ⟨FF, hF⟩ := ah (iA s l); have HF := ak hF; rw [hF]; obtain ⟨n, hn⟩ := ah l.length; have HN := ak hn; rw [hn] at hl ⊢; unfold St.val at FE ⊢; clear h hz hr hs hb1 hb hc hc2 hF hn
 go_enter Tryz.func10, Tryz.ntmps10
 go_wp2_with fail
 rw [<- hwb]; clear hwb; refine FE.o.mono ?_; rintro e w2 ⟨⟨z, rfl, hli⟩, hb2⟩; have Vp := ak hli; have bZ := ak hb2; have HCa := ak (HC.o.later hb2); have HCb := ak (l7.o.later hb2); clear hli hb2; rename_i zy; refine zy _ _ ?_; refine aA rfl 32 _ _ rfl w.heap.size (s.va z) (s.vl z) rfl rfl rfl HCa.o rfl (by kernel_rfl) (by simp [Value.oneCell']) fun w3 hpt hov => ?_
 have hw1 : w.heap.size < wb.heap.size := HC.o.lt; have hw2 : w.heap.size + 1 < wb.heap.size := l7.o.lt; have HST : Hid (TG w w3 s l m 0 s z) := ak (by
  have DF := Vp.o.only hov (fun k _ e => by rw [e]; exact hw1) (fun k hk e => by have := (Vp.o.lt hk).1; omega)
  have hoff : ∀ k, rowsOf z k -> wb.heap.size <= k := fun k hk => (Vp.o.lt hk).1
  refine ⟨⟨Nat.le_refl _, hpt, DF.weak HB.o.size (fun k e => by unfold sb at e; omega), fun e => by have := hoff _ e; omega, by have := bZ.o.size; have := hov.size; omega⟩, by rw [List.drop_zero], HZ.o.mono (Nat.le_refl _), HB.o.trans ((bZ.o.mono HB.o.size).trans (hov.below (Nat.le_trans HB.o.size bZ.o.size) fun k e => by rw [e]; exact Nat.le_refl _)), aJ HCb.o hov (by omega), fun e => ?_⟩
  rcases e with e | e
  ·omega
  have := hoff _ e; omega)
 have mU := ak hw2; clear hpt hov hw1 hw2
 go_wp2_with fail
 go_loopw [13] (fun i wr => ∃ k : Nat, k <= n /\ i = iv (k : Int) /\ Hid (∃ sk yk, TG w wr s l m k sk yk)) (fun i _ => n - (intOf i).toNat)
 case atStart => exact ⟨0, Nat.zero_le _, rfl, ak ⟨_, _, HST.o⟩⟩
 case round =>
  obtain ⟨k, hk, rfl, HA⟩ := hrel; obtain ⟨sk, yk, hA⟩ := HA.o; have HP := ak hA; clear hA
  by_cases hlt : k < n
  ·have hlk : k < l.length := by have := HN.o; omega
   have Kt : k < zs.length := by have := HR.o.len; omega
   have hrr := HR.o.later HP.o.low; obtain ⟨ab, off, KA, bS⟩ := hrr.row k (by rw [List.length_zipWith]; omega); rw [List.getElem_zipWith] at bS; have Xu := ak (hrr.each k hlk Kt); have Fw := ak (HS.o l[k] (List.getElem_mem hlk)); have DW := ak (zh (s := sk) hlk); obtain ⟨r, hr⟩ := ah (l[k]); obtain ⟨z1, hz1⟩ := ah (zs[k]); have Wk := ak (HR.o.each k hlk Kt); rw [hr, hz1] at Xu Wk bS; rw [hr] at Fw DW; have HAA := ak KA; clear hr hz1 hrr; have x0 : wr.cell? ⟨ab, off + k * 15, none⟩ = some (iv r.kind) := bS 0 _ rfl; have x1 : wr.cell? ⟨ab, off + k * 15 + 1, none⟩ = some (iv r.tid.node) := bS 1 _ rfl; have x2 : wr.cell? ⟨ab, off + k * 15 + 2, none⟩ = some (iv r.tid.epoch) := bS 2 _ rfl; have x3 : wr.cell? ⟨ab, off + k * 15 + 3, none⟩ = some (iv r.tid.seq) := bS 3 _ rfl; have x4 : wr.cell? ⟨ab, off + k * 15 + 4, none⟩ = some (.slice z1.A r.items.length z1.c) := bS 4 _ rfl; have x5 : wr.cell? ⟨ab, off + k * 15 + 5, none⟩ = some (.slice z1.B r.nodes.length z1.d) := bS 5 _ rfl; have x6 : wr.cell? ⟨ab, off + k * 15 + 6, none⟩ = some (iv r.node) := bS 6 _ rfl; have x7 : wr.cell? ⟨ab, off + k * 15 + 7, none⟩ = some (iv r.count) := bS 7 _ rfl; have x8 : wr.cell? ⟨ab, off + k * 15 + 8, none⟩ = some (iv r.num) := bS 8 _ rfl; have x9 : wr.cell? ⟨ab, off + k * 15 + 9, none⟩ = some (iv r.cell) := bS 9 _ rfl; have x10 : wr.cell? ⟨ab, off + k * 15 + 10, none⟩ = some (iv r.status) := bS 10 _ rfl; have eW : wr.cell? ⟨ab, off + k * 15 + 11, none⟩ = some (iv r.hop) := bS 11 _ rfl; have eV : wr.cell? ⟨ab, off + k * 15 + 12, none⟩ = some (iv r.version) := bS 12 _ rfl; have eU : wr.cell? ⟨ab, off + k * 15 + 13, none⟩ = some (iv r.value) := bS 13 _ rfl; have dZ : wr.cell? ⟨ab, off + k * 15 + 14, none⟩ = some (.bool r.yes) := bS 14 _ rfl; clear bS hlk Kt; simp only [KA]; clear KA; obtain ⟨wx, hwx⟩ := aj (wr.alloc (.cells #[iv r.kind, iv r.tid.node, iv r.tid.epoch, iv r.tid.seq, .slice z1.A r.items.length z1.c, .slice z1.B r.nodes.length z1.d, iv r.node, iv r.count, iv r.num, iv r.cell, iv r.status, iv r.hop, iv r.version, iv r.value, .bool r.yes] 51)); have Bf : Below wr.heap.size wr wx := by rw [hwx]; exact av _ _
   have kX := ak (AH sk yk r z1 w.heap.size w.heap.size wx (HP.o.own.later Bf) (fun w9 h9 => Wk.o.later (HP.o.low.trans ((Bf.mono HP.o.low.size).trans (h9.below (Nat.le_trans HP.o.low.size Bf.size) fun j e => (HP.o.own.rT e).1)))) (HP.o.size.small (by omega)) Fw.o); have uj := ak Bf; unfold Rc.val at kX
   go_wp2_with fail
   rw [<- hwx]; clear hwx Bf x0 x1 x2 x3 x4 x5 x6 x7 x8 x9 x10 eW eV eU dZ; refine kX.o.mono ?_; rintro e w4 ⟨rfl, hst⟩; have YT := ak hst; clear hst; obtain ⟨q, hq⟩ := ah (aC sk r); have HQ := ak hq; rw [hq] at YT DW ⊢; clear hq
   by_cases he : q.2 = 0
   ·have kj : Hid (∃ s2 y2, TG w w4 s l m (k + 1) s2 y2) := ak (by
     obtain ⟨y2, g1, g2, g3⟩ := YT.o; have hx2 := uj.o.size; refine ⟨q.1, y2, g1, by rw [HP.o.rest, DW.o, if_pos he], ?_, ?_, ?_, fun e => ?_⟩
     ·rw [<- HQ.o]; exact HP.o.size.follow r Fw.o
     ·exact HP.o.low.trans ((uj.o.mono HP.o.low.size).trans (g2.below (Nat.le_trans HP.o.low.size hx2) fun j e => (HP.o.own.rT e).1))
     ·exact aJ (HP.o.res.later uj.o) g2 HP.o.off
     rcases g3 _ e with e | e
     ·exact HP.o.off e
     have := (HP.o.res.lt); omega)
    have hee : q.2 = 0 := he; simp only [hee]; clear he hee
    go_wp2_with fail
    go_roundw
    case rel => exact ⟨k + 1, by omega, by go_num, kj⟩
    case measure => simp [intOf]; omega
   have bf : Hid (FF = (vC, q.2)) := ak (by rw [<- HF.o, HP.o.rest, DW.o, if_neg he])
   have YX : Hid (Cells w4 (w.heap.size + 1) 32 ZL /\ Below w.heap.size w w4) := ak (by
    obtain ⟨y2, g1, g2, g3⟩ := YT.o; exact ⟨aJ (HP.o.res.later uj.o) g2 HP.o.off, HP.o.low.trans ((uj.o.mono HP.o.low.size).trans (g2.below (Nat.le_trans HP.o.low.size uj.o.size) fun j e => (HP.o.own.rT e).1))⟩)
   obtain ⟨ec, UW⟩ := ah q.2; rw [UW] at bf he ⊢; have hnz : (ec != 0) = true := by simpa using he
   clear UW
   go_upto_region 7 with (fail)
   apply wp_region_lit
   refine Go.Great.wpList_runTo rfl (some 21) rfl (.agg ZA) w4 (by go_simp) ?_; refine Go.Great.wpList_runTo rfl (some 22) rfl (iv ec) w4 (by rfl) ?_; refine aA rfl 32 _ _ rfl (w.heap.size + 1) ZA ZL rfl rfl rfl YX.o.1 rfl (by kernel_rfl) (by simp [Value.oneCell']) fun w5 hpt hov => ?_
   have bU := ak hpt; have cj := ak hov; clear hpt hov
   go_wp2_with fail
   refine bodyPost_ret (v := .tuple #[.agg ZA, iv ec]) ((aI (p := 4) (q := 5) (ty := 32) (by rfl) _ bU.o _ (by rfl) Tryz.underlying32 rfl (by kernel_rfl)).trans (by rfl)) rfl ?_; rw [bf.o]; exact ⟨⟨_, rfl, fun _ _ => kN _⟩, YX.o.2.trans (cj.o.below YX.o.2.size fun j e => by rw [e]; exact Nat.le_succ _)⟩
  have bf : Hid (FF = (sk, 0)) := ak (by rw [<- HF.o, HP.o.rest, List.drop_of_length_le (by have := HN.o; omega)]; rfl)
  go_upto_region 9 with (fail)
  apply wp_region_lit
  refine aD rfl 32 _ rfl w.heap.size (sk.va yk) rfl rfl HP.o.own.br Tryz.underlying32 rfl (by kernel_rfl) ?_; refine aA rfl 32 _ _ rfl (w.heap.size + 1) (sk.va yk) (sk.vl yk) rfl rfl rfl HP.o.res rfl (by kernel_rfl) (by simp [Value.oneCell']) fun w5 hpt hov => ?_
  have bU := ak hpt; have cj := ak hov; clear hpt hov
  go_wp2_with fail
  refine bodyPost_ret (v := .tuple #[.agg (sk.va yk), iv 0]) ((aI (p := 4) (q := 5) (ty := 32) (by rfl) _ bU.o _ (by rfl) Tryz.underlying32 rfl (by kernel_rfl)).trans (by rfl)) rfl ?_; rw [bf.o]; refine ⟨⟨yk, rfl, ?_⟩, HP.o.low.trans (cj.o.below HP.o.low.size fun j e => by rw [e]; exact Nat.le_succ _)⟩; have h9 := HP.o.own.lists.only cj.o (fun j _ e => by unfold sb; omega) (fun j hj e => HP.o.off (by rw [<- e]; exact Or.inr hj)); intro w6 h6; exact (h9.only h6 (fun j _ e => by unfold sb; omega) (fun j hj e => by have := (h9.lt hj).1; omega)).sees
