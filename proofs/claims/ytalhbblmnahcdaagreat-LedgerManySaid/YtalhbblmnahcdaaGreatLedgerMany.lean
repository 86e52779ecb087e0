/-
 Layer 8: several records at once do what they do one by one; one of them that can't follow lets none do: LedgerMany. Conditions: none.
-/
import Derived.Test.YtalhbblmnahcdaaGreatLedPlain
import Derived.Test.YtalhbblmnahcdaaGreatLedSmD
namespace Go.Proofs.YtalhbblmnahcdaaGreat.LedgerMany
set_option maxRecDepth 100000
open Go.ChangeShapes Go.WideShapes Go.ChangeAt Go.RowKit Go.Deep Go.Proofs.YtalhbblmnahcdaaGreat.Mem Go.Proofs.YtalhbblmnahcdaaGreat.Item Go.Proofs.YtalhbblmnahcdaaGreat.Rec Go.Proofs.YtalhbblmnahcdaaGreat.Led

theorem apply_more : ∀ (l : List Rc) (s : St) (r : Rc) {t : St}, applyL s l = (t, 0) → applyL s (l ++ [r]) = applyL t [r]
 | [], s, r, t, h => by
  have : s = t := congrArg Prod.fst h
  subst this
  rfl
 | x :: l, s, r, t, h => by
  rw [List.cons_append, applyL]
  rw [applyL] at h
  split at h
  ·rename_i h0
   rw [if_pos h0]
   exact apply_more l _ r h
  ·rename_i h0
   exact absurd (congrArg Prod.snd h) h0
theorem apply_fail : ∀ (l m : List Rc) (s : St) {t : St} {r : Rc}, applyL s l = (t, 0) → (fFollow t r).2 ≠ 0 → applyL s (l ++ r :: m) = (stZ, (fFollow t r).2)
 | [], m, s, t, r, h, h2 => by
  have : s = t := congrArg Prod.fst h
  subst this
  rw [List.nil_append, applyL, if_neg h2]
 | x :: l, m, s, t, r, h, h2 => by
  rw [List.cons_append, applyL]
  rw [applyL] at h
  split at h
  ·rename_i h0
   rw [if_pos h0]
   exact apply_fail l m _ h h2
  ·rename_i h0
   exact absurd (congrArg Prod.snd h) h0
/-- Where the loop stands. -/
structure Lm (W wr : World) (al t : St) (ya z : Sy) (b9 b11 : Nat) : Prop where
 low : Below W.heap.size W wr
 box9 : Cells wr b9 32 (al.vals ya)
 see9 : ∀ w', Only (fun k => k = b11) wr w' → Sees w' al ya
 box11 : Cells wr b11 32 (t.vals z)
 see11 : ∀ w', Only (fun k => k = b11) wr w' → Sees w' t z
 gt : W.heap.size ≤ b11 ∧ b9 ≠ b11
theorem Lm.later {W wr w' : World} {al t : St} {ya z : Sy} {b9 b11 : Nat} (h : Lm W wr al t ya z b9 b11) (hb : Below wr.heap.size wr w') : Lm W w' al t ya z b9 b11 :=
 ⟨h.low.trans (hb.mono h.low.size), h.box9.later hb, fun w2 h2 => h.see9 w2 ((Only.of_below hb).trans h2 fun _ _ e => e), h.box11.later hb, fun w2 h2 => h.see11 w2 ((Only.of_below hb).trans h2 fun _ _ e => e), h.gt⟩
/-- The state behind one record more. -/
theorem Lm.store {W wr w' : World} {al t u : St} {ya z zu : Sy} {b9 b11 : Nat} (h : Lm W wr al t ya z b9 b11) (hp : Cells w' b11 32 (u.vals zu)) (ho : Only (fun k => k = b11) wr w') (hs : ∀ w2, Only (fun k => k = b11) wr w2 → Sees w2 u zu) : Lm W w' al u ya zu b9 b11 :=
 ⟨h.low.trans (ho.below h.low.size fun j e => by rw [e]; exact h.gt.1), cells_only h.box9 ho (fun e => h.gt.2 e), fun w2 h2 => h.see9 w2 (ho.trans h2 fun _ _ e => e), hp, fun w2 h2 => hs w2 (ho.trans h2 fun _ _ e => e), h.gt⟩
theorem Sz.apply {l : List Rc} (hs : ∀ r ∈ l, r.items.length ≤ 1000 ∧ r.nodes.length ≤ 1000) : ∀ {m : Nat} {s t : St}, Sz m s → applyL s l = (t, 0) → Sz (m + l.length) t := by
 induction l with
 | nil => intro m s t h e; have : s = t := congrArg Prod.fst e; subst this; exact h
 | cons x l ih =>
  intro m s t h e
  rw [applyL] at e
  split at e
  ·have := ih (fun r hr => hs r (List.mem_cons_of_mem _ hr)) (h.follow x (hs x List.mem_cons_self)) e
   exact this.mono (by rw [List.length_cons]; omega)
  ·rename_i h0
   exact absurd (congrArg Prod.snd e) h0
def lm18 (va vb : Value) (sx : St) : Nat → Value → World → Prop
 | 0, v, _ => v = .int .i64 0
 | 1, v, _ => v = .bool true
 | 2, v, _ => v = .bool true
 | 3, v, _ => v = va
 | 4, v, w => ∃ zz, v = sx.val zz ∧ Sees w sx zz
 | 5, v, _ => v = vb
 | 6, v, w => ∃ zz, v = sx.val zz ∧ Sees w sx zz
 | 7, v, _ => v = .bool true
 | 8, v, _ => v = .bool true
 | 9, v, _ => v = .bool true
 | _, _, _ => True
theorem lm18_later {va vb : Value} {sx : St} {j : Nat} {v : Value} {w w' : World} (hb : Below w.heap.size w w') (h : lm18 va vb sx j v w) : lm18 va vb sx j v w' := by
 match j, h with
 | 0, h | 1, h | 2, h | 3, h | 5, h | 7, h | 8, h | 9, h => exact h
 | 4, h =>
  obtain ⟨zz, h1, h2⟩ := h
  exact ⟨zz, h1, h2.later hb⟩
 | 6, h =>
  obtain ⟨zz, h1, h2⟩ := h
  exact ⟨zz, h1, h2.later hb⟩
 | _ + 10, _ => exact trivial
set_option maxHeartbeats 4000000 in
theorem walk (b1 b2 b3 : Int) (A : Option Addr) (l : List Rc) (zs : List Lay) (cap : Nat) (A2 : Option Addr) (mo : List Rc) (zs2 : List Lay) (cap2 : Nat) (W : World) (hr : Recs W A l zs) (hl : l.length ≤ maxLen) (hs : ∀ r ∈ l, r.items.length ≤ maxLen ∧ r.nodes.length ≤ maxLen)
  (hr2 : Recs W A2 mo zs2) (hl2 : mo.length ≤ maxLen) (hs2 : ∀ r ∈ mo, r.items.length ≤ maxLen ∧ r.nodes.length ≤ maxLen) :
  Calls Tryz.prog 4 #[.agg #[.int .i64 b1, .int .i64 b2, .int .i64 b3], .slice A l.length cap, .slice A2 mo.length cap2] W fun e W' => e = .returned (.bool true) ∧ Below W.heap.size W W' := by
 obtain ⟨w1, hw1⟩ : ∃ v, v = W.alloc (.cells #[.int .i64 b1, .int .i64 b2, .int .i64 b3] 23) := ⟨_, rfl⟩
 have hb1 : Below W.heap.size W w1 := by rw [hw1]; exact below_alloc _ _
 have hc1 : Cells w1 W.heap.size 23 [.int .i64 b1, .int .i64 b2, .int .i64 b3] := by rw [hw1]; exact cells_new _ _ _ _ rfl
 have HR2 := Lib.hid hr2
 have HB1 := Lib.hid hb1
 have HC1 := Lib.hid hc1
 have HG := Lib.hid (fun w (h : Below W.heap.size W w) => great_any A l zs cap 80 w (hr.later h) hl hs (by decide))
 have HG2 := Lib.hid (fun w (h : Below W.heap.size W w) => great_any A2 mo zs2 cap2 20 w (hr2.later h) hl2 hs2 (by decide))
 have HGS := Lib.hid (fun (h : greatB l 80 = false) => great_small h)
 have HGS2 := Lib.hid (fun (h : greatB mo 20 = false) => great_small h)
 have HRE := Lib.hid (fun (w : World) (h : Below W.heap.size W w) (h1 : l.length ≤ 80) (h2 : ∀ r ∈ l, r.items.length ≤ 60 ∧ r.nodes.length ≤ 60) => reached_any b1 b2 b3 A l zs cap w (hr.later h) (by omega) (fun r hr => ⟨Nat.le_trans (h2 r hr).1 (by decide), Nat.le_trans (h2 r hr).2 (by decide)⟩))
 have HRG := Lib.hid (fun (h1 : l.length ≤ 80) (h2 : ∀ r ∈ l, r.items.length ≤ 60 ∧ r.nodes.length ≤ 60) => reachM_size b1 b2 b3 (l := l) (fun r hr => ⟨Nat.le_trans (h2 r hr).1 (by decide), Nat.le_trans (h2 r hr).2 (by decide)⟩))
 have HAP := Lib.hid (fun (s : St) (y : Sy) (w : World) (h : Sees w s y) (hz : Sz l.length s) (hb : Below W.heap.size W w) (h1 : l.length ≤ 80) (h3 : mo.length ≤ 20) (h2 : ∀ r ∈ mo, r.items.length ≤ 60 ∧ r.nodes.length ≤ 60) => Apply_any s y mo zs2 A2 cap2 l.length w h hz (hr2.later hb) (fun r hr => ⟨Nat.le_trans (h2 r hr).1 (by decide), Nat.le_trans (h2 r hr).2 (by decide)⟩) (by omega))
 obtain ⟨G, hG⟩ : ∃ G, greatB l 80 = G := ⟨_, rfl⟩
 obtain ⟨G2, hG2⟩ : ∃ G, greatB mo 20 = G := ⟨_, rfl⟩
 obtain ⟨M, hM⟩ : ∃ M, reachM b1 b2 b3 l = M := ⟨_, rfl⟩
 rw [hG] at HG HGS
 rw [hG2] at HG2 HGS2
 rw [hM] at HRE HRG
 obtain ⟨n, hn⟩ : ∃ n, l.length = n := ⟨_, rfl⟩
 obtain ⟨n2, hn2⟩ : ∃ n, mo.length = n := ⟨_, rfl⟩
 have HN2 := Lib.hid hn2
 rw [hn] at HG HRE HRG HGS HAP ⊢
 rw [hn2] at HG2 HGS2 HAP ⊢
 clear hr hl hs hr2 hl2 hs2 hb1 hc1 hG hG2 hM hn hn2
 go_enter Tryz.func4, Tryz.ntmps4
 go_wp2_with fail
 rw [← hw1]
 clear hw1
 refine (awake_any w1).mono ?_
 rintro e w2 ⟨rfl, hb2⟩
 have HB2 := Lib.hid (HB1.out.trans (hb2.mono HB1.out.size))
 have HC2 := Lib.hid (HC1.out.later hb2)
 clear hb2 HB1 HC1
 go_wp2_with fail
 refine (HG.out w2 HB2.out).mono ?_
 rintro e w3 ⟨rfl, hb3⟩
 have HB3 := Lib.hid (HB2.out.trans (hb3.mono HB2.out.size))
 have HC3 := Lib.hid (HC2.out.later hb3)
 clear hb3 HB2 HC2 HG
 cases G with
 | true =>
  go_wp2_with fail
  go_returns
  exact ⟨rfl, HB3.out⟩
 | false =>
  go_wp2_with fail
  refine (HG2.out w3 HB3.out).mono ?_
  rintro e w3b ⟨rfl, hb3⟩
  have HB3b := Lib.hid (HB3.out.trans (hb3.mono HB3.out.size))
  have hc3 := HC3.out.later hb3
  clear hb3 HB3 HC3 HG2
  cases G2 with
  | true =>
   go_wp2_with fail
   go_returns
   exact ⟨rfl, HB3b.out⟩
  | false =>
   have HSM := Lib.hid (HGS.out (by trivial))
   have HSM2 := Lib.hid (HGS2.out (by trivial))
   have q0 := hc3.cell (j := 0) rfl
   have q1 := hc3.cell (j := 1) rfl
   have q2 := hc3.cell (j := 2) rfl
   clear HGS HGS2 hc3
   go_wp2_with fail
   clear q0 q1 q2
   refine (HRE.out w3b HB3b.out HSM.out.1 HSM.out.2).mono ?_
   rintro e w4 ⟨⟨y, rfl, hst⟩, hb4⟩
   have HGD := Lib.hid (HRG.out HSM.out.1 HSM.out.2)
   have HB4 := Lib.hid (HB3b.out.trans (hb4.mono HB3b.out.size))
   have HST := Lib.hid hst
   have HWB : Hid (W.heap.size ≤ w3b.heap.size ∧ w3b.heap.size ≤ w4.heap.size) := Lib.hid ⟨HB3b.out.size, hb4.size⟩
   clear hb4 hst HRE HRG
   obtain ⟨s, ok⟩ := M
   simp only at HGD HST
   cases ok with
   | false =>
    simp only [St.val]
    go_wp2_with fail
    go_returns
    exact ⟨rfl, HB4.out.trans ((below_alloc _ _).mono HB4.out.size)⟩
   | true =>
    have HZ := Lib.hid (HGD.out rfl)
    obtain ⟨w5, hw5⟩ : ∃ v, v = w4.alloc (.cells #[.int .i64 s.node, .int .i64 s.nodes, .int .i64 s.cells, .int .i64 s.epoch, .slice y.P s.places.length y.p, .slice y.Q s.prep.length y.q, .slice y.D s.dec.length y.d, .slice y.C s.com.length y.c] 32) := ⟨_, rfl⟩
    have hb5 : Below w4.heap.size w4 w5 := by rw [hw5]; exact below_alloc _ _
    have HX5 : Hid (∀ w', Below w5.heap.size w5 w' → Cells w' w4.heap.size 32 (s.vals y)) := Lib.hid (fun w' hb' => Cells.later (by rw [hw5]; exact cells_new _ _ _ _ rfl) hb')
    have HS5 := Lib.hid (HST.out.sees.later hb5)
    have HB5 := Lib.hid (HB4.out.trans (hb5.mono HB4.out.size))
    have HAQ := Lib.hid (HAP.out s y w5 HS5.out HZ.out HB5.out HSM.out.1 HSM2.out.1 HSM2.out.2)
    simp only [St.val]
    unfold St.val at HAQ
    have hcx := HX5.out _ (Below.refl _ _)
    unfold St.vals at hcx
    have q0 := hcx.cell (j := 0) rfl
    have q1 := hcx.cell (j := 1) rfl
    have q2 := hcx.cell (j := 2) rfl
    have q3 := hcx.cell (j := 3) rfl
    have q4 := hcx.cell (j := 4) rfl
    have q5 := hcx.cell (j := 5) rfl
    have q6 := hcx.cell (j := 6) rfl
    have q7 := hcx.cell (j := 7) rfl
    have HBS := Lib.hid hb5
    have HZ5 : Hid (w5.heap.size = w4.heap.size + 1) := Lib.hid (by rw [hw5, World.size_alloc])
    clear HGD HB4 HB3b hb5 HAP hcx
    go_wp2_with fail
    rw [← hw5]
    clear hw5
    refine HAQ.out.mono ?_
    rintro e w6 ⟨⟨ya, rfl, hst6⟩, hb6⟩
    clear q0 q1 q2 q3 q4 q5 q6 q7
    obtain ⟨⟨al, ea⟩, hal⟩ : ∃ p, applyL s mo = p := ⟨_, rfl⟩
    have HAL := Lib.hid hal
    rw [hal] at hst6 ⊢
    simp only at hst6 ⊢
    obtain ⟨w7, hw7⟩ : ∃ v, v = w6.alloc (.cells #[.int .i64 al.node, .int .i64 al.nodes, .int .i64 al.cells, .int .i64 al.epoch, .slice ya.P al.places.length ya.p, .slice ya.Q al.prep.length ya.q, .slice ya.D al.dec.length ya.d, .slice ya.C al.com.length ya.c] 32) := ⟨_, rfl⟩
    obtain ⟨w8, hw8⟩ : ∃ v, v = w7.alloc (.cells #[.int .i64 s.node, .int .i64 s.nodes, .int .i64 s.cells, .int .i64 s.epoch, .slice y.P s.places.length y.p, .slice y.Q s.prep.length y.q, .slice y.D s.dec.length y.d, .slice y.C s.com.length y.c] 32) := ⟨_, rfl⟩
    have hb7 : Below w6.heap.size w6 w7 := by rw [hw7]; exact below_alloc _ _
    have hb78 : Below w7.heap.size w7 w8 := by rw [hw8]; exact below_alloc _ _
    have hb68 : Below w6.heap.size w6 w8 := hb7.trans (hb78.mono hb7.size)
    have hs7 : w7.heap.size = w6.heap.size + 1 := by rw [hw7, World.size_alloc]
    have hB48 : Below w4.heap.size w4 w8 := HBS.out.trans ((hb6.trans (hb68.mono hb6.size)).mono HBS.out.size)
    have hz46 : w4.heap.size ≤ w6.heap.size := Nat.le_trans HBS.out.size hb6.size
    have HLM : Hid (Lm W w8 al s ya y w6.heap.size (w6.heap.size + 1)) := Lib.hid ⟨HB5.out.trans ((hb6.trans (hb68.mono hb6.size)).mono HB5.out.size), Cells.later (by rw [hw7]; exact cells_new _ _ _ _ rfl) hb78, fun w9 h9 => hst6 w9 ((Only.of_below hb68).trans h9 fun k hk e => by omega), by rw [← hs7, hw8]; exact cells_new _ _ _ _ rfl, fun w9 h9 => HST.out w9 ((Only.of_below hB48).trans h9 fun k hk e => by omega), by have := HB5.out.size; have := hb6.size; omega, by omega⟩
    have hcx := HX5.out _ hb6
    have hl7 : w4.heap.size < w6.heap.size := Nat.lt_of_lt_of_le (by have := HZ5.out; omega) hb6.size
    unfold St.vals at hcx
    have q0 := hcx.cell (j := 0) rfl
    have q1 := hcx.cell (j := 1) rfl
    have q2 := hcx.cell (j := 2) rfl
    have q3 := hcx.cell (j := 3) rfl
    have q4 := hcx.cell (j := 4) rfl
    have q5 := hcx.cell (j := 5) rfl
    have q6 := hcx.cell (j := 6) rfl
    have q7 := hcx.cell (j := 7) rfl
    clear hcx hst6 hb6 hb7 hb78 hb68 hs7 hB48 hz46 HST HAQ HX5 hal
    go_wp2_with fail
    rw [← hw7]
    rw [← hw8]
    clear hw7 hw8 hl7 q0 q1 q2 q3 q4 q5 q6 q7
    obtain ⟨b9, hb9⟩ : ∃ b, w6.heap.size = b := ⟨_, rfl⟩
    obtain ⟨b11, hb11⟩ : ∃ b, b9 + 1 = b := ⟨_, rfl⟩
    rw [hb9, hb11] at HLM
    rw [hb9]
    try rw [hb11]
    clear hb9 hb11
    have hnb : n2 ≤ 20 := HSM2.out.1
    have hnb1 : n ≤ 80 := HSM.out.1
    go_loopw [13, 14, 15, 41] (fun _ _ _ i wr => ∃ k : Nat, k ≤ n2 ∧ i = .int .i64 (k : Int) ∧ Hid (∃ t z, applyL s (mo.take k) = (t, 0) ∧ Lm W wr al t ya z b9 b11)) (fun _ _ _ i _ => n2 - (intOf i).toNat)
    case atStart => exact ⟨0, Nat.zero_le _, rfl, Lib.hid ⟨s, y, rfl, HLM.out⟩⟩
    case round =>
     clear HLM
     obtain ⟨k, hk, rfl, HA⟩ := hrel
     obtain ⟨t, z, hap, hlm⟩ := HA.out
     have HAT := Lib.hid hap
     have HLM := Lib.hid hlm
     by_cases hlt : k < n2
     ·have hlk : k < mo.length := by have := HN2.out; omega
      have hzk : k < zs2.length := by have := HR2.out.len; omega
      obtain ⟨ab, off, hAA, hr0⟩ := (HR2.out.later hlm.low).row k (by rw [List.length_zipWith]; omega)
      rw [List.getElem_zipWith] at hr0
      have HTW := Lib.hid ((HR2.out.later hlm.low).each k hlk hzk)
      have HSR := Lib.hid (HSM2.out.2 mo[k] (List.getElem_mem hlk))
      have hsz : Sz (n + k) t := (Sz.apply (l := mo.take k) (fun r hr => ⟨Nat.le_trans (HSM2.out.2 r (List.mem_of_mem_take hr)).1 (by decide), Nat.le_trans (HSM2.out.2 r (List.mem_of_mem_take hr)).2 (by decide)⟩) HZ.out hap).mono (by rw [List.length_take]; omega)
      have hsplit : mo = mo.take k ++ mo[k] :: mo.drop (k + 1) := by rw [← List.drop_eq_getElem_cons hlk, List.take_append_drop]
      have htk : mo.take (k + 1) = mo.take k ++ [mo[k]] := List.take_succ_eq_append_getElem hlk
      obtain ⟨r, hr⟩ : ∃ r, mo[k] = r := ⟨_, rfl⟩
      obtain ⟨z1, hz1⟩ : ∃ z, zs2[k] = z := ⟨_, rfl⟩
      rw [hr, hz1] at HTW hr0
      rw [hr] at HSR hsplit htk
      have HZT := Lib.hid hsz
      have HMORE := Lib.hid (apply_more (mo.take k) s r hap)
      rw [← htk] at HMORE
      have HFAIL := Lib.hid (fun (h : (fFollow t r).2 ≠ 0) => apply_fail (mo.take k) (mo.drop (k + 1)) s hap h)
      rw [← hsplit, HAL.out] at HFAIL
      clear hr hz1 hsz HA hsplit htk hap hlm
      have x0 : wr.cell? ⟨ab, off + k * 15, none⟩ = some (.int .i64 r.kind) := hr0 0 _ rfl
      have x1 : wr.cell? ⟨ab, off + k * 15 + 1, none⟩ = some (.int .i64 r.tid.node) := hr0 1 _ rfl
      have x2 : wr.cell? ⟨ab, off + k * 15 + 2, none⟩ = some (.int .i64 r.tid.epoch) := hr0 2 _ rfl
      have x3 : wr.cell? ⟨ab, off + k * 15 + 3, none⟩ = some (.int .i64 r.tid.seq) := hr0 3 _ rfl
      have x4 : wr.cell? ⟨ab, off + k * 15 + 4, none⟩ = some (.slice z1.A r.items.length z1.c) := hr0 4 _ rfl
      have x5 : wr.cell? ⟨ab, off + k * 15 + 5, none⟩ = some (.slice z1.B r.nodes.length z1.d) := hr0 5 _ rfl
      have x6 : wr.cell? ⟨ab, off + k * 15 + 6, none⟩ = some (.int .i64 r.node) := hr0 6 _ rfl
      have x7 : wr.cell? ⟨ab, off + k * 15 + 7, none⟩ = some (.int .i64 r.count) := hr0 7 _ rfl
      have x8 : wr.cell? ⟨ab, off + k * 15 + 8, none⟩ = some (.int .i64 r.num) := hr0 8 _ rfl
      have x9 : wr.cell? ⟨ab, off + k * 15 + 9, none⟩ = some (.int .i64 r.cell) := hr0 9 _ rfl
      have x10 : wr.cell? ⟨ab, off + k * 15 + 10, none⟩ = some (.int .i64 r.status) := hr0 10 _ rfl
      have x11 : wr.cell? ⟨ab, off + k * 15 + 11, none⟩ = some (.int .i64 r.hop) := hr0 11 _ rfl
      have x12 : wr.cell? ⟨ab, off + k * 15 + 12, none⟩ = some (.int .i64 r.version) := hr0 12 _ rfl
      have x13 : wr.cell? ⟨ab, off + k * 15 + 13, none⟩ = some (.int .i64 r.value) := hr0 13 _ rfl
      have x14 : wr.cell? ⟨ab, off + k * 15 + 14, none⟩ = some (.bool r.yes) := hr0 14 _ rfl
      clear hr0 hlk hzk
      subst hAA
      obtain ⟨wy, hwy⟩ : ∃ v, v = wr.alloc (.cells #[.int .i64 r.kind, .int .i64 r.tid.node, .int .i64 r.tid.epoch, .int .i64 r.tid.seq, .slice z1.A r.items.length z1.c, .slice z1.B r.nodes.length z1.d, .int .i64 r.node, .int .i64 r.count, .int .i64 r.num, .int .i64 r.cell, .int .i64 r.status, .int .i64 r.hop, .int .i64 r.version, .int .i64 r.value, .bool r.yes] 51) := ⟨_, rfl⟩
      obtain ⟨wx, hwx⟩ : ∃ v, v = wy.alloc (.cells #[.int .i64 r.kind, .int .i64 r.tid.node, .int .i64 r.tid.epoch, .int .i64 r.tid.seq, .slice z1.A r.items.length z1.c, .slice z1.B r.nodes.length z1.d, .int .i64 r.node, .int .i64 r.count, .int .i64 r.num, .int .i64 r.cell, .int .i64 r.status, .int .i64 r.hop, .int .i64 r.version, .int .i64 r.value, .bool r.yes] 51) := ⟨_, rfl⟩
      have hby : Below wr.heap.size wr wy := by rw [hwy]; exact below_alloc _ _
      have hbyx : Below wy.heap.size wy wx := by rw [hwx]; exact below_alloc _ _
      have hbx : Below wr.heap.size wr wx := hby.trans (hbyx.mono hby.size)
      have hgx : Cells wx wy.heap.size 51 (r.vals z1) := by rw [hwx]; exact cells_new _ _ _ _ rfl
      have hsy : wy.heap.size = wr.heap.size + 1 := by rw [hwy, World.size_alloc]
      rw [hsy] at hgx
      have HAP := Lib.hid (Apply_any t z [r] [z1] (some ⟨wr.heap.size + 1, 0, none⟩) 1 (n + k) wx ((HLM.out.later hbx).see11 _ (Only.refl _ _)) HZT.out
       ⟨cells_sl (sz := 15) (by simpa using hgx) (fun v hv => by rw [List.mem_singleton.1 hv]; rfl), rfl, fun j h1 h2 => by
        have : j = 0 := by simp at h1; omega
        subst this
        exact HTW.out.later hbx⟩ (fun x hx => by rw [List.mem_singleton.1 hx]; exact ⟨Nat.le_trans HSR.out.1 (by decide), Nat.le_trans HSR.out.2 (by decide)⟩) (by simp only [List.length_singleton]; omega))
      have HBX := Lib.hid hbx
      have hq := HLM.out.box11
      unfold St.vals at hq
      have q0 := hq.cell (j := 0) rfl
      have q1 := hq.cell (j := 1) rfl
      have q2 := hq.cell (j := 2) rfl
      have q3 := hq.cell (j := 3) rfl
      have q4 := hq.cell (j := 4) rfl
      have q5 := hq.cell (j := 5) rfl
      have q6 := hq.cell (j := 6) rfl
      have q7 := hq.cell (j := 7) rfl
      have hlt6 := hq.lt
      unfold St.val at HAP
      clear hq hby hbyx hgx hbx
      go_wp2_with fail
      rw [← hwy]
      rw [← hwx]
      clear hwx hwy hsy hlt6 q0 q1 q2 q3 q4 q5 q6 q7 x0 x1 x2 x3 x4 x5 x6 x7 x8 x9 x10 x11 x12 x13 x14
      refine HAP.out.mono ?_
      rintro e wa ⟨⟨zu, rfl, hst4⟩, hb4⟩
      have hap := apply_one t r
      obtain ⟨u, hu⟩ : ∃ u, (fFollow t r).1 = u := ⟨_, rfl⟩
      obtain ⟨f, hf⟩ : ∃ f, (fFollow t r).2 = f := ⟨_, rfl⟩
      rw [hu, hf] at hap
      rw [hf] at HFAIL
      clear hu hf
      have HLM4 := Lib.hid (HLM.out.later (HBX.out.trans (hb4.mono HBX.out.size)))
      have HXS : Hid (b11 < wx.heap.size ∧ wx.heap.size ≤ wa.heap.size) := Lib.hid ⟨(HLM.out.later HBX.out).box11.lt, hb4.size⟩
      clear HLM HBX HTW HAP hb4
      by_cases hez : f = 0
      ·subst hez
       rw [if_pos rfl] at hap
       rw [hap] at hst4 HMORE ⊢
       simp only at hst4 ⊢
       have HS4 := Lib.hid hst4
       obtain ⟨wb, hwb⟩ : ∃ v, v = wa.alloc (.cells #[.int .i64 u.node, .int .i64 u.nodes, .int .i64 u.cells, .int .i64 u.epoch, .slice zu.P u.places.length zu.p, .slice zu.Q u.prep.length zu.q, .slice zu.D u.dec.length zu.d, .slice zu.C u.com.length zu.c] 32) := ⟨_, rfl⟩
       have hb5 : Below wa.heap.size wa wb := by rw [hwb]; exact below_alloc _ _
       have HLM5 := Lib.hid (HLM4.out.later hb5)
       have HU5 : Hid (Cells wb wa.heap.size 32 [.int .i64 u.node, .int .i64 u.nodes, .int .i64 u.cells, .int .i64 u.epoch, .slice zu.P u.places.length zu.p, .slice zu.Q u.prep.length zu.q, .slice zu.D u.dec.length zu.d, .slice zu.C u.com.length zu.c]) := Lib.hid (by rw [hwb]; exact cells_new _ _ _ _ rfl)
       have HSU : Hid (∀ w2, Only (fun k => k = b11) wb w2 → Sees w2 u zu) := Lib.hid (fun w2 h2 => HS4.out w2 ((Only.of_below hb5).trans h2 fun j _ e => by have := HXS.out; omega))
       have HT11 : Hid (Cells wb b11 32 [.int .i64 t.node, .int .i64 t.nodes, .int .i64 t.cells, .int .i64 t.epoch, .slice z.P t.places.length z.p, .slice z.Q t.prep.length z.q, .slice z.D t.dec.length z.d, .slice z.C t.com.length z.c]) := Lib.hid HLM5.out.box11
       clear hap hst4 HS4 hb5 HFAIL HXS
       go_upto_region 16 with (fail)
       rw [← hwb]
       clear hwb
       apply wp_region_lit
       refine wpList_load_cells rfl 32 _ rfl wa.heap.size #[.int .i64 u.node, .int .i64 u.nodes, .int .i64 u.cells, .int .i64 u.epoch, .slice zu.P u.places.length zu.p, .slice zu.Q u.prep.length zu.q, .slice zu.D u.dec.length zu.d, .slice zu.C u.com.length zu.c] rfl rfl HU5.out Tryz.underlying32 rfl (by kernel_rfl) ?_
       refine wpList_store_cells rfl 32 _ _ rfl b11 #[.int .i64 u.node, .int .i64 u.nodes, .int .i64 u.cells, .int .i64 u.epoch, .slice zu.P u.places.length zu.p, .slice zu.Q u.prep.length zu.q, .slice zu.D u.dec.length zu.d, .slice zu.C u.com.length zu.c] [.int .i64 u.node, .int .i64 u.nodes, .int .i64 u.cells, .int .i64 u.epoch, .slice zu.P u.places.length zu.p, .slice zu.Q u.prep.length zu.q, .slice zu.D u.dec.length zu.d, .slice zu.C u.com.length zu.c] rfl rfl rfl HT11.out rfl (by kernel_rfl) (by kernel_rfl) fun wv hpt hov => ?_
       have HNEW : Hid (Lm W wv al u ya zu b9 b11) := Lib.hid (HLM5.out.store hpt hov HSU.out)
       clear hpt hov
       go_wp2_with fail
       go_roundw
       case rel => exact ⟨k + 1, by omega, by go_num, Lib.hid ⟨u, zu, HMORE.out, HNEW.out⟩⟩
       case measure => simp [intOf]; omega
      ·have hfl := HFAIL.out hez
       have e1 : al = stZ := congrArg Prod.fst hfl
       have e2 : ea = f := congrArg Prod.snd hfl
       rw [if_neg hez] at hap
       rw [hap] at hst4 ⊢
       simp only at hst4 ⊢
       subst e1
       subst e2
       have hne1 : (ea == 0) = false := by simpa using hez
       have hne2 : (ea != 0) = true := by simpa using hez
       obtain ⟨wb, hwb⟩ : ∃ v, v = wa.alloc (.cells #[.int .i64 stZ.node, .int .i64 stZ.nodes, .int .i64 stZ.cells, .int .i64 stZ.epoch, .slice zu.P stZ.places.length zu.p, .slice zu.Q stZ.prep.length zu.q, .slice zu.D stZ.dec.length zu.d, .slice zu.C stZ.com.length zu.c] 32) := ⟨_, rfl⟩
       have hb5 : Below wa.heap.size wa wb := by rw [hwb]; exact below_alloc _ _
       have HLM5 := Lib.hid (HLM4.out.later hb5)
       have hq9 := HLM5.out.box9
       unfold St.vals at hq9
       have HQ9 := Lib.hid hq9
       have HSMZ : Hid (Small stZ) := Lib.hid ⟨by decide, by decide, by decide, by decide, fun p hp => (by cases hp), fun p hp => (by cases hp)⟩
       have HP9 := Lib.hid (plainS_any stZ ya wb (HLM5.out.see9 _ (Only.refl _ _)) HSMZ.out)
       unfold St.val at HP9
       try simp only [St.val]
       clear hap hst4 hb5 HFAIL hez hfl HMORE hq9
       go_upto_region 14 with (fail)
       rw [← hwb]
       clear hwb
       have hq9 := HQ9.out
       have q0 := hq9.cell (j := 0) rfl
       have q1 := hq9.cell (j := 1) rfl
       have q2 := hq9.cell (j := 2) rfl
       have q3 := hq9.cell (j := 3) rfl
       have q4 := hq9.cell (j := 4) rfl
       have q5 := hq9.cell (j := 5) rfl
       have q6 := hq9.cell (j := 6) rfl
       have q7 := hq9.cell (j := 7) rfl
       clear hq9
       go_wp2_with fail
       clear q0 q1 q2 q3 q4 q5 q6 q7
       refine HP9.out.mono ?_
       rintro e wc ⟨⟨zz, rfl, hz⟩, hbc⟩
       have HWC := Lib.hid (HLM5.out.low.trans (hbc.mono HLM5.out.low.size))
       have HSA := Lib.hid (sameS_any stZ stZ zz _ wc hz (sees_zero _) HSMZ.out)
       unfold St.val at HSA
       clear hbc hz
       go_wp2_with fail
       refine HSA.out.mono ?_
       rintro e wd ⟨⟨v', rfl, hv'⟩, hbd⟩
       obtain rfl : v' = true := hv'.2 (by trivial)
       have HWD := Lib.hid (HWC.out.trans (hbd.mono HWC.out.size))
       clear hbd hv'
       go_wp2_with fail
       go_returns
       exact ⟨rfl, HWD.out⟩
     ·have hkn : k = n2 := by omega
      have hfin : applyL s mo = (t, 0) := by
       have h := hap
       rw [List.take_of_length_le (by have := HN2.out; omega)] at h
       exact h
      rw [HAL.out] at hfin
      have e1 : al = t := congrArg Prod.fst hfin
      have e2 : ea = 0 := congrArg Prod.snd hfin
      subst e1
      subst e2
      have hsz : Sz (n + k) al := (Sz.apply (l := mo.take k) (fun r hr => ⟨Nat.le_trans (HSM2.out.2 r (List.mem_of_mem_take hr)).1 (by decide), Nat.le_trans (HSM2.out.2 r (List.mem_of_mem_take hr)).2 (by decide)⟩) HZ.out hap).mono (by rw [List.length_take]; omega)
      have HSS := Lib.hid (hsz.small (by omega))
      have HQ9 : Hid (∀ wi, Below wr.heap.size wr wi → Cells wi b9 32 [.int .i64 al.node, .int .i64 al.nodes, .int .i64 al.cells, .int .i64 al.epoch, .slice ya.P al.places.length ya.p, .slice ya.Q al.prep.length ya.q, .slice ya.D al.dec.length ya.d, .slice ya.C al.com.length ya.c]) := Lib.hid (fun wi hi => HLM.out.box9.later hi)
      have HQ11 : Hid (∀ wi, Below wr.heap.size wr wi → Cells wi b11 32 [.int .i64 al.node, .int .i64 al.nodes, .int .i64 al.cells, .int .i64 al.epoch, .slice z.P al.places.length z.p, .slice z.Q al.prep.length z.q, .slice z.D al.dec.length z.d, .slice z.C al.com.length z.c]) := Lib.hid (fun wi hi => HLM.out.box11.later hi)
      have HP9 : Hid (∀ wi, Below wr.heap.size wr wi → Calls Tryz.prog 11 #[.agg #[.int .i64 al.node, .int .i64 al.nodes, .int .i64 al.cells, .int .i64 al.epoch, .slice ya.P al.places.length ya.p, .slice ya.Q al.prep.length ya.q, .slice ya.D al.dec.length ya.d, .slice ya.C al.com.length ya.c]] wi fun e w' => (∃ z, e = .returned (al.val z) ∧ Sees w' al z) ∧ Below wi.heap.size wi w') := Lib.hid (fun wi hi => plainS_any al ya wi ((HLM.out.later hi).see9 _ (Only.refl _ _)) HSS.out)
      have HP11 : Hid (∀ wi, Below wr.heap.size wr wi → Calls Tryz.prog 11 #[.agg #[.int .i64 al.node, .int .i64 al.nodes, .int .i64 al.cells, .int .i64 al.epoch, .slice z.P al.places.length z.p, .slice z.Q al.prep.length z.q, .slice z.D al.dec.length z.d, .slice z.C al.com.length z.c]] wi fun e w' => (∃ z, e = .returned (al.val z) ∧ Sees w' al z) ∧ Below wi.heap.size wi w') := Lib.hid (fun wi hi => plainS_any al z wi ((HLM.out.later hi).see11 _ (Only.refl _ _)) HSS.out)
      clear hap hfin hsz hlm
      go_wp2_with fail
      refine Reg.region_heavy (by kernel_rfl) 9 [9] (lm18 (.agg #[.int .i64 al.node, .int .i64 al.nodes, .int .i64 al.cells, .int .i64 al.epoch, .slice ya.P al.places.length ya.p, .slice ya.Q al.prep.length ya.q, .slice ya.D al.dec.length ya.d, .slice ya.C al.com.length ya.c]) (.agg #[.int .i64 al.node, .int .i64 al.nodes, .int .i64 al.cells, .int .i64 al.epoch, .slice z.P al.places.length z.p, .slice z.Q al.prep.length z.q, .slice z.D al.dec.length z.d, .slice z.C al.com.length z.c]) al) (fun a => Below wr.heap.size wr a) (fun a => Below wr.heap.size wr a) (fun V => [(some 65, V 0), (some 66, V 1), (some 67, V 2), (some 68, V 3), (some 69, V 4), (some 70, V 5), (some 71, V 6), (some 72, V 7), (some 73, V 8), (some 6, V 9)]) (by kernel_rfl) (by kernel_rfl) (by kernel_rfl) (fun V => rfl) ?_ ?_ ?_
      ·exact (Below.refl _ _).drew
      ·intro i o ho
       have hi : i < 10 := (Array.getElem?_eq_some_iff.1 ho).1
       rcases i with _ | _ | _ | _ | _ | _ | _ | _ | _ | _ | i
       ·obtain rfl := Option.some.inj ho
        intro ρ wi hE hI hs hd
        try dsimp only at hI
        have e10 : ρ (.tmp 10) = .int .i64 0 := hs 10
        exact Reg.Gives.value (v := .int .i64 0) (w' := wi) (by go_simp) (Reg.OwedH.same hI rfl)
       ·obtain rfl := Option.some.inj ho
        intro ρ wi hE hI hs hd
        try dsimp only at hI
        obtain ⟨_, rfl, e65⟩ := hd 0 65
        have hc := hE.const
        exact Reg.Gives.value (v := .bool true) (w' := wi) (by go_simp) (Reg.OwedH.same hI rfl)
       ·obtain rfl := Option.some.inj ho
        intro ρ wi hE hI hs hd
        try dsimp only at hI
        obtain ⟨_, rfl, e66⟩ := hd 1 66
        exact Reg.Gives.value (v := .bool true) (w' := wi) (by go_simp) (Reg.OwedH.same hI rfl)
       ·obtain rfl := Option.some.inj ho
        intro ρ wi hE hI hs hd
        try dsimp only at hI
        have e9 : ρ (.tmp 9) = .pointer (some ⟨b9, 0, none⟩) := hs 9
        intro ug hgg
        obtain rfl : ug = .bool true := hgg
        refine ⟨fun _ => ?_, fun h => absurd rfl h⟩
        have hcq := HQ9.out wi hI
        have q0 := hcq.cell (j := 0) rfl
        have q1 := hcq.cell (j := 1) rfl
        have q2 := hcq.cell (j := 2) rfl
        have q3 := hcq.cell (j := 3) rfl
        have q4 := hcq.cell (j := 4) rfl
        have q5 := hcq.cell (j := 5) rfl
        have q6 := hcq.cell (j := 6) rfl
        have q7 := hcq.cell (j := 7) rfl
        exact Reg.Gives.value (v := (.agg #[.int .i64 al.node, .int .i64 al.nodes, .int .i64 al.cells, .int .i64 al.epoch, .slice ya.P al.places.length ya.p, .slice ya.Q al.prep.length ya.q, .slice ya.D al.dec.length ya.d, .slice ya.C al.com.length ya.c])) (w' := wi) (by go_simp) (Reg.OwedH.same hI rfl)
       ·obtain rfl := Option.some.inj ho
        intro ρ wi hE hI hs hd
        try dsimp only at hI
        obtain ⟨_, rfl, e68⟩ := hd 3 68
        have hf := hE.func
        intro ug hgg
        obtain rfl : ug = .bool true := hgg
        refine ⟨fun _ => ?_, fun h => absurd rfl h⟩
        refine Reg.Gives.call (f := 11) (args := #[.agg #[.int .i64 al.node, .int .i64 al.nodes, .int .i64 al.cells, .int .i64 al.epoch, .slice ya.P al.places.length ya.p, .slice ya.Q al.prep.length ya.q, .slice ya.D al.dec.length ya.d, .slice ya.C al.com.length ya.c]]) (w' := wi) (by go_simp) ?_
        refine (HP9.out wi hI).mono ?_
        rintro e w'' ⟨⟨zz, rfl, hz⟩, hbb⟩
        exact ⟨_, rfl, ⟨⟨zz, rfl, hz⟩, hI.trans (hbb.mono hI.size), fun j u _ _ h => lm18_later hbb h⟩⟩
       ·obtain rfl := Option.some.inj ho
        intro ρ wi hE hI hs hd
        try dsimp only at hI
        have e11 : ρ (.tmp 11) = .pointer (some ⟨b11, 0, none⟩) := hs 11
        intro ug hgg
        obtain rfl : ug = .bool true := hgg
        refine ⟨fun _ => ?_, fun h => absurd rfl h⟩
        have hcq := HQ11.out wi hI
        have q0 := hcq.cell (j := 0) rfl
        have q1 := hcq.cell (j := 1) rfl
        have q2 := hcq.cell (j := 2) rfl
        have q3 := hcq.cell (j := 3) rfl
        have q4 := hcq.cell (j := 4) rfl
        have q5 := hcq.cell (j := 5) rfl
        have q6 := hcq.cell (j := 6) rfl
        have q7 := hcq.cell (j := 7) rfl
        exact Reg.Gives.value (v := (.agg #[.int .i64 al.node, .int .i64 al.nodes, .int .i64 al.cells, .int .i64 al.epoch, .slice z.P al.places.length z.p, .slice z.Q al.prep.length z.q, .slice z.D al.dec.length z.d, .slice z.C al.com.length z.c])) (w' := wi) (by go_simp) (Reg.OwedH.same hI rfl)
       ·obtain rfl := Option.some.inj ho
        intro ρ wi hE hI hs hd
        try dsimp only at hI
        obtain ⟨_, rfl, e70⟩ := hd 5 70
        have hf := hE.func
        intro ug hgg
        obtain rfl : ug = .bool true := hgg
        refine ⟨fun _ => ?_, fun h => absurd rfl h⟩
        refine Reg.Gives.call (f := 11) (args := #[.agg #[.int .i64 al.node, .int .i64 al.nodes, .int .i64 al.cells, .int .i64 al.epoch, .slice z.P al.places.length z.p, .slice z.Q al.prep.length z.q, .slice z.D al.dec.length z.d, .slice z.C al.com.length z.c]]) (w' := wi) (by go_simp) ?_
        refine (HP11.out wi hI).mono ?_
        rintro e w'' ⟨⟨zz, rfl, hz⟩, hbb⟩
        exact ⟨_, rfl, ⟨⟨zz, rfl, hz⟩, hI.trans (hbb.mono hI.size), fun j u _ _ h => lm18_later hbb h⟩⟩
       ·obtain rfl := Option.some.inj ho
        intro ρ wi hE hI hs hd
        try dsimp only at hI
        obtain ⟨u69, g69, e69⟩ := hd 4 69
        obtain ⟨u71, g71, e71⟩ := hd 6 71
        have hf := hE.func
        intro ug hgg
        obtain rfl : ug = .bool true := hgg
        refine ⟨fun _ => ?_, fun h => absurd rfl h⟩
        obtain ⟨z1, rfl, hz1⟩ := g69
        obtain ⟨z2, rfl, hz2⟩ := g71
        refine Reg.Gives.call (f := 10) (args := #[al.val z1, al.val z2]) (w' := wi) (by go_simp) ?_
        refine (sameS_any al al z1 z2 wi hz1 hz2 HSS.out).mono ?_
        rintro e w'' ⟨⟨v', rfl, hv'⟩, hbb⟩
        obtain rfl : v' = true := hv'.2 rfl
        exact ⟨_, rfl, ⟨rfl, hI.trans (hbb.mono hI.size), fun j u _ _ h => lm18_later hbb h⟩⟩
       ·obtain rfl := Option.some.inj ho
        intro ρ wi hE hI hs hd
        try dsimp only at hI
        obtain ⟨_, rfl, e67⟩ := hd 2 67
        obtain ⟨_, rfl, e72⟩ := hd 7 72
        have hc := hE.const
        exact Reg.Gives.value (v := .bool true) (w' := wi) (by go_simp) (Reg.OwedH.same hI rfl)
       ·obtain rfl := Option.some.inj ho
        intro ρ wi hE hI hs hd
        try dsimp only at hI
        obtain ⟨_, rfl, e73⟩ := hd 8 73
        exact Reg.Gives.value (v := .bool true) (w' := wi) (by go_simp) (Reg.OwedH.same hI rfl)
       ·omega
      ·intro V wa hV hI
       have hV9 : V 9 = .bool true := hV 9 (by decide) rfl
       simp only [Reg.putsO, List.foldl_cons, List.foldl_nil, Act.put, List.setIfInBounds_toArray, List.set_cons_succ, List.set_cons_zero, hV9]
       replace hI : (fun a => Below wr.heap.size wr a) wa := hI
       clear hV hV9
       have HW := Lib.hid (HLM.out.low.trans (hI.mono HLM.out.low.size))
       clear hI
       go_wp2_with fail
       go_returns
       exact ⟨rfl, HW.out⟩

theorem opened {H : Type} {enc : TypeId × Value → H} {W : World} {base : Nat} {gs : List (DataW H)} (v0 : Value) (d0 : DataW H) (p0 : List MemPlace) (v1 : Value) (d1 : DataW H) (p1 : List MemPlace) (v2 : Value) (d2 : DataW H) (p2 : List MemPlace)
  (o0 : Value.okWide Tryz.prog W .any base 23 v0) (t0 : DataW.Trod enc Tryz.prog W 0 (fun _ => true) true 23 v0 d0 p0)
  (o1 : Value.okWide Tryz.prog W .any base 24 v1) (t1 : DataW.Trod enc Tryz.prog W 0 (fun _ => true) true 24 v1 d1 p1)
  (o2 : Value.okWide Tryz.prog W .any base 24 v2) (t2 : DataW.Trod enc Tryz.prog W 0 (fun _ => true) true 24 v2 d2 p2)
  (_hsz : (DataW.weightsEach Tryz.prog ([23, 24, 24] ++ []) ([d0, d1, d2] ++ gs)).all (· ≤ reachBytes) = true) :
  Calls Tryz.prog 4 #[v0, v1, v2] W fun e W' => e = .returned (.bool true) ∧ Below W.heap.size W W' := by
 obtain ⟨b1, b2, b3, rfl, _, _, _⟩ := open_begin o0 t0
 obtain ⟨A, l, zs, cap, rfl, hr, hl, hs, _⟩ := open_recs o1 t1
 obtain ⟨A2, l2, zs2, cap2, rfl, hr2, hl2, hs2, _⟩ := open_recs o2 t2
 exact walk b1 b2 b3 A l zs cap A2 l2 zs2 cap2 W hr hl (fun r h => (hs r h).2) hr2 hl2 (fun r h => (hs2 r h).2)

theorem contract (H : Type) (enc : TypeId × Value → H) (W : World) (base : Nat) (args : Array Value) (ds gs : List (DataW H)) (before : List MemPlace)
  (hval : ∀ (j : Nat) t v, Tryz.f4.params[j]? = some t → args[j]? = some v → Value.okWide Tryz.prog W .any base t v)
  (hW : DataW.Whole enc Tryz.prog Tryz.f4.params.toList Rows.ledgerManySpec.vars false W args.toList ds gs before)
  (hsz : (DataW.weightsEach Tryz.prog (Tryz.f4.params.toList ++ []) (ds ++ gs)).all (· ≤ reachBytes) = true) :
  Calls Tryz.prog 4 args W fun e W' => ∃ v, e = .returned v ∧ Rows.ledgerManySpec.post enc Tryz.prog Tryz.f4 false true false false W args v W' := by
 have hW0 := hW
 obtain ⟨p, q, hA0, hV, rfl, _, _⟩ := hW
 have hA : DataW.TrodAll enc Tryz.prog W 0 (fun _ => true) true Tryz.f4.params.toList args.toList ds p := hA0
 rw [Tryz.params4] at hA hval hsz
 obtain ⟨v0, vs0, d0, ds0, p0, q0, hargs, rfl, rfl, h0, r0⟩ := trodAll_cons hA
 obtain ⟨v1, vs1, d1, ds1, p1, q1, rfl, rfl, rfl, h1, r1⟩ := trodAll_cons r0
 obtain ⟨v2, vs2, d2, ds2, p2, q2, rfl, rfl, rfl, h2, r2⟩ := trodAll_cons r1
 obtain ⟨rfl, rfl, rfl⟩ := trodAll_nil r2
 obtain rfl : args = #[v0, v1, v2] := by cases args; simp_all
 refine (opened v0 d0 p0 v1 d1 p1 v2 d2 p2 (hval 0 23 v0 rfl rfl) h0 (hval 1 24 v1 rfl rfl) h1 (hval 2 24 v2 rfl rfl) h2 hsz).mono fun e W' ⟨he, hb⟩ => ⟨_, he, ?_⟩
 exact Base.law_post (tb := 4) Base.laidOut (by kernel_rfl) rfl Tryz.underlying4 rfl (fun l hl => by
  rw [Tryz.params4] at hl
  match l, hl with
  | [_, _, _], _ => rfl) (by rw [Tryz.params4]; rfl) hW0 hb

theorem laid_met (os : Os) : laidMet Tryz.prog Rows.ledgerManyRow.laid ((Base.plainWorld os).forCall (fun _ _ => 0) ⟨#[], #[.agg #[.int .i64 0, .int .i64 0, .int .i64 0], .slice none 0 0, .slice none 0 0], []⟩).memory := laidMet_nil _ _
theorem reads (os : Os) {H : Type} (enc : TypeId × Value → H) : ∃ places, DataW.whole enc Tryz.prog ((Base.plainWorld os).forCall (fun _ _ => 0) ⟨#[], #[.agg #[.int .i64 0, .int .i64 0, .int .i64 0], .slice none 0 0, .slice none 0 0], []⟩).memory Tryz.f4.params.toList Rows.ledgerManySpec.vars false (#[.agg #[.int .i64 0, .int .i64 0, .int .i64 0], .slice none 0 0, .slice none 0 0] : Array Value).toList 8 = some ([.agg [.lit (.int .i64 0), .lit (.int .i64 0), .lit (.int .i64 0)], .nil, .nil], [], places) :=
 ⟨[], by kernel_rfl⟩

set_option maxRecDepth 100000 in
theorem lifted (os : Os) (started : os.Started) (H : Type) (enc : TypeId × Value → H) (F : Stop.Interp) :
  ReturnsInHanded {} Tryz.checked os 4 .any ((OpenSpec.ofChange Rows.ledgerManySpec).preRow enc Tryz.prog Tryz.f4 Rows.ledgerManyRow.domain false Rows.ledgerManyRow.laid) (((OpenSpec.ofChange Rows.ledgerManySpec).at F).post enc Tryz.prog Tryz.f4 false true false false) := by
 obtain ⟨places, hx⟩ := reads os enc
 refine returnsInHanded_of_row (C := Tryz.checked) (s := OpenSpec.ofChange Rows.ledgerManySpec) Base.own started (by kernel_rfl) Tryz.func4
  (witness_row_at (enc := enc) (C := Tryz.checked) false (Base.plainWorld os) #[.agg #[.int .i64 0, .int .i64 0, .int .i64 0], .slice none 0 0, .slice none 0 0] rfl (by kernel_rfl) (by kernel_rfl) (by kernel_rfl)
   (OpenSpec.preRow_of_cond 8 hx (by kernel_rfl) (fun k hk => by cases hk) (by kernel_rfl) (laid_met os))) ?_
 intro W base args ds gs before hval hW _ _ hsz _ _ _
 exact contract H enc W base args ds gs before hval hW hsz

theorem said : Rows.LedgerManySaid :=
 OpenClaim.holds_of_cond 4 Tryz.f4 rfl rfl rfl rfl rfl rfl rfl ⟨rfl, rfl, rfl, rfl, rfl⟩ rfl rfl rfl rfl rfl (by kernel_rfl) Tryz.func4 (by kernel_rfl)
  (of_decide_eq_true (by kernel_rfl)) (by unfold Func.isWrapper; rw [if_neg (of_decide_eq_false (by kernel_rfl))]; exact ⟨rfl, rfl⟩)
  (fun os started H enc _ F => by rw [OpenClaim.pre_eq_preRow]; exact lifted os started H enc F)
#print axioms said
end Go.Proofs.YtalhbblmnahcdaaGreat.LedgerMany
