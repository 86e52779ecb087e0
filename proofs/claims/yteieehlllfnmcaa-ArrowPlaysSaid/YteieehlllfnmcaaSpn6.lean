/-
  Layer 15, the document's Steps. Conditions: none.
-/
import Derived.Test.YteieehlllfnmcaaSpn5
namespace Go.Proofs.Yteieehlllfnmcaa.Spn
set_option maxRecDepth 100000
open Go.RowKit Go.Deep Go.Proofs.Yteieehlllfnmcaa.Mem

/-- While steps to t are counted: k rounds are done, and of the next one all up to a and b. -/
structure Inv (m t k a b : Nat) (l : List Int) : Prop where
  len : l.length = 17
  out : ∀ x, x < 17 → (x = 0 ∨ m < x) → l[x]? = some (-1)
  lo : ∀ x, 1 ≤ x → x ≤ m → dst x t ≤ k → l[x]? = some (dst x t : Int)
  hi : ∀ x, 1 ≤ x → x ≤ m → k + 1 < dst x t → l[x]? = some (-1)
  mid : ∀ x, 1 ≤ x → x ≤ m → dst x t = k + 1 → l[x]? = some (-1) ∨ l[x]? = some ((k + 1 : Nat) : Int)
  done : ∀ x, 1 ≤ x → x ≤ m → dst x t = k + 1 → (nxt x t < a ∨ nxt x t = a ∧ x < b) → l[x]? = some ((k + 1 : Nat) : Int)
/-- The steps to t, of 0 to 16. -/
def stepsL (t m : Nat) : List Int := (List.range 17).map fun x => if 1 ≤ x ∧ x ≤ m then (dst x t : Int) else -1
def stepsI (t m : Int) : List Int := if hasB t m then stepsL t.toNat m.toNat else List.replicate 17 (-1)
theorem stepsL_at {t m x : Nat} (hx : x < 17) : (stepsL t m)[x]? = some (if 1 ≤ x ∧ x ≤ m then (dst x t : Int) else -1) := by
  unfold stepsL
  rw [List.getElem?_map, List.getElem?_range hx]
  rfl
section
variable {m t k a b : Nat} {l : List Int}
theorem Inv.start (hm : m ≤ 16) (h1 : 1 ≤ t) (h2 : t ≤ m) : Inv m t 0 1 1 ((List.replicate 17 (-1)).set t 0) := by
  have hz : ∀ x, 1 ≤ x → x ≤ m → (dst x t = 0 ↔ x = t) := fun x e1 e2 => (AB.of e1 (by omega) h1 (by omega)).zero
  have hat : ∀ x, x < 17 → ((List.replicate 17 (-1 : Int)).set t 0)[x]? = some (if t = x then 0 else -1) := fun x hx => by
    rw [List.getElem?_set]
    split
    · rw [if_pos (by rw [List.length_replicate]; omega)]
    · rw [List.getElem?_replicate, if_pos hx]
  refine ⟨by simp, fun x hx e => ?_, fun x e1 e2 e3 => ?_, fun x e1 e2 e3 => ?_, fun x e1 e2 e3 => Or.inl ?_, fun x e1 e2 e3 e4 => ?_⟩
  · rw [hat x hx, if_neg (by omega)]
  · have := (hz x e1 e2).1 (by omega)
    subst this
    rw [hat x (by omega), if_pos rfl]
    rw [show dst x x = 0 by omega]
    rfl
  · rw [hat x (by omega), if_neg (fun e => by have := (hz x e1 e2).2 e.symm; omega)]
  · rw [hat x (by omega), if_neg (fun e => by have := (hz x e1 e2).2 e.symm; omega)]
  · exfalso
    have h9 := (AB.of e1 (by omega) h1 (by omega)).next fun e => by have := (hz x e1 e2).2 e; omega
    omega
theorem Inv.nextA (h : Inv m t k a (m + 1) l) : Inv m t k (a + 1) 1 l :=
  ⟨h.len, h.out, h.lo, h.hi, h.mid, fun x e1 e2 e3 e4 => h.done x e1 e2 e3 (by omega)⟩
theorem Inv.nextK (hm : m ≤ 16) (h1 : 1 ≤ t) (h2 : t ≤ m) (h : Inv m t k (m + 1) 1 l) : Inv m t (k + 1) 1 1 l := by
  have hn : ∀ x, 1 ≤ x → x ≤ m → dst x t ≠ 0 → 1 ≤ nxt x t ∧ nxt x t ≤ m := fun x e1 e2 e3 => by
    have h9 := AB.of e1 (by omega) h1 (show t ≤ 16 by omega)
    have h8 := h9.next fun e => e3 (h9.zero.2 e)
    omega
  refine ⟨h.len, h.out, fun x e1 e2 e3 => ?_, fun x e1 e2 e3 => h.hi x e1 e2 (by omega), fun x e1 e2 e3 => Or.inl (h.hi x e1 e2 (by omega)), fun x e1 e2 e3 e4 => ?_⟩
  · by_cases e : dst x t ≤ k
    · exact h.lo x e1 e2 e
    · have e5 : dst x t = k + 1 := by omega
      rw [h.done x e1 e2 e5 (Or.inl (by have := hn x e1 e2 (by omega); omega)), e5]
  · have := hn x e1 e2 (by omega)
    omega
theorem Inv.over (hm : m ≤ 16) (h1 : 1 ≤ t) (h2 : t ≤ m) (h : Inv m t m a b l) : l = stepsL t m := by
  apply List.ext_getElem?
  intro x
  by_cases hx : x < 17
  · rw [stepsL_at hx]
    by_cases e : 1 ≤ x ∧ x ≤ m
    · rw [if_pos e, h.lo x e.1 e.2 (by have := (AB.of e.1 (show x ≤ 16 by omega) h1 (show t ≤ 16 by omega)).few; omega)]
    · rw [if_neg e, h.out x hx (by omega)]
  · rw [List.getElem?_eq_none (by have := h.len; omega), List.getElem?_eq_none (by unfold stepsL; simp; omega)]
theorem edgeB_sym (x y : Nat) : edgeB x y = edgeB y x := by unfold edgeB; rw [Bool.or_comm]
/-- Not now. -/
theorem Inv.skip (hm : m ≤ 16) (h1 : 1 ≤ t) (h2 : t ≤ m) (h : Inv m t k a b l) (ha1 : 1 ≤ a) (ha2 : a ≤ m) (hb1 : 1 ≤ b) (hb2 : b ≤ m) {va vb : Int} (ea : l[a]? = some va) (eb : l[b]? = some vb)
    (hno : va ≠ k ∨ ¬ vb < 0 ∨ edgeB a b = false) : Inv m t k a (b + 1) l := by
  refine ⟨h.len, h.out, h.lo, h.hi, h.mid, fun x e1 e2 e3 e4 => ?_⟩
  by_cases e : nxt x t < a ∨ nxt x t = a ∧ x < b
  · exact h.done x e1 e2 e3 e
  · obtain rfl : x = b := by omega
    obtain rfl : nxt x t = a := by omega
    have h9 := AB.of e1 (show x ≤ 16 by omega) h1 (show t ≤ 16 by omega)
    obtain ⟨_, k2, k3, _, _⟩ := h9.next fun e5 => by have := h9.zero.2 e5; omega
    have k4 := h.lo (nxt x t) ha1 ha2 (by omega)
    rw [ea] at k4
    have k5 : va = k := by have := Option.some.inj k4; omega
    rcases hno with e6 | e6 | e6
    · exact absurd k5 e6
    · rcases h.mid x e1 e2 e3 with e7 | e7
      · rw [eb] at e7
        have := Option.some.inj e7
        omega
      · exact e7
    · rw [edgeB_sym, k2] at e6
      cases e6
/-- Now. -/
theorem Inv.put (hm : m ≤ 16) (h1 : 1 ≤ t) (h2 : t ≤ m) (h : Inv m t k a b l) (ha1 : 1 ≤ a) (ha2 : a ≤ m) (hb1 : 1 ≤ b) (hb2 : b ≤ m) {vb : Int} (ea : l[a]? = some (k : Int)) (eb : l[b]? = some vb)
    (hvb : vb < 0) (he : edgeB a b = true) : Inv m t k a (b + 1) (l.set b ((k + 1 : Nat) : Int)) := by
  have hda : dst a t = k := by
    by_cases e : dst a t ≤ k
    · have := h.lo a ha1 ha2 e
      rw [ea] at this
      have := Option.some.inj this
      omega
    · exfalso
      by_cases e2 : dst a t = k + 1
      · rcases h.mid a ha1 ha2 e2 with e3 | e3 <;> rw [ea] at e3 <;> have := Option.some.inj e3 <;> omega
      · have e3 := h.hi a ha1 ha2 (by omega)
        rw [ea] at e3
        have := Option.some.inj e3
        omega
  have hdb : dst b t = k + 1 := by
    have := (abc_le ha1 (show a ≤ 16 by omega) hb1 (show b ≤ 16 by omega) h1 (show t ≤ 16 by omega) he).1
    by_cases e : dst b t ≤ k
    · have e3 := h.lo b hb1 hb2 e
      rw [eb] at e3
      have := Option.some.inj e3
      omega
    · omega
  have hat : ∀ x, x ≠ b → (l.set b ((k + 1 : Nat) : Int))[x]? = l[x]? := fun x e => List.getElem?_set_ne (fun e2 => e e2.symm)
  have hself : (l.set b ((k + 1 : Nat) : Int))[b]? = some ((k + 1 : Nat) : Int) := by
    rw [List.getElem?_set, if_pos rfl, if_pos (by have := h.len; omega)]
  refine ⟨by rw [List.length_set]; exact h.len, fun x hx e => ?_, fun x e1 e2 e3 => ?_, fun x e1 e2 e3 => ?_, fun x e1 e2 e3 => ?_, fun x e1 e2 e3 e4 => ?_⟩
  · rw [hat x (by omega)]
    exact h.out x hx e
  · rw [hat x (fun e => by rw [e] at e3; omega)]
    exact h.lo x e1 e2 e3
  · rw [hat x (fun e => by rw [e] at e3; omega)]
    exact h.hi x e1 e2 e3
  · by_cases e : x = b
    · subst e
      exact Or.inr hself
    · rw [hat x e]
      exact h.mid x e1 e2 e3
  · by_cases e : x = b
    · subst e
      exact hself
    · rw [hat x e]
      exact h.done x e1 e2 e3 (by omega)
end
/-- A row of ints of the call's own. -/
abbrev ZR (B : Nat) (w : World) (v : Value) (l : List Int) : Prop := OwnG 3 1 (fv (fun x : Int => x)) B w v l
set_option maxHeartbeats 4000000 in
theorem Steps_any (t m : Int) (w : World) : Calls Try.prog 29 #[.int .i64 t, .int .i64 m] w fun e w' => ∃ v, e = .returned v ∧ ZR w.heap.size w' v (stepsI t m) ∧ Below w.heap.size w w' := by
  obtain ⟨L, hL⟩ : ∃ L, stepsI t m = L := ⟨_, rfl⟩
  rw [hL]
  have HL := Lib.hid hL
  clear hL
  obtain ⟨w0, hw0⟩ : ∃ W, W = w.alloc (.cells #[] 3) := ⟨_, rfl⟩
  have hb0 : Below w.heap.size w w0 := by rw [hw0]; exact below_alloc _ _
  have h00 : ZR w.heap.size w0 (.slice (some ⟨w.heap.size, 0, none⟩) 0 0) [] := by
    rw [hw0]
    exact World.ownsRow_made (base := w.heap.size) w #[] 0 (Nat.le_refl _) (Nat.zero_le _) (by simp)
  have HB0 := Lib.hid hb0
  have H00 := Lib.hid h00
  clear hb0 h00
  go_enter Try.func29, Try.ntmps29
  go_upto_region 2 with (fail)
  rw [← hw0]
  clear hw0
  go_wp2_with fail
  go_loopw [5, 6] (fun d i wr => ∃ (k : Nat) (A : Option Addr) (c : Nat), k ≤ 17 ∧ d = .slice A k c ∧ i = .int .i64 (k : Int) ∧ Hid (ZR w.heap.size wr (.slice A k c) (List.replicate k (-1))) ∧ Hid (Below w.heap.size w wr)) (fun _ i _ => 17 - (intOf i).toNat)
  case atStart => exact ⟨0, _, 0, by omega, rfl, rfl, H00, HB0⟩
  case round =>
    clear H00 HB0
    obtain ⟨k, A, c, hk, rfl, rfl, HR, HB⟩ := hrel
    by_cases hlt : k < 17
    · obtain ⟨A2, n2, c2, w2, hrun, hrow, ho, hg⟩ := HR.out.iapp (-1) HB.out.size (by rw [List.length_replicate]; omega)
      rw [← List.replicate_succ'] at hrow
      have hn2 := (OwnG.irow hrow).1
      rw [List.length_replicate] at hn2
      subst hn2
      have HB2 := Lib.hid (HB.out.trans (ho.below HB.out.size fun i e => (HR.out.lt (by rw [own_blk]; exact e.symm)).1))
      have HR2 := Lib.hid hrow
      have HRUN := Lib.hid hrun
      clear hrun hrow ho hg HR HB
      go_wp2_with (at_builtin
                   refine Lib.wpList_append_run _ rfl (.tmp 15) (.tmp 16) 24 24 rfl (.slice A k c) (.slice (some ⟨wr.heap.size, 0, none⟩) 1 1) rfl rfl _ _ HRUN.out ?_)
      go_roundw
      case rel => exact ⟨k + 1, A2, c2, by omega, rfl, by go_num, HR2, HB2⟩
      case measure => simp [intOf]; omega
    · obtain rfl : k = 17 := by omega
      clear hlt hk
      by_cases hbad : t < 1 ∨ m < t ∨ 16 < m
      · obtain rfl : List.replicate 17 (-1) = L := by
          rw [← HL.out]
          unfold stepsI
          rw [if_neg (by unfold hasB; simp; omega)]
        by_cases h1 : t < 1
        · clear hbad
          go_wp2_with fail
          go_returns
          exact ⟨_, rfl, HR.out, HB.out⟩
        by_cases h2 : m < t
        · clear hbad
          go_wp2_with fail
          go_returns
          exact ⟨_, rfl, HR.out, HB.out⟩
        have h3 : 16 < m := by omega
        clear hbad
        go_wp2_with fail
        go_returns
        exact ⟨_, rfl, HR.out, HB.out⟩
      · have h1 : 1 ≤ t := by omega
        have h2 : t ≤ m := by omega
        have h3 : m ≤ 16 := by omega
        have hLS : L = stepsL t.toNat m.toNat := by
          rw [← HL.out]
          unfold stepsI
          rw [if_pos (by unfold hasB; simp; omega)]
        obtain ⟨t, rfl⟩ : ∃ q : Nat, t = (q : Int) := ⟨t.toNat, by omega⟩
        obtain ⟨m, rfl⟩ : ∃ q : Nat, m = (q : Int) := ⟨m.toNat, by omega⟩
        rw [Int.toNat_natCast, Int.toNat_natCast] at hLS
        have HLS := Lib.hid hLS
        have k1 : 1 ≤ t := by omega
        have k2 : t ≤ m := by omega
        have k3 : m ≤ 16 := by omega
        have HT := Lib.hid (And.intro k3 (And.intro k1 k2))
        obtain ⟨g, rfl, hgB, c0, f0⟩ := HR.out.icell (k := t) (by rw [List.length_replicate]; omega)
        rw [List.getElem_replicate] at c0
        obtain ⟨s1, o1⟩ := HR.out.iset (k := t) (by rw [List.length_replicate]; omega) 0
        have HR1 := Lib.hid s1
        have HB1 := Lib.hid (HB.out.trans (o1.below HB.out.size fun i e => by rw [show i = g from e]; exact hgB))
        have HI1 : Hid (Inv m t 0 1 1 ((List.replicate 17 (-1)).set t 0)) := Lib.hid (Inv.start k3 k1 k2)
        clear hbad hLS s1 o1 HR HB HL h1 h2 h3
        have z1 : ¬ (t : Int) < 1 := by omega
        have z2 : ¬ (m : Int) < (t : Int) := by omega
        have z3 : ¬ 16 < (m : Int) := by omega
        go_wp2_with fail
        go_loopw [7] (fun i wr => ∃ (k : Nat) (l : List Int), k ≤ m ∧ i = .int .i64 (k : Int) ∧ Hid (Inv m t k 1 1 l) ∧ Hid (ZR w.heap.size wr (.slice (some ⟨g, 0, none⟩) 17 c) l) ∧ Hid (Below w.heap.size w wr)) (fun i _ => m - (intOf i).toNat)
        case atStart => exact ⟨0, _, Nat.zero_le _, rfl, HI1, HR1, HB1⟩
        case round =>
          clear HI1 HR1 HB1 c0 f0
          obtain ⟨k, l, hk, rfl, HI, HR, HB⟩ := hrel
          by_cases hlt : k < m
          · go_wp2_with fail
            go_loopw [8] (fun i wq => ∃ (a : Nat) (l : List Int), 1 ≤ a ∧ a ≤ m + 1 ∧ i = .int .i64 (a : Int) ∧ Hid (Inv m t k a 1 l) ∧ Hid (ZR w.heap.size wq (.slice (some ⟨g, 0, none⟩) 17 c) l) ∧ Hid (Below w.heap.size w wq)) (fun i _ => m + 1 - (intOf i).toNat)
            case atStart => exact ⟨1, l, Nat.le_refl _, by omega, rfl, HI, HR, HB⟩
            case round =>
              clear HI HR HB
              obtain ⟨a, l, ha1, ha2, rfl, HI, HR, HB⟩ := hrel
              by_cases hla : a ≤ m
              · go_wp2_with fail
                go_loopw [9] (fun i wz => ∃ (b : Nat) (l : List Int), 1 ≤ b ∧ b ≤ m + 1 ∧ i = .int .i64 (b : Int) ∧ Hid (Inv m t k a b l) ∧ Hid (ZR w.heap.size wz (.slice (some ⟨g, 0, none⟩) 17 c) l) ∧ Hid (Below w.heap.size w wz)) (fun i _ => m + 1 - (intOf i).toNat)
                case atStart => exact ⟨1, l, Nat.le_refl _, by omega, rfl, HI, HR, HB⟩
                case round =>
                  clear HI HR HB
                  obtain ⟨b, l, hb1, hb2, rfl, HI, HR, HB⟩ := hrel
                  by_cases hlb : b ≤ m
                  · have hll := HI.out.len
                    obtain ⟨_, e1, _, ca, _⟩ := HR.out.icell (k := a) (by omega)
                    obtain ⟨_, e2, hgB2, cb, fb⟩ := HR.out.icell (k := b) (by omega)
                    simp only [Option.some.injEq, Addr.mk.injEq] at e1 e2
                    obtain ⟨rfl, _⟩ := e1
                    obtain ⟨rfl, _⟩ := e2
                    obtain ⟨va, hva⟩ : ∃ v, l[a]'(by omega) = v := ⟨_, rfl⟩
                    obtain ⟨vb, hvb⟩ : ∃ v, l[b]'(by omega) = v := ⟨_, rfl⟩
                    rw [hva] at ca
                    rw [hvb] at cb
                    have hea : l[a]? = some va := by rw [← hva]; exact List.getElem?_eq_getElem _
                    have heb : l[b]? = some vb := by rw [← hvb]; exact List.getElem?_eq_getElem _
                    have HEA := Lib.hid hea
                    have HEB := Lib.hid heb
                    clear hva hvb hea heb hll
                    by_cases p1 : va = (k : Int)
                    · by_cases p2 : vb < 0
                      · have HE := Lib.hid (Edge_any (a : Int) (b : Int) (m : Int) wr)
                        have hei : edgeI (a : Int) (b : Int) (m : Int) = edgeB a b := by
                          unfold edgeI
                          rw [decide_eq_true (by omega), Bool.true_and, Int.toNat_natCast, Int.toNat_natCast]
                        rw [hei] at HE
                        cases he : edgeB a b with
                        | true =>
                          rw [he] at HE
                          subst p1
                          obtain ⟨s2, o2⟩ := HR.out.iset (k := b) (by have := HI.out.len; omega) ((k + 1 : Nat) : Int)
                          have HI2 := Lib.hid (HI.out.put HT.out.1 HT.out.2.1 HT.out.2.2 ha1 hla hb1 hlb HEA.out HEB.out p2 he)
                          have HR2 := Lib.hid s2
                          have HB2 := Lib.hid (HB.out.trans (o2.below HB.out.size fun i e => by rw [show i = g from e]; exact hgB2))
                          have hkk : ((k + 1 : Nat) : Int) = (k : Int) + 1 := by omega
                          rw [hkk] at HI2 HR2 HB2
                          clear s2 o2 hei he HI HR HB hkk
                          go_wp2_with fail
                          refine HE.out.mono ?_
                          rintro e w2 ⟨rfl, rfl⟩
                          go_wp2_with fail
                          go_roundw
                          case rel => exact ⟨b + 1, _, by omega, by omega, by go_num, HI2, HR2, HB2⟩
                          case measure => simp [intOf]; omega
                        | false =>
                          rw [he] at HE
                          subst p1
                          have HI2 := Lib.hid (HI.out.skip HT.out.1 HT.out.2.1 HT.out.2.2 ha1 hla hb1 hlb HEA.out HEB.out (Or.inr (Or.inr he)))
                          clear hei he HI
                          go_wp2_with fail
                          refine HE.out.mono ?_
                          rintro e w2 ⟨rfl, rfl⟩
                          go_wp2_with fail
                          go_roundw
                          case rel => exact ⟨b + 1, _, by omega, by omega, by go_num, HI2, HR, HB⟩
                          case measure => simp [intOf]; omega
                      · subst p1
                        have HI2 := Lib.hid (HI.out.skip HT.out.1 HT.out.2.1 HT.out.2.2 ha1 hla hb1 hlb HEA.out HEB.out (Or.inr (Or.inl p2)))
                        clear HI
                        go_wp2_with fail
                        go_roundw
                        case rel => exact ⟨b + 1, _, by omega, by omega, by go_num, HI2, HR, HB⟩
                        case measure => simp [intOf]; omega
                    · have HI2 := Lib.hid (HI.out.skip HT.out.1 HT.out.2.1 HT.out.2.2 ha1 hla hb1 hlb HEA.out HEB.out (Or.inl p1))
                      have e1 : (va == (k : Int)) = false := by simpa using p1
                      clear HI p1
                      go_wp2_with fail
                      go_roundw
                      case rel => exact ⟨b + 1, _, by omega, by omega, by go_num, HI2, HR, HB⟩
                      case measure => simp [intOf]; omega
                  · obtain rfl : b = m + 1 := by omega
                    have HI2 := Lib.hid HI.out.nextA
                    clear HI
                    go_wp2_with fail
                    go_roundw
                    case rel => exact ⟨a + 1, _, by omega, by omega, by go_num, HI2, HR, HB⟩
                    case measure => simp [intOf]; omega
              · obtain rfl : a = m + 1 := by omega
                have HI2 := Lib.hid (HI.out.nextK HT.out.1 HT.out.2.1 HT.out.2.2)
                clear HI
                go_wp2_with fail
                go_roundw
                case rel => exact ⟨k + 1, _, by omega, by go_num, HI2, HR, HB⟩
                case measure => simp [intOf]; omega
          · obtain rfl : k = m := by omega
            have HE : Hid (l = L) := Lib.hid ((HI.out.over HT.out.1 HT.out.2.1 HT.out.2.2).trans HLS.out.symm)
            go_wp2_with fail
            go_returns
            exact ⟨_, rfl, by rw [← HE.out]; exact HR.out, HB.out⟩
end Go.Proofs.Yteieehlllfnmcaa.Spn
