/-
  Layer 12, the document's wheel: where it lies; At. Conditions: none.
-/
import Derived.Test.YtnbdgjaekjneaaaWhlKey
import Derived.Test.YtnbdgjaekjneaaaApp
import Derived.Test.YtnbdgjaekjneaaaReg4
import Derived.Test.YtnbdgjaekjneaaaRow
import Derived.Lib.Hide
import Derived.Deep.CutBlock
import Derived.OpenShut
import Derived.WalkLawsBesides
import Derived.WalkSpells
import Derived.Handy
namespace Go.Proofs.Ytnbdgjaekjneaaa.Whl
set_option maxRecDepth 100000
open Go.RowKit Go.Deep Go.Proofs.Ytnbdgjaekjneaaa.Mem

/-- A timer: a key, and when it is due. -/
abbrev Tm := Ky × Int
def Tm.vals (t : Tm) : List Value := [.int .i64 t.1.kind, .int .i64 t.1.cell, .int .i64 t.1.node, .int .i64 t.1.tn, .int .i64 t.1.te, .int .i64 t.1.ts, .int .i64 t.2]
theorem fit_tms (l : List Tm) : Fit 7 (l.map Tm.vals) := ⟨fun v hv => by obtain ⟨x, _, rfl⟩ := List.mem_map.1 hv; rfl, fun v hv u hu => by
  obtain ⟨x, _, rfl⟩ := List.mem_map.1 hv
  unfold Tm.vals at hu
  simp only [List.mem_cons, List.not_mem_nil, or_false] at hu
  rcases hu with rfl | rfl | rfl | rfl | rfl | rfl | rfl <;> rfl⟩
/-- A wheel: the document's, and the code's. -/
structure Wr where
  now : Int
  l : List Tm
deriving DecidableEq
/-- It is there (of struct type sT, its timers of type eT): its struct lies in block rb, its timers at A. -/
structure WxAt (sT eT : TypeId) (B : Nat) (w : World) (rb : Nat) (R : Wr) (A : Option Addr) (ac : Nat) : Prop where
  cel : Cells w rb sT [.int .i64 R.now, .slice A R.l.length ac]
  row : w.ownsRow B eT 7 (.slice A R.l.length ac) R.l.length (R.l.map Tm.vals).flatten
  low : B ≤ rb
  nA : ∀ k, (Value.slice A R.l.length ac).ownBlock = some k → k ≠ rb
  len : R.l.length ≤ 256
section
variable {sT eT : TypeId} {B rb ac : Nat} {w w' : World} {R : Wr} {A : Option Addr}
theorem WxAt.only {S : Nat → Prop} (h : WxAt sT eT B w rb R A ac) (ho : Only S w w') (h1 : ¬ S rb) (h2 : ∀ k, (Value.slice A R.l.length ac).ownBlock = some k → ¬ S k) : WxAt sT eT B w' rb R A ac :=
  ⟨cells_only h.cel ho h1, row_only h.row ho h2, h.low, h.nA, h.len⟩
theorem WxAt.later (h : WxAt sT eT B w rb R A ac) (hb : Below w.heap.size w w') : WxAt sT eT B w' rb R A ac := h.only (Only.of_below (S := fun _ => False) hb) (fun e => e) fun _ _ e => e
theorem WxAt.at (h : WxAt sT eT B w rb R A ac) {k : Nat} {t : Tm} (ht : R.l[k]? = some t) : ∃ g, A = some ⟨g, 0, none⟩ ∧ w.rangeAt g (k * 7) t.vals := by
  obtain ⟨hk, e⟩ := List.getElem?_eq_some_iff.1 ht
  rcases h.row.2 with ⟨_, e0⟩ | ⟨g, cap, cur, e0, _⟩
  · omega
  · simp only [Value.slice.injEq] at e0
    obtain ⟨rfl, _, rfl⟩ := e0
    obtain ⟨hc, _⟩ := cells_of_own h.row
    refine ⟨g, rfl, fun j v hv => hc.cell ?_⟩
    have hj : j < 7 := (List.getElem?_eq_some_iff.1 hv).1
    rw [flatten_at (sz := 7) (fit_tms R.l).len k (by rw [List.length_map]; exact hk) j hj, List.getElem_map, e]
    exact hv
end
/-- What a call of the document's wheel does: what is written lies in its struct's block or in its row (an append into room that is left); its new row is the elder one or lies in new memory. -/
def wfoot (rb : Nat) (A : Option Addr) (k : Nat) : Prop := k = rb ∨ some k = blk A
def WxStep (sT eT : TypeId) (B rb : Nat) (A : Option Addr) (w : World) (R' : Wr) (w' : World) : Prop :=
  ∃ A' ac', WxAt sT eT B w' rb R' A' ac' ∧ Only (wfoot rb A) w w' ∧ ∀ k, some k = blk A' → some k = blk A ∨ w.heap.size ≤ k
section
variable {sT eT : TypeId} {B rb ac : Nat} {w w1 w' : World} {R R' : Wr} {A : Option Addr}
theorem WxStep.same (h : WxAt sT eT B w rb R A ac) (hb : Below w.heap.size w w') : WxStep sT eT B rb A w R w' := ⟨A, ac, h.later hb, Only.of_below hb, fun _ e => Or.inl e⟩
theorem WxStep.before (hb : Below w.heap.size w w1) (h : WxStep sT eT B rb A w1 R w') : WxStep sT eT B rb A w R w' := by
  obtain ⟨A', ac', k1, k2, k3⟩ := h
  exact ⟨A', ac', k1, (Only.of_below hb).trans k2 fun _ _ e => e, fun k e => (k3 k e).imp_right fun h => Nat.le_trans hb.size h⟩
theorem WxStep.after (h : WxStep sT eT B rb A w R w1) (hb : Below w1.heap.size w1 w') : WxStep sT eT B rb A w R w' := by
  obtain ⟨A', ac', k1, k2, k3⟩ := h
  exact ⟨A', ac', k1.later hb, k2.trans (S' := fun _ => False) (Only.of_below hb) fun _ _ e => e.elim, k3⟩
theorem WxStep.below (h : WxStep sT eT B rb A w R' w') (hr : WxAt sT eT B w rb R A ac) (hb : B ≤ w.heap.size) : Below B w w' := by
  obtain ⟨A', ac', _, k2, _⟩ := h
  refine k2.below hb fun k e => ?_
  rcases e with e | e
  · rw [e]; exact hr.low
  · exact (hr.row.lt k (by rw [own_blk]; exact e.symm)).1
/-- A new list of timers is put in. -/
theorem WxAt.newL (h : WxAt sT eT B w rb R A ac) {v : Value} {l : List Tm} (hB : B ≤ w.heap.size) (hb : Below w.heap.size w w1) (hr : w1.ownsRow w.heap.size eT 7 v l.length (l.map Tm.vals).flatten) (hl : l.length ≤ 256) :
    WxStep sT eT B rb A w { R with l := l } (w1.setCell ⟨rb, 1, none⟩ v) := by
  obtain ⟨A', ac', rfl⟩ := row_slice hr
  have hrb := h.cel.lt
  have hA' : ∀ k, blk A' = some k → w.heap.size ≤ k := fun k e => (hr.lt k (by rw [own_blk]; exact e)).1
  have h1 := h.later hb
  refine ⟨A', ac', ⟨h1.cel.set_ 1 _, own_up hB (row_only hr (Only.of_set w1 ⟨rb, 1, none⟩ _) fun k hk e => ?_), h.low, fun k hk e => ?_, hl⟩, (Only.of_below hb).trans (Only.of_set w1 ⟨rb, 1, none⟩ _) fun _ _ e => Or.inl e, fun k e => Or.inr (hA' k e.symm)⟩
  · rw [own_blk] at hk
    have := hA' k hk
    have e2 : k = rb := e
    omega
  · rw [own_blk] at hk
    have := hA' k hk
    omega
theorem WxAt.sl (h : WxAt sT eT B w rb R A ac) : Sl w A 7 (R.l.map Tm.vals) := by
  obtain ⟨A', c', e, h1, h2, _⟩ := own_sl (vs := R.l.map Tm.vals) (by rw [List.length_map]; exact h.row) (fit_tms _).len
  simp only [Value.slice.injEq] at e
  obtain ⟨rfl, _, rfl⟩ := e
  exact h1
end
abbrev WrAt := WxAt 30 53
abbrev WStep := WxStep 30 53
abbrev WcAt := WxAt 63 67
abbrev WcStep := WxStep 63 67
/-- Where a key stands; -1: nowhere. -/
def atL (k : Ky) : List Tm → Nat → Int
  | [], _ => -1
  | t :: l, n => if t.1 = k then (n : Int) else atL k l (n + 1)
theorem atL_drop (k : Ky) : ∀ (l : List Tm) (n : Nat), (∀ t ∈ l.take n, t.1 ≠ k) → atL k l 0 = atL k (l.drop n) n := by
  have aux : ∀ (l : List Tm) (n s : Nat), (∀ t ∈ l.take n, t.1 ≠ k) → n ≤ l.length → atL k l s = atL k (l.drop n) (s + n) := by
    intro l
    induction l with
    | nil => intro n s _ hn; simp at hn; subst hn; rfl
    | cons t l ih =>
      intro n s h hn
      cases n with
      | zero => rfl
      | succ n =>
        show (if t.1 = k then (s : Int) else atL k l (s + 1)) = atL k (l.drop n) (s + (n + 1))
        rw [if_neg (h t (by simp)), ih n (s + 1) (fun u hu => h u (by simp [hu])) (by simpa using hn)]
        congr 1
        omega
  intro l n h
  by_cases hn : n ≤ l.length
  · have := aux l n 0 h hn
    rwa [Nat.zero_add] at this
  · have h2 := aux l l.length 0 (by rw [List.take_of_length_le (by omega)] at h ⊢; exact h) (Nat.le_refl _)
    rw [h2, List.drop_length, List.drop_of_length_le (by omega)]
    rfl
/-- A timer is stopped: was it there? -/
def stopR (R : Wr) (k : Ky) : Bool × Wr := if atL k R.l 0 < 0 then (false, R) else (true, { R with l := R.l.take (atL k R.l 0).toNat ++ R.l.drop ((atL k R.l 0).toNat + 1) })
theorem stopR_none {R : Wr} {k : Ky} (h : atL k R.l 0 = -1) : stopR R k = (false, R) := by
  unfold stopR
  rw [h]
  rfl
theorem stopR_some {R : Wr} {k : Ky} {i : Nat} (h : atL k R.l 0 = (i : Int)) : stopR R k = (true, { R with l := R.l.take i ++ R.l.drop (i + 1) }) := by
  unfold stopR
  rw [h, if_neg (show ¬ ((i : Int) < 0) by omega), Int.toNat_natCast]
def whAt4 (rb g n ac ii : Nat) (t k : Ky) (an : Bool) : Nat → Value → World → Prop
  | 0, v, _ => v = .pointer (some ⟨rb, 0, none⟩)
  | 1, v, _ => v = .pointer (some ⟨rb, 0, none⟩)
  | 2, v, _ => v = .pointer (some ⟨rb, 1, none⟩)
  | 3, v, _ => v = .slice (some ⟨g, 0, none⟩) n ac
  | 4, v, _ => v = .int .i64 (ii : Int)
  | 5, v, _ => v = .pointer (some ⟨g, ii * 7, none⟩)
  | 6, v, _ => v = .pointer (some ⟨g, ii * 7, none⟩)
  | 7, v, _ => v = .agg #[.int .i64 t.kind, .int .i64 t.cell, .int .i64 t.node, .int .i64 t.tn, .int .i64 t.te, .int .i64 t.ts]
  | 8, v, _ => v = .agg #[.int .i64 k.kind, .int .i64 k.cell, .int .i64 k.node, .int .i64 k.tn, .int .i64 k.te, .int .i64 k.ts]
  | 9, v, _ => v = .bool an
  | _, _, _ => True
set_option maxHeartbeats 1000000 in
theorem RAt_any {B rb ac : Nat} {w : World} {R : Wr} {A : Option Addr} (h : WrAt B w rb R A ac) (k : Ky) :
    Calls Try.prog 20 #[.pointer (some ⟨rb, 0, none⟩), k.val] w fun e w' => e = .returned (.int .i64 (atL k R.l 0)) ∧ Below w.heap.size w w' := by
  obtain ⟨wa, hwa⟩ : ∃ W, W = w.alloc (.cells #[.int .i64 k.kind, .int .i64 k.cell, .int .i64 k.node, .int .i64 k.tn, .int .i64 k.te, .int .i64 k.ts] 41) := ⟨_, rfl⟩
  have hba : Below w.heap.size w wa := by rw [hwa]; exact below_alloc _ _
  have hca : Cells wa w.heap.size 41 k.vals := by rw [hwa]; exact cells_new _ _ _ _ rfl
  have HR := Lib.hid (h.later hba)
  have HC := Lib.hid hca
  have HB := Lib.hid hba
  obtain ⟨n, hn⟩ : ∃ n, R.l.length = n := ⟨_, rfl⟩
  have HN := Lib.hid hn
  have hn2 : n ≤ 256 := by rw [← hn]; exact h.len
  obtain ⟨ans, hans⟩ : ∃ X, atL k R.l 0 = X := ⟨_, rfl⟩
  have HA := Lib.hid hans
  rw [hans]
  unfold Ky.val
  clear h hba hca hn hans
  go_enter Try.func20, Try.ntmps20
  go_wp2_with fail
  rw [← hwa]
  clear hwa
  go_loopw [5] (fun i wr => ∃ (ii : Nat), ii ≤ n ∧ i = .int .i64 (ii : Int) ∧ Hid (∀ t ∈ R.l.take ii, t.1 ≠ k) ∧ Hid (Below wa.heap.size wa wr)) (fun i _ => n - (intOf i).toNat)
  case atStart => exact ⟨0, Nat.zero_le _, rfl, Lib.hid (fun t ht => by cases ht), Lib.hid (Below.refl _ _)⟩
  case round =>
    obtain ⟨ii, hii, rfl, HF, HBR⟩ := hrel
    have hr := HR.out.later HBR.out
    have c1 := hr.cel.cell (j := 1) rfl
    rw [HN.out] at c1
    by_cases hin : ii < n
    · have hil : ii < R.l.length := by rw [HN.out]; exact hin
      obtain ⟨⟨t, due⟩, ht⟩ : ∃ t, R.l[ii]? = some t := ⟨_, List.getElem?_eq_getElem hil⟩
      obtain ⟨g, rfl, hrg⟩ := hr.at ht
      have HR1 : Hid (∀ wi, Below wr.heap.size wr wi → wi.cell? ⟨rb, 1, none⟩ = some (.slice (some ⟨g, 0, none⟩) n ac)) := Lib.hid fun wi hb => by
        have h1 := (hr.later hb).cel.cell (j := 1) rfl
        rw [HN.out] at h1
        exact h1
      have HT0 : Hid (∀ wi, Below wr.heap.size wr wi → wi.rangeAt g (ii * 7) (Tm.vals (t, due))) := Lib.hid fun wi hb => range_later hrg hb
      have HKB : Hid (∀ wi, Below wr.heap.size wr wi → Cells wi w.heap.size 41 k.vals) := Lib.hid fun wi hb => (HC.out.later HBR.out).later hb
      have HI := Lib.hid hin
      obtain ⟨an, han⟩ : ∃ X, decide (t = k) = X := ⟨_, rfl⟩
      have HEQ : Hid (∀ wi, (binOp .eql 41 (.agg #[.int .i64 t.kind, .int .i64 t.cell, .int .i64 t.node, .int .i64 t.tn, .int .i64 t.te, .int .i64 t.ts]) (.agg #[.int .i64 k.kind, .int .i64 k.cell, .int .i64 k.node, .int .i64 k.tn, .int .i64 k.te, .int .i64 k.ts])).run Try.prog wi = .ok (.bool an) wi) := Lib.hid fun wi => by
        have h1 := key_eql t k wi
        rw [han] at h1
        exact h1
      have HAN := Lib.hid han
      have HT := Lib.hid ht
      have HIL := Lib.hid hil
      clear hr hrg ht han hil
      go_upto_region 4 with (fail)
      clear c1
      refine Reg.region_heavy (by kernel_rfl) 9 [9] (whAt4 rb g n ac ii t k an) (fun a => Below wr.heap.size wr a) (fun a => Below wr.heap.size wr a) (fun V => [(some 15, V 0), (some 16, V 1), (some 17, V 2), (some 18, V 3), (some 19, V 4), (some 20, V 5), (some 21, V 6), (some 22, V 7), (some 23, V 8), (some 24, V 9)]) (by kernel_rfl) (by kernel_rfl) (by kernel_rfl) (fun V => rfl) ?_ ?_ ?_
      · exact (Below.refl _ _).drew
      · intro i o ho
        have hi : i < 10 := (Array.getElem?_eq_some_iff.1 ho).1
        rcases i with _ | _ | _ | _ | _ | _ | _ | _ | _ | _ | i
        rotate_right
        · omega
        all_goals obtain rfl := Option.some.inj ho
        all_goals intro ρ wi hE hI hs hd
        all_goals try dsimp only at hI
        · have e0 : ρ (.tmp 0) = .pointer (some ⟨rb, 0, none⟩) := hs 0; exact Reg.gw hI
        · obtain ⟨_, rfl, e15⟩ := hd 0 15; exact Reg.gw hI
        · obtain ⟨_, rfl, e16⟩ := hd 1 16; exact Reg.gw hI
        · obtain ⟨_, rfl, e17⟩ := hd 2 17; have x0 := HR1.out _ hI; exact Reg.gw hI
        · have e5 : ρ (.tmp 5) = .int .i64 (ii : Int) := hs 5; exact Reg.gw hI
        · obtain ⟨_, rfl, e18⟩ := hd 3 18; obtain ⟨_, rfl, e19⟩ := hd 4 19
          have z1 : (0 : Int) ≤ (ii : Int) := by omega
          have z2 : (ii : Int) < (n : Int) := by have := HI.out; omega
          have z3 : ii < n := HI.out; exact Reg.gw hI
        · obtain ⟨_, rfl, e20⟩ := hd 5 20; exact Reg.gw hI
        · obtain ⟨_, rfl, e21⟩ := hd 6 21; have q0 := HT0.out _ hI 0 _ rfl
          rw [Nat.add_zero] at q0
          have q1 := HT0.out _ hI 1 _ rfl; have q2 := HT0.out _ hI 2 _ rfl; have q3 := HT0.out _ hI 3 _ rfl; have q4 := HT0.out _ hI 4 _ rfl; have q5 := HT0.out _ hI 5 _ rfl; exact Reg.gw hI
        · have e3 : ρ (.tmp 3) = .pointer (some ⟨w.heap.size, 0, none⟩) := hs 3; have hq := (HKB.out _ hI); have q0 := hq.cell (j := 0) rfl; have q1 := hq.cell (j := 1) rfl; have q2 := hq.cell (j := 2) rfl; have q3 := hq.cell (j := 3) rfl; have q4 := hq.cell (j := 4) rfl; have q5 := hq.cell (j := 5) rfl; exact Reg.gw hI
        · obtain ⟨_, rfl, e22⟩ := hd 7 22; obtain ⟨_, rfl, e23⟩ := hd 8 23
          exact Reg.Gives.value (v := .bool an) (w' := wi) (exec_bin .eql 41 _ _ _ rfl _ _ e22 e23 (by kernel_rfl) (HEQ.out wi)) (Reg.OwedH.same hI rfl)
      · intro V wf hV hI
        have hV9 : V 9 = .bool an := hV 9 (by decide) rfl
        simp only [Reg.putsO, List.foldl_cons, List.foldl_nil, Act.put, List.setIfInBounds_toArray, List.set_cons_succ, List.set_cons_zero, hV9]
        replace hI : (fun a => Below wr.heap.size wr a) wf := hI
        clear hV hV9
        have HBF := Lib.hid (HBR.out.trans (hI.mono HBR.out.size))
        clear hI HR1 HT0 HKB HEQ
        cases an with
        | true =>
          have HV : Hid (ans = (ii : Int)) := Lib.hid (by
            obtain ⟨h1, h2⟩ := List.getElem?_eq_some_iff.1 HT.out
            rw [← HA.out, atL_drop k R.l ii HF.out, List.drop_eq_getElem_cons HIL.out, h2]
            show (if t = k then (ii : Int) else _) = _
            rw [if_pos (of_decide_eq_true HAN.out)])
          go_wp2_with fail
          go_returns
          exact ⟨ret_int HV.out.symm, HB.out.trans (HBF.out.mono HB.out.size)⟩
        | false =>
          have HF2 : Hid (∀ u ∈ R.l.take (ii + 1), u.1 ≠ k) := Lib.hid (by
            obtain ⟨h1, h2⟩ := List.getElem?_eq_some_iff.1 HT.out
            intro u hu
            rw [List.take_succ_eq_append_getElem HIL.out, List.mem_append] at hu
            rcases hu with hu | hu
            · exact HF.out u hu
            · rw [List.mem_singleton.1 hu, h2]
              exact of_decide_eq_false HAN.out)
          go_wp2_with fail
          go_roundw
          case rel => exact ⟨ii + 1, by omega, by go_num, HF2, HBF⟩
          case measure => simp [intOf]; omega
    · obtain rfl : ii = n := by omega
      have HV : Hid (ans = -1) := Lib.hid (by rw [← HA.out, atL_drop k R.l ii HF.out, List.drop_of_length_le (by rw [HN.out]; exact Nat.le_refl _)]; rfl)
      go_wp2_with fail
      go_returns
      exact ⟨ret_int HV.out.symm, HB.out.trans (HBR.out.mono HB.out.size)⟩
end Go.Proofs.Ytnbdgjaekjneaaa.Whl
