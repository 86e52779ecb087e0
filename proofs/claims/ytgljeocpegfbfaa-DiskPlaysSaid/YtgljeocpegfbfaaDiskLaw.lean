/-
  What layer 4's laws share: a script of operations in memory, great, awake. Conditions: none.
-/
import Derived.Test.YtgljeocpegfbfaaDiskCode
import Derived.Deep.DeepHandedRow
import Derived.Lib.LaidTab
import Derived.Deep.Slices
import Derived.Deep.Fields
import Derived.ChangeSame
namespace Go.Proofs.Ytgljeocpegfbfaa.Disk
open Go.ChangeShapes Go.WideShapes Go.ChangeAt Go.RowKit Go.Deep Go.Proofs.Ytgljeocpegfbfaa.Mem

/-- An operation of a script. -/
structure Opn where
  k : Int
  n : Int
  A : Option Addr
  c : Nat
  ss : List ByteArray
def Opn.val (o : Opn) : Value := .agg #[.int .i64 o.k, .int .i64 o.n, .slice o.A o.ss.length o.c]
structure Opn.Ok (w : World) (o : Opn) : Prop where
  low : -9223372036854775808 ≤ o.n
  high : o.n ≤ 9223372036854775807
  texts : Strs w o.A o.ss
  none : Cap o.A o.ss.length o.c
  len : o.ss.length ≤ maxLen
/-- The slice whose first cell is at A holds these operations. -/
def Ops (w : World) (A : Option Addr) (os : List Opn) : Prop := ∀ k (h : k < os.length), os[k].Ok w ∧ ∃ b off, A = some ⟨b, off, none⟩ ∧
  w.cell? ⟨b, off + k * 3, none⟩ = some (.int .i64 os[k].k) ∧ w.cell? ⟨b, off + k * 3 + 1, none⟩ = some (.int .i64 os[k].n) ∧ w.cell? ⟨b, off + k * 3 + 2, none⟩ = some (.slice os[k].A os[k].ss.length os[k].c)
theorem Opn.Ok.later {w w' : World} {o : Opn} (h : o.Ok w) (hb : Below w.heap.size w w') : o.Ok w' := ⟨h.low, h.high, h.texts.later hb, h.none, h.len⟩
theorem Ops.later {w w' : World} {A : Option Addr} {os : List Opn} (h : Ops w A os) (hb : Below w.heap.size w w') : Ops w' A os := by
  intro k hk
  obtain ⟨ho, b, off, e, h0, h1, h2⟩ := h k hk
  exact ⟨ho.later hb, b, off, e, (hb.cell (block_of_cell h0)).trans h0, (hb.cell (block_of_cell h1)).trans h1, (hb.cell (block_of_cell h2)).trans h2⟩

/-- How many bytes all have. -/
def total (os : List Opn) : Nat := (os.map fun o => (cat o.ss).length).sum
theorem sum_take (l : List Nat) (k : Nat) (h : k < l.length) : (l.take (k + 1)).sum = (l.take k).sum + l[k] := by
  rw [List.take_succ_eq_append_getElem h, List.sum_append]; simp
theorem total_take (os : List Opn) (k : Nat) (h : k < os.length) : total (os.take (k + 1)) = total (os.take k) + (cat os[k].ss).length := by
  unfold total
  rw [List.map_take, List.map_take, sum_take _ k (by simpa using h), List.getElem_map]
theorem total_le (os : List Opn) (k : Nat) : total (os.take k) ≤ total os := by
  have h : total os = total (os.take k) + total (os.drop k) := by
    unfold total
    rw [← List.sum_append, ← List.map_append, List.take_append_drop]
  omega
/-- Is a script one that is played? -/
def small (os : List Opn) : Bool := decide (os.length ≤ 100) && os.all (fun o => decide (o.ss.length ≤ 20)) && decide (total os ≤ 3000)

set_option maxHeartbeats 2000000 in
theorem great_any (A : Option Addr) (os : List Opn) (c : Nat) (w : World) (hs : Ops w A os) (hm : os.length ≤ maxLen) :
    Calls Try.prog 10 #[.slice A os.length c] w fun e w' => e = .returned (.bool (!small os)) ∧ Below w.heap.size w w' := by
  unfold maxLen at hm
  by_cases h1 : 100 < os.length
  · have HF := Lib.hid (show small os = false by unfold small; rw [decide_eq_false (by omega)]; rfl)
    go_enter Try.func10, Try.ntmps10
    go_wp2
    go_returns
    exact ⟨by rw [HF.out]; rfl, Below.refl _ _⟩
  · have HS := Lib.hid hs
    clear hs
    go_enter Try.func10, Try.ntmps10
    go_wp2
    go_loopw [3, 13] (fun n i wr => ∃ k : Nat, k ≤ os.length ∧ i = .int .i64 (k : Int) ∧ n = .int .i64 (total (os.take k) : Nat) ∧ total (os.take k) ≤ 3000 ∧ (∀ o ∈ os.take k, o.ss.length ≤ 20) ∧ Below w.heap.size w wr) (fun _ i _ => os.length - (intOf i).toNat)
    case atStart => exact ⟨0, Nat.zero_le _, rfl, rfl, Nat.zero_le _, fun o h => (by cases h), Below.refl _ _⟩
    case round =>
      obtain ⟨k, hk, rfl, rfl, hle, hall, hb⟩ := hrel
      have HB := Lib.hid hb
      have HA := Lib.hid hall
      clear hb hall
      by_cases hlt : k < os.length
      · obtain ⟨hok, b, off, rfl, c0, c1, c2⟩ := (HS.out.later HB.out) k hlt
        have HT := Lib.hid (total_take os k hlt)
        have HTK := Lib.hid (List.take_succ_eq_append_getElem hlt)
        have HME := Lib.hid (List.getElem_mem hlt)
        have HTL := Lib.hid (total_le os (k + 1))
        have htx := hok.texts
        have hln := hok.len
        unfold maxLen at hln
        generalize os[k] = o at *
        obtain ⟨ok, on, oA, oc, ss⟩ := o
        simp only at c0 c1 c2 htx hln
        generalize total (os.take k) = t at *
        by_cases h20 : 20 < ss.length
        · have HF := Lib.hid (show small os = false by
            unfold small
            have h : os.all (fun o => decide (o.ss.length ≤ 20)) = false := List.all_eq_false.2 ⟨_, HME.out, by simp; omega⟩
            rw [h, Bool.and_false, Bool.false_and])
          go_wp2
          go_returns
          exact ⟨by rw [HF.out]; rfl, HB.out.trans ((below_alloc wr _).mono HB.out.size)⟩
        · have HX := Lib.hid htx
          clear htx
          have HBX := Lib.hid (below_alloc wr (.cells #[.int .i64 ok, .int .i64 on, .slice oA ss.length oc] 33))
          go_wp2
          go_loop [3, 24] (fun n j => ∃ i : Nat, i ≤ ss.length ∧ j = .int .i64 (i : Int) ∧ n = .int .i64 ((t + (cat (ss.take i)).length : Nat) : Int) ∧ t + (cat (ss.take i)).length ≤ 3000) (fun _ j => ss.length - (intOf j).toNat)
          case atStart => exact ⟨0, Nat.zero_le _, rfl, by simp [cat], by simp [cat]; omega⟩
          case round =>
            obtain ⟨i, hi, rfl, rfl, hle2⟩ := hrel
            by_cases hil : i < ss.length
            · obtain ⟨ad, rfl, hc, hz⟩ := (HX.out.later HBX.out) i hil
              have HC2 := Lib.hid (cat_take ss i hil)
              have HCL := Lib.hid (cat_take_le ss (i + 1))
              generalize ss[i] = s at *
              have hcl : (cat (ss.take (i + 1))).length = (cat (ss.take i)).length + s.size := by rw [HC2.out, List.length_append, toList_size]
              have HCE := Lib.hid hcl
              clear hcl
              generalize (cat (ss.take i)).length = m at *
              by_cases h3 : 3000 < t + m + s.size
              · have HF := Lib.hid (show small os = false by
                  unfold small
                  have h1 := HTL.out
                  have h2 := HT.out
                  have h4 := HCE.out
                  have h5 := HCL.out
                  have h : decide (total os ≤ 3000) = false := decide_eq_false (by omega)
                  rw [h, Bool.and_false])
                go_wp2
                go_returns
                exact ⟨by rw [HF.out]; rfl, HB.out.trans (HBX.out.mono HB.out.size)⟩
              · go_wp2
                go_round
                case rel => exact ⟨i + 1, by omega, by go_num, by rw [HCE.out]; go_num, by rw [HCE.out]; omega⟩
                case measure => simp [intOf]; omega
            · have he2 : ss.take i = ss := List.take_of_length_le (by omega)
              rw [he2] at hle2 ⊢
              clear he2
              go_wp2
              go_roundw
              case rel =>
                refine ⟨k + 1, by omega, by go_num, by rw [HT.out], by rw [HT.out]; exact hle2, ?_, HB.out.trans (HBX.out.mono HB.out.size)⟩
                intro o ho
                rw [HTK.out] at ho
                rcases List.mem_append.1 ho with ho | ho
                · exact HA.out o ho
                · obtain rfl := List.mem_singleton.1 ho
                  show ss.length ≤ 20
                  omega
              case measure => simp [intOf]; omega
      · have he : os.take k = os := List.take_of_length_le (by omega)
        rw [he] at hle HA
        have HF := Lib.hid (show small os = true by
          unfold small
          rw [decide_eq_true (by omega), decide_eq_true hle, List.all_eq_true.2 fun o ho => decide_eq_true (HA.out o ho)]
          rfl)
        go_wp2
        go_returns
        exact ⟨by rw [HF.out]; rfl, HB.out⟩

theorem two_strs (w : World) (s t : ByteArray) (T : TypeId) (hs : s.size ≤ 140737488355328) (ht : t.size ≤ 140737488355328) : Strs (w.alloc (.cells #[.string s, .string t] T)) (some ⟨w.heap.size, 0, none⟩) [s, t] :=
  strs_lit w [s, t] T (by
    intro x hx
    simp only [List.mem_cons, List.not_mem_nil, or_false] at hx
    rcases hx with rfl | rfl
    · exact hs
    · exact ht)

set_option maxHeartbeats 2000000 in
theorem awake_any (C : Does) (w : World) :
    Calls Try.prog 7 #[] w fun e w' => e = .returned (.bool true) ∧ Below w.heap.size w w' := by
  have HN := Lib.hid (C.news 100 w w.heap.size (Nat.le_refl _))
  have E1 := Lib.hid (show appendS (empty 100) (cat [⟨#[97]⟩, ⟨#[98]⟩]) = (0, ⟨[97, 98], 0, 100, -1, false⟩) from rfl)
  have E2 := Lib.hid (show syncS ⟨[97, 98], 0, 100, -1, false⟩ = (0, ⟨[97, 98], 2, 100, -1, false⟩) from rfl)
  have E3 := Lib.hid (show appendS ⟨[97, 98], 2, 100, -1, false⟩ (cat [⟨#[99, 100]⟩]) = (0, ⟨[97, 98, 99, 100], 2, 100, -1, false⟩) from rfl)
  have E4 := Lib.hid (show crashS ⟨[97, 98, 99, 100], 2, 100, -1, false⟩ 1 = ⟨[97, 98, 99], 3, 100, -1, false⟩ from rfl)
  go_enter Try.func7, Try.ntmps7
  go_wp2_with fail
  refine HN.out.mono ?_
  rintro e w1 ⟨hx, hb1⟩
  rw [if_neg (by omega)] at hx
  obtain ⟨g, r, rfl, hd, _, _⟩ := hx
  have H1 : Hid (Has C w w1 g r (empty 100)) := Lib.hid ⟨hb1, hd, empty_ok 100 (by omega)⟩
  clear hd hb1
  unfold at_
  go_wp2_with fail
  have HA := H1.out.later (below_alloc w1 (.cells #[.string ⟨#[97]⟩, .string ⟨#[98]⟩] 9))
  refine (C.append (some ⟨w1.heap.size, 0, none⟩) [⟨#[97]⟩, ⟨#[98]⟩] 2 HA.disk HA.ok (two_strs w1 _ _ _ (by decide) (by decide)) (by simp) (by decide) ⟨(fun h => by cases h), by simp⟩).mono ?_
  rintro e w2 ⟨rfl, r2, hd2, ht2⟩
  have H2 : Hid (Has C w w2 g r2 ⟨[97, 98], 0, 100, -1, false⟩) := Lib.hid (by have h := HA.next ht2 hd2 (appendS_ok HA.ok _); rw [E1.out] at h; exact h)
  rw [E1.out]
  clear hd2 ht2 HA
  go_wp2_with fail
  refine (C.sync H2.out.disk H2.out.ok).mono ?_
  rintro e w3 ⟨rfl, r3, hd3, ht3⟩
  have H3 : Hid (Has C w w3 g r3 ⟨[97, 98], 2, 100, -1, false⟩) := Lib.hid (by have h := H2.out.next ht3 hd3 (syncS_ok H2.out.ok); rw [E2.out] at h; exact h)
  rw [E2.out]
  clear hd3 ht3
  go_wp2_with fail
  have HB := H3.out.later (below_alloc w3 (.cells #[.string ⟨#[99, 100]⟩] 9))
  refine (C.append (some ⟨w3.heap.size, 0, none⟩) [⟨#[99, 100]⟩] 1 HB.disk HB.ok (strs_one w3 _ _ (by decide)) (by simp) (by decide) ⟨(fun h => by cases h), by simp⟩).mono ?_
  rintro e w4 ⟨rfl, r4, hd4, ht4⟩
  have H4 : Hid (Has C w w4 g r4 ⟨[97, 98, 99, 100], 2, 100, -1, false⟩) := Lib.hid (by have h := HB.next ht4 hd4 (appendS_ok HB.ok _); rw [E3.out] at h; exact h)
  rw [E3.out]
  clear hd4 ht4 HB
  go_wp2_with fail
  refine (C.crash 1 H4.out.disk H4.out.ok (by omega) (by omega)).mono ?_
  rintro e w5 ⟨rfl, r5, hd5, ht5⟩
  have H5 : Hid (Has C w w5 g r5 ⟨[97, 98, 99], 3, 100, -1, false⟩) := Lib.hid (by have h := H4.out.next ht5 hd5 (crashS_ok H4.out.ok 1); rw [E4.out] at h; exact h)
  clear hd5 ht5
  go_wp2_with fail
  refine (C.bytes H5.out.disk H5.out.ok).mono ?_
  rintro e w6 ⟨rfl, rfl⟩
  go_wp2_with fail
  refine (C.safe H5.out.disk H5.out.ok).mono ?_
  rintro e w6 ⟨rfl, rfl⟩
  go_wp2_with fail
  go_returns
  exact ⟨rfl, H5.out.below⟩

theorem structOp : ∃ f0 f1 f2 : Field, Try.prog.underlying 33 = some (.struct #[f0, f1, f2]) ∧ oneCellFields Try.prog #[f0, f1, f2] = true ∧ f0.type = 3 ∧ f1.type = 3 ∧ f2.type = 31 :=
  ⟨_, _, _, Try.underlying33, by kernel_rfl, rfl, rfl, rfl⟩
theorem cellsOp : Try.prog.cellsOf 33 = 3 := by kernel_rfl

/-- One disk, and a block of the law's own beside it. -/
structure Both (C : Does) (w0 w : World) (g : Nat) (r : Option Nat) (d : Ds) (b : Nat) (t : TypeId) (vs : List Value) : Prop where
  has : Has C w0 w g r d
  box : Cells w b t vs
  far : Far g r b none
theorem Both.later {C : Does} {w0 w w' : World} {g b : Nat} {r : Option Nat} {d : Ds} {t : TypeId} {vs : List Value} (h : Both C w0 w g r d b t vs) (hb : Below w.heap.size w w') : Both C w0 w' g r d b t vs := ⟨h.has.later hb, h.box.later hb, h.far⟩
theorem Both.next {C : Does} {w0 w w' : World} {g b : Nat} {r r' : Option Nat} {d d' : Ds} {t : TypeId} {vs : List Value} (h : Both C w0 w g r d b t vs) (ht : Turn w w' g r r') (hd : C.Dk w' w0.heap.size g r' d') (ho : d'.Ok) : Both C w0 w' g r' d' b t vs :=
  ⟨h.has.next ht hd ho, cells_only h.box ht.1 h.far.off.1, h.far.next ht h.box.lt fun k hk => by cases hk⟩
theorem far_new {g b : Nat} {r : Option Nat} (hg : b < g) (hr : ∀ k, r = some k → b < k) : Far g r b none := ⟨by omega, fun e => by have := hr b e; omega, by simp, fun k _ e => by cases e⟩

theorem ops_two (w : World) (A B : Option Addr) (ss ts : List ByteArray) (c d : Nat) (hs : Strs w A ss) (ht : Strs w B ts) (hA : Cap A ss.length c) (hB : Cap B ts.length d) (hl : ss.length ≤ maxLen) (hl2 : ts.length ≤ maxLen) :
    Ops (w.alloc (.cells #[.int .i64 0, .int .i64 0, .slice A ss.length c, .int .i64 0, .int .i64 0, .slice B ts.length d] 33)) (some ⟨w.heap.size, 0, none⟩) [⟨0, 0, A, c, ss⟩, ⟨0, 0, B, d, ts⟩] := by
  have hb := below_alloc w (.cells #[.int .i64 0, .int .i64 0, .slice A ss.length c, .int .i64 0, .int .i64 0, .slice B ts.length d] 33)
  have hn := heap_alloc_new w (.cells #[.int .i64 0, .int .i64 0, .slice A ss.length c, .int .i64 0, .int .i64 0, .slice B ts.length d] 33)
  intro k hk
  match k, hk with
  | 0, _ => exact ⟨⟨(by decide : (-9223372036854775808 : Int) ≤ 0), (by decide : (0 : Int) ≤ 9223372036854775807), hs.later hb, hA, hl⟩, w.heap.size, 0, rfl, by rw [cell_of_row _ _ _ _ _ _ hn]; rfl, by rw [cell_of_row _ _ _ _ _ _ hn]; rfl, by rw [cell_of_row _ _ _ _ _ _ hn]; rfl⟩
  | 1, _ => exact ⟨⟨(by decide : (-9223372036854775808 : Int) ≤ 0), (by decide : (0 : Int) ≤ 9223372036854775807), ht.later hb, hB, hl2⟩, w.heap.size, 0, rfl, by rw [cell_of_row _ _ _ _ _ _ hn]; rfl, by rw [cell_of_row _ _ _ _ _ _ hn]; rfl, by rw [cell_of_row _ _ _ _ _ _ hn]; rfl⟩
theorem small_two (A B : Option Addr) (ss ts : List ByteArray) (c d : Nat) : small [⟨0, 0, A, c, ss⟩, ⟨0, 0, B, d, ts⟩] = decide (ss.length ≤ 20 ∧ ts.length ≤ 20 ∧ (cat ss).length + (cat ts).length ≤ 3000) := by
  unfold small total
  by_cases h1 : ss.length ≤ 20 <;> by_cases h2 : ts.length ≤ 20 <;> simp [h1, h2]

theorem crash_twice {d : Ds} (h : d.Ok) (k n : Int) : crashS (crashS d k) n = crashS d k := by
  have h1 := kept_le h k
  have hl : (d.b.take (kept d k)).length = kept d k := by rw [List.length_take]; omega
  have h2 : kept (crashS d k) n = kept d k := by
    show kept d k + min n.toNat ((d.b.take (kept d k)).length - kept d k) = kept d k
    omega
  have h3 : (crashS d k).b.take (kept (crashS d k) n) = (crashS d k).b := by
    rw [h2]
    exact List.take_of_length_le (by show (d.b.take (kept d k)).length ≤ _; omega)
  unfold crashS at h3 ⊢
  rw [h3]
  rw [show kept { d with b := d.b.take (kept d k), safe := kept d k, fuse := -1, down := false } n = kept d k from h2]

theorem structOff : ∃ f0 f1 : Field, Try.prog.underlying 47 = some (.struct #[f0, f1]) ∧ oneCellFields Try.prog #[f0, f1] = true ∧ f0.type = 3 ∧ f1.type = 3 :=
  ⟨_, _, Try.underlying47, by kernel_rfl, rfl, rfl⟩
theorem cellsOff : Try.prog.cellsOf 47 = 2 := by kernel_rfl
theorem range64 {x : Int} (h : (Lit.int .i64 x).wf = true) : -9223372036854775808 ≤ x ∧ x ≤ 9223372036854775807 := by
  have h1 : IntKind.i64.min = -9223372036854775808 := rfl
  have h2 : IntKind.i64.max = 9223372036854775807 := rfl
  simp only [Lit.wf, Bool.and_eq_true, decide_eq_true_eq, h1, h2] at h
  exact h
/-- An Off that came in. -/
theorem open_off {H : Type} {enc : TypeId × Value → H} {W : World} {base : Nat} {v : Value} {d : DataW H} {p : List MemPlace}
    (hv : Value.okWide Try.prog W .any base 47 v) (h : DataW.Trod enc Try.prog W 0 (fun _ => true) true 47 v d p) :
    ∃ f k : Int, v = .agg #[.int .i64 f, .int .i64 k] ∧ (-9223372036854775808 ≤ f ∧ f ≤ 9223372036854775807) ∧ (-9223372036854775808 ≤ k ∧ k ≤ 9223372036854775807) := by
  obtain ⟨f0, f1, hst, hone, e0, e1⟩ := structOff
  obtain ⟨cs, rfl, hcs⟩ := okWide_struct hst hv
  obtain ⟨fuel, hf⟩ := h
  rw [cellsOff] at hcs
  obtain ⟨xs, n', _, _, _, hxl, hg⟩ := DataW.trod_struct hst hf
  obtain ⟨o0, k0⟩ := hone_of hone 0 f0 rfl
  obtain ⟨o1, k1⟩ := hone_of hone 1 f1 rfl
  match cs, hcs with
  | ⟨[c0, c1]⟩, _ =>
    match xs, hxl with
    | [y0, y1], _ =>
      have g0 := hg 0 f0 rfl
      have g1 := hg 1 f1 rfl
      rw [o0, k0, e0] at g0
      rw [o1, k1, e1] at g1
      change DataW.trod enc Try.prog W 0 (fun _ => true) true n' 3 [c0] = some y0 at g0
      change DataW.trod enc Try.prog W 0 (fun _ => true) true n' 3 [c1] = some y1 at g1
      obtain ⟨x0, q0, _, w0⟩ := DataW.trod_int Try.underlying3 g0
      obtain ⟨x1, q1, _, w1⟩ := DataW.trod_int Try.underlying3 g1
      simp at q0 q1
      subst q0; subst q1
      exact ⟨x0, x1, rfl, range64 w0, range64 w1⟩

/-- A slice of texts that lies within what came in. -/
theorem open_inner {H : Type} {enc : TypeId × Value → H} {W : World} {n : Nat} {v : Value} {x : DataW H × List MemPlace}
    (h : DataW.trod enc Try.prog W 0 (fun _ => true) true n 31 [v] = some x) (hsz : Base.Small Try.prog 31 x.1) :
    ∃ (A : Option Addr) (ss : List ByteArray) (c : Nat), v = .slice A ss.length c ∧ Strs W A ss ∧ ss.length ≤ maxLen ∧ Cap A ss.length c := by
  rcases open_strings Try.underlying31 Try.underlying9 cellsString h with ⟨hcs, _⟩ | ⟨a, len, cap, ss, hcs, _, hl, hm, hz, hx, hcell, _⟩
  · obtain rfl := List.singleton_inj.1 hcs
    exact ⟨none, [], 0, rfl, strs_nil _ _, by decide, fun _ => rfl, Nat.le_refl _⟩
  · obtain rfl := List.singleton_inj.1 hcs
    simp only [if_true] at hz
    have hlen : (ss.take len).length = len := by rw [List.length_take]; omega
    refine ⟨some a, ss.take len, cap, by rw [hlen], ?_, by rw [hlen]; omega, (fun h => by cases h), by rw [hlen]; exact hl⟩
    intro k hk
    have hk' : k < ss.length := by omega
    refine ⟨a, rfl, ?_, ?_⟩
    · rw [hcell k hk', List.getElem_take]
      simp [List.getD, hk']
    · have hm' : (DataW.lit (.string (ss.take len)[k].data.toList) : DataW H) ∈ strs (ss.take len) := by
        unfold strs
        exact List.mem_map.2 ⟨_, List.getElem_mem hk, rfl⟩
      have h1 : x.1 = DataW.slice (strs (ss.take len)) (strs (ss.drop len)) := by rw [hx]
      rw [h1] at hsz
      have h2 := (hsz.elem Try.underlying31 hm').text
      rw [toList_size] at h2
      omega

/-- A script that came in. -/
theorem open_ops {H : Type} {enc : TypeId × Value → H} {W : World} {base : Nat} {v : Value} {d : DataW H} {p : List MemPlace}
    (hv : Value.okWide Try.prog W .any base 22 v) (h : DataW.Trod enc Try.prog W 0 (fun _ => true) true 22 v d p)
    (hsz : Base.Small Try.prog 22 d) :
    ∃ (A : Option Addr) (os : List Opn) (cap : Nat), v = .slice A os.length cap ∧ Ops W A os ∧ os.length ≤ maxLen := by
  obtain ⟨f0, f1, f2, hst, hone, e0, e1, e2⟩ := structOp
  obtain ⟨a0, len, cap, rfl⟩ := okWide_slice Try.underlying22 hv
  obtain ⟨fuel, hf⟩ := h
  rcases open_slice Try.underlying22 hf with ⟨hcs, hx⟩ | ⟨a, len', cap', m, n, D, Pl, hcs, _, hl, hm, hmm, hx, hi⟩
  · simp [Value.cells] at hcs
    obtain ⟨rfl, rfl, rfl⟩ := hcs
    exact ⟨none, [], 0, rfl, fun k hk => absurd hk (by simp), by decide⟩
  · simp [Value.cells] at hcs
    obtain ⟨rfl, rfl, rfl⟩ := hcs
    simp only [if_true] at hmm
    simp only [Prod.mk.injEq] at hx
    obtain ⟨hx, _⟩ := hx
    have each : ∀ i, i < len → ∃ o : Opn, o.Ok W ∧ W.cell? (a.add (i * 3)) = some (.int .i64 o.k) ∧ W.cell? (a.add (i * 3 + 1)) = some (.int .i64 o.n) ∧ W.cell? (a.add (i * 3 + 2)) = some (.slice o.A o.ss.length o.c) := by
      intro i hil
      obtain ⟨cs', hc, hr⟩ := hi i (by omega)
      rw [cellsOp] at hc
      obtain ⟨xs, n', _, hy, hlen, hxl, hg⟩ := DataW.trod_struct hst hr
      obtain ⟨_, hcl, hat⟩ := World.cells?_some hc
      obtain ⟨o0, k0⟩ := hone_of hone 0 f0 rfl
      obtain ⟨o1, k1⟩ := hone_of hone 1 f1 rfl
      obtain ⟨o2, k2⟩ := hone_of hone 2 f2 rfl
      match cs', hcl with
      | [c0, c1, c2], _ =>
        match xs, hxl with
        | [y0, y1, y2], _ =>
          have g0 := hg 0 f0 rfl
          have g1 := hg 1 f1 rfl
          have g2 := hg 2 f2 rfl
          rw [o0, k0, e0] at g0
          rw [o1, k1, e1] at g1
          rw [o2, k2, e2] at g2
          change DataW.trod enc Try.prog W 0 (fun _ => true) true n' 3 [c0] = some y0 at g0
          change DataW.trod enc Try.prog W 0 (fun _ => true) true n' 3 [c1] = some y1 at g1
          change DataW.trod enc Try.prog W 0 (fun _ => true) true n' 31 [c2] = some y2 at g2
          obtain ⟨x0, q0, r0, w0⟩ := DataW.trod_int Try.underlying3 g0
          obtain ⟨x1, q1, r1, w1⟩ := DataW.trod_int Try.underlying3 g1
          simp at q0 q1
          subst q0; subst q1
          have hel := (hx ▸ hsz).elem Try.underlying22 (d := D i) (List.mem_map.2 ⟨i, List.mem_range.2 hil, rfl⟩)
          simp only [Prod.mk.injEq] at hy
          rw [hy.1] at hel
          have hp := hel.part (j := 2) (f := f2) hst rfl (d := y2.1) rfl
          rw [e2] at hp
          obtain ⟨A, ss, c, rfl, hs, hln, hA⟩ := open_inner g2 hp
          have h0 := hat 0 (by omega)
          have h1 := hat 1 (by omega)
          have h2 := hat 2 (by omega)
          simp only [Go.Deep.add_add] at h0 h1 h2
          have hrg := range64 w1
          refine ⟨⟨x0, x1, A, c, ss⟩, ⟨hrg.1, hrg.2, hs, hA, hln⟩, ?_, h1, h2⟩
          rw [Nat.add_zero] at h0
          exact h0
    have choice : ∃ f : Nat → Opn, ∀ i, i < len → (f i).Ok W ∧ W.cell? (a.add (i * 3)) = some (.int .i64 (f i).k) ∧ W.cell? (a.add (i * 3 + 1)) = some (.int .i64 (f i).n) ∧ W.cell? (a.add (i * 3 + 2)) = some (.slice (f i).A (f i).ss.length (f i).c) := by
      refine ⟨fun i => if hi : i < len then (each i hi).choose else ⟨0, 0, none, 0, []⟩, fun i hi => ?_⟩
      simp only [dif_pos hi]
      exact (each i hi).choose_spec
    obtain ⟨f, hfn⟩ := choice
    refine ⟨some a, (List.range len).map f, cap, by simp, ?_, by simp; omega⟩
    intro k hk
    have hk' : k < len := by simpa using hk
    have hspec := hfn k hk'
    have hspot : a.spot = none := by
      have := World.cell?_spot (hfn 0 (by omega)).2.1
      simpa [Addr.add] using this
    obtain ⟨ab, ao, asp⟩ := a
    simp only at hspot
    subst hspot
    simp only [add_plain, ← Nat.add_assoc] at hspec
    have e : ((List.range len).map f)[k] = f k := by simp
    rw [e]
    exact ⟨hspec.1, ab, ao, rfl, hspec.2⟩
end Go.Proofs.Ytgljeocpegfbfaa.Disk
