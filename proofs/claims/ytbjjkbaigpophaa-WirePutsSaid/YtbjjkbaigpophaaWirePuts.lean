/-
  WirePuts is proved: any things have the bytes that the document says, or make a writer bad, and are read again from them. Conditions: none.
-/
import Derived.Test.YtbjjkbaigpophaaWireMath
namespace Go.Proofs.Ytbjjkbaigpophaa.WirePuts
open Go.ChangeShapes Go.WideShapes Go.ChangeAt Go.RowKit Go.Proofs.Ytbjjkbaigpophaa.Mem Go.Proofs.Ytbjjkbaigpophaa.Wire

theorem infoThing : (Try.prog.info? 29).map (fun i => (i.zero, i.size, i.bytes)) = some (some (.agg #[.int .i64 0, .int .i64 0, .string ⟨#[]⟩]), 3, 32) := by kernel_rfl

/-- A thing's three cells. -/
def cells3 (t : Th) : List Value := [.int .i64 t.k, .int .i64 t.n, .string t.s]
/-- A row of the call's own that holds these things. -/
def Kept (w : World) (base : Nat) (v : Value) (ts : List Th) : Prop := w.ownsRow base 29 3 v ts.length (ts.flatMap cells3)
theorem cells3_length (ts : List Th) : (ts.flatMap cells3).length = ts.length * 3 := by
  induction ts with
  | nil => rfl
  | cons t ts ih => rw [List.flatMap_cons, List.length_append, ih, List.length_cons]; show 3 + _ = _; omega
theorem cells3_at : ∀ (ts : List Th) (k : Nat) (h : k < ts.length), (ts.flatMap cells3)[k * 3]? = some (.int .i64 ts[k].k) ∧ (ts.flatMap cells3)[k * 3 + 1]? = some (.int .i64 ts[k].n) ∧ (ts.flatMap cells3)[k * 3 + 2]? = some (.string ts[k].s)
  | t :: ts, 0, _ => ⟨rfl, rfl, rfl⟩
  | t :: ts, k + 1, h => by
    have ih := cells3_at ts k (by simpa using h)
    rw [List.flatMap_cons, show (k + 1) * 3 = 3 + k * 3 by omega]
    have e : ∀ j, (cells3 t ++ ts.flatMap cells3)[3 + j]? = (ts.flatMap cells3)[j]? := fun j => by
      rw [List.getElem?_append_right (by show 3 ≤ _; omega)]
      show (ts.flatMap cells3)[3 + j - 3]? = _
      rw [Nat.add_sub_cancel_left]
    rw [Nat.add_assoc, Nat.add_assoc, e, e, e]
    exact ih
theorem Kept.opened {w : World} {base : Nat} {v : Value} {ts : List Th} (h : Kept w base v ts) : ∃ A c, v = .slice A ts.length c := by
  rcases h.2 with ⟨rfl, hn⟩ | ⟨g, cap, cur, rfl, _⟩
  · exact ⟨none, 0, by rw [hn]⟩
  · exact ⟨_, _, rfl⟩
theorem Kept.at_ {w : World} {base : Nat} {A : Option Addr} {n c : Nat} {ts : List Th} (h : Kept w base (.slice A n c) ts) {k : Nat} (hk : k < ts.length) : ∃ g, A = some ⟨g, 0, none⟩ ∧
    w.cell? ⟨g, k * 3, none⟩ = some (.int .i64 ts[k].k) ∧ w.cell? ⟨g, k * 3 + 1, none⟩ = some (.int .i64 ts[k].n) ∧ w.cell? ⟨g, k * 3 + 2, none⟩ = some (.string ts[k].s) := by
  have h0 := h
  rcases h.2 with ⟨_, hn⟩ | ⟨g, cap, cur, hv, _⟩
  · omega
  · simp only [Value.slice.injEq] at hv
    obtain ⟨rfl, _, _⟩ := hv
    obtain ⟨e0, e1, e2⟩ := cells3_at ts k hk
    have hc := h0.cells (g := g) rfl
    exact ⟨g, rfl, by have := hc _ _ e0; rwa [addr_add] at this, by have := hc _ _ e1; rwa [addr_add] at this, by have := hc _ _ e2; rwa [addr_add] at this⟩

/-- All things' bytes; is one of them none? -/
def wants (ts : List Th) : List UInt8 := ts.flatMap fun t => (putB t).getD []
def bads (ts : List Th) : Bool := ts.any fun t => (putB t).isNone
theorem wants_take (ts : List Th) (k : Nat) (h : k < ts.length) : wants (ts.take (k + 1)) = wants (ts.take k) ++ (putB ts[k]).getD [] := by
  unfold wants
  rw [List.take_succ_eq_append_getElem h, List.flatMap_append]
  simp
theorem bads_take (ts : List Th) (k : Nat) (h : k < ts.length) : bads (ts.take (k + 1)) = (bads (ts.take k) || (putB ts[k]).isNone) := by
  unfold bads
  rw [List.take_succ_eq_append_getElem h, List.any_append]
  simp
theorem wants_drop (ts : List Th) (k : Nat) (h : k < ts.length) : wants (ts.drop k) = (putB ts[k]).getD [] ++ wants (ts.drop (k + 1)) := by
  unfold wants
  rw [List.drop_eq_getElem_cons h]
  rfl
theorem wants_length (ts : List Th) : (wants ts).length ≤ 65545 * ts.length := by
  induction ts with
  | nil => exact Nat.zero_le _
  | cons t ts ih =>
    have h1 : ((putB t).getD []).length ≤ 65545 := by
      cases hp : putB t with
      | none => simp
      | some l => exact putB_length t l hp
    have e : wants (t :: ts) = (putB t).getD [] ++ wants ts := rfl
    rw [e, List.length_append, List.length_cons]
    omega
theorem puts_wants : ∀ (ts : List Th) (m : List UInt8), (∀ t ∈ ts, 0 ≤ t.k ∧ t.k ≤ 4) → puts (some m) ts = if bads ts then none else some (m ++ wants ts)
  | [], m, _ => by simp [puts, bads, wants]
  | t :: ts, m, h => by
    have ht := h t (List.mem_cons_self ..)
    have e : puts (some m) (t :: ts) = puts (putSt (some m) t) ts := rfl
    have eb : bads (t :: ts) = ((putB t).isNone || bads ts) := rfl
    have ew : wants (t :: ts) = (putB t).getD [] ++ wants ts := rfl
    rw [e, eb, ew]
    unfold putSt
    rw [if_neg (by omega)]
    cases hp : putB t with
    | none => simp [puts_none]
    | some l =>
      simp only [Option.map_some, Option.isNone_some, Bool.false_or, Option.getD_some]
      rw [puts_wants ts (m ++ l) fun x hx => h x (List.mem_cons_of_mem _ hx), List.append_assoc]
theorem bads_mem {ts : List Th} (h : bads ts = false) (k : Nat) (hk : k < ts.length) : ∃ l, putB ts[k] = some l := by
  have h1 := List.any_eq_false.1 h ts[k] (List.getElem_mem hk)
  cases hp : putB ts[k] with
  | none => rw [hp] at h1; exact absurd rfl h1
  | some l => exact ⟨l, rfl⟩

set_option maxHeartbeats 1000000 in
theorem walk_long (A : Option Addr) (ts : List Th) (c : Nat) (w : World) (hs : Things w A ts) (hm : ts.length ≤ maxLen) (h : 100 < ts.length ∨ 200000 < (ts.map (·.s.size)).sum) :
    Calls Try.prog 3 #[.slice A ts.length c] w fun e w' => e = .returned (.bool true) ∧ Below w.heap.size w w' := by
  have H1 := Lib.hid h
  clear h
  go_enter Try.func3, Try.ntmps3
  go_wp2_with fail
  refine (awake_any w).mono ?_
  rintro e w1 ⟨rfl, hb⟩
  go_wp2_with fail
  refine (long_yes A ts c w1 (hs.later hb) hm H1.out).mono ?_
  rintro e w2 ⟨rfl, hb2⟩
  have hb3 := hb.trans (hb2.mono hb.size)
  go_wp2_with fail
  go_returns
  exact ⟨rfl, hb3⟩

/-- Where the writer and the kept things stand, apart from one another. -/
structure At (w0 wr : World) (gw : Nat) (r : Option Nat) (v : Value) (st : Option (List UInt8)) (ks : List Th) : Prop where
  below : Below w0.heap.size w0 wr
  writ : Wr wr w0.heap.size gw r st
  kept : Kept wr w0.heap.size v ks
  own : v.ownBlock ≠ some gw
  rows : ∀ b, v.ownBlock = some b → r ≠ some b
theorem At.later {w0 wr w' : World} {gw : Nat} {r : Option Nat} {v : Value} {st : Option (List UInt8)} {ks : List Th} (h : At w0 wr gw r v st ks) (hb : Below wr.heap.size wr w') : At w0 w' gw r v st ks :=
  ⟨h.below.trans (hb.mono h.below.size), h.writ.later hb, row_only (S := fun _ => False) h.kept (Only.of_below hb) (fun _ _ h => h), h.own, h.rows⟩
theorem At.turn {w0 wr w' : World} {gw : Nat} {r r' : Option Nat} {v : Value} {st st' : Option (List UInt8)} {ks : List Th} (h : At w0 wr gw r v st ks) (hw : Wr w' w0.heap.size gw r' st') (ht : Turn wr w' gw r r') : At w0 w' gw r' v st' ks := by
  refine ⟨h.below.trans (ht.below h.writ h.below.size), hw, row_only h.kept ht.1 ?_, h.own, ?_⟩
  · rintro k hk (e | e)
    · subst e; exact h.own hk
    · exact h.rows k hk e.symm
  · intro b hb e
    rcases ht.2 b e with h1 | h1
    · exact h.rows b hb h1.symm
    · have := (h.kept.lt b hb).2; omega
theorem At.append {w0 wr w' : World} {gw : Nat} {r : Option Nat} {v v' : Value} {st : Option (List UInt8)} {ks ks' : List Th} (h : At w0 wr gw r v st ks) (hk : Kept w' w0.heap.size v' ks') (hg : wr.grownBy w' v.ownBlock) (hat : v'.ownBlock = v.ownBlock ∨ v'.ownBlock = some wr.heap.size) : At w0 w' gw r v' st ks' := by
  refine ⟨h.below.trans ((Below.refl _ wr).grown hg h.below.size fun k hk' => (h.kept.lt k hk').1), h.writ.only (Only.of_grown hg) (fun e => h.own e.symm) (fun k hk' e => h.rows k e.symm hk'), hk, ?_, ?_⟩
  · rcases hat with e | e
    · rw [e]; exact h.own
    · rw [e]; intro e2; have := h.writ.lt.1; simp at e2; omega
  · intro b hb
    rcases hat with e | e
    · rw [e] at hb; exact h.rows b hb
    · rw [e] at hb; intro e2; have := h.writ.lt.2 b e2; simp at hb; omega

set_option maxHeartbeats 4000000 in
theorem walk (A : Option Addr) (ts : List Th) (c : Nat) (w : World) (hs : Things w A ts) (hn : ts.length ≤ 100) (hl : (ts.map (·.s.size)).sum ≤ 200000) :
    Calls Try.prog 3 #[.slice A ts.length c] w fun e w' => e = .returned (.bool true) ∧ Below w.heap.size w w' := by
  have HS := Lib.hid hs
  have HL := Lib.hid hl
  obtain ⟨i0, hi, hz0, hz1, hz2⟩ := info_parts infoThing
  clear hs hl
  go_enter Try.func3, Try.ntmps3
  go_wp2_with fail
  refine (awake_any w).mono ?_
  rintro e w1 ⟨rfl, hb⟩
  go_wp2_with fail
  refine (long_no A ts c w1 (HS.out.later hb) HL.out hn).mono ?_
  rintro e w2 ⟨rfl, hb2⟩
  have hb3 := hb.trans (hb2.mono hb.size)
  have H0 : Hid (At w (w2.alloc (.cells #[.slice none 0 0, .bool false] 27)) w2.heap.size none (.slice none 0 0) (some []) []) := Lib.hid
    ⟨hb3.alloc hb3.size _, wr_new w2 _ hb3.size, World.ownsRow_nil _ _ _ _, by simp [Value.ownBlock], fun b hb => by cases hb⟩
  clear hb hb2 hb3
  go_wp2_with fail
  generalize w2.heap.size = gw at *
  go_loopw [4, 5, 6, 25] (fun want bad kept i wr => ∃ k r, k ≤ ts.length ∧ i = .int .i64 (k : Int) ∧ want = .string ⟨(wants (ts.take k)).toArray⟩ ∧ bad = .bool (bads (ts.take k)) ∧ At w wr gw r kept (puts (some []) (ts.take k)) (ts.take k) ∧ ∀ t ∈ ts.take k, 0 ≤ t.k ∧ t.k ≤ 4) (fun _ _ _ i _ => ts.length - (intOf i).toNat)
  case atStart => exact ⟨0, none, Nat.zero_le _, rfl, rfl, rfl, H0.out, fun t h => by cases h⟩
  case round =>
    obtain ⟨k, r, hk, rfl, rfl, rfl, hat, hks⟩ := hrel
    have H := Lib.hid hat
    have HK := Lib.hid hks
    clear hat hks
    have HWL := Lib.hid (show (wants (ts.take k)).length ≤ 6554500 by have h := wants_length (ts.take k); rw [List.length_take] at h; omega)
    by_cases hlt : k < ts.length
    · obtain ⟨b, off, rfl, c0, c1, c2⟩ := things_cells HS.out hlt H.out.below
      have HP := Lib.hid (puts_take (some []) ts k hlt)
      have HW := Lib.hid (wants_take ts k hlt)
      have HBD := Lib.hid (bads_take ts k hlt)
      have HT := Lib.hid (List.take_succ_eq_append_getElem hlt)
      have HOK := Lib.hid (HS.out k hlt).1
      have HZ := Lib.hid (show ts[k].s.size ≤ 1000000000 by have := size_le_sum ts k hlt; have := HL.out; omega)
      have HQ := Lib.hid (puts_small ts (some []) k (by simp) hn)
      have HTL := Lib.hid (show (ts.take k).length = k by rw [List.length_take]; omega)
      generalize ts[k] = t at *
      generalize puts (some []) (ts.take k) = st at *
      generalize wants (ts.take k) = wl at *
      generalize bads (ts.take k) = bd at *
      by_cases hr : t.k < 0 ∨ 4 < t.k
      · have hrng : t.k < 0 ∨ (¬ t.k < 0 ∧ 4 < t.k) := by omega
        obtain ⟨tk, tn, s⟩ := t
        simp only at c0 c1 c2 hrng
        rcases hrng with h1 | ⟨h1, h2⟩
        all_goals
          clear hr
          go_wp2_with fail
          go_returns
          exact ⟨rfl, (H.out.later (below_alloc _ _)).below⟩
      · obtain ⟨q, hq, hq4⟩ : ∃ q : Nat, t.k = (q : Int) ∧ q ≤ 4 := ⟨t.k.toNat, by omega, by omega⟩
        obtain ⟨l0, ok, hl0, hok, hpv, hl0n⟩ : ∃ (l0 : List UInt8) (ok : Bool), (putB t).getD [] = l0 ∧ (putB t).isNone = !ok ∧ putV t = .tuple #[.string ⟨l0.toArray⟩, .bool ok] ∧ l0.length ≤ 65545 := by
          unfold putV
          cases hp : putB t with
          | none => exact ⟨[], false, rfl, rfl, rfl, Nat.zero_le _⟩
          | some l => exact ⟨l, true, rfl, rfl, rfl, putB_length t l hp⟩
        have HL0 := Lib.hid hl0
        have HOKN := Lib.hid hok
        have HPV := Lib.hid hpv
        have hap := bytes_app wl ⟨l0.toArray⟩
        have hwll := HWL.out
        clear hl0 hok hpv
        have HRNG := Lib.hid (show 0 ≤ t.k ∧ t.k ≤ 4 by omega)
        clear hr
        have HC := Lib.hid (cells_new wr 29 (cells3 t) #[.int .i64 t.k, .int .i64 t.n, .string t.s] rfl)
        have H1 := Lib.hid (H.out.later (below_alloc wr (.cells #[.int .i64 t.k, .int .i64 t.n, .string t.s] 29)))
        have hwl := H.out.writ.lt
        have hlt6 := H.out.kept.lt
        obtain ⟨tk, tn, s⟩ := t
        simp only at c0 c1 c2 hq
        subst hq
        go_wp2_with fail
        refine (law_put _ w.heap.size gw r _ ⟨q, tn, s⟩ H1.out.writ HQ.out HZ.out).mono ?_
        rintro e w4 ⟨rfl, r4, hw4, ht4⟩
        have H4 := Lib.hid (H1.out.turn hw4 ht4)
        have hc4 := ht4.cells (b := wr.heap.size) (by omega) (fun e => by have := hwl.2 _ e; omega) HC.out
        have d0 := hc4.cell (j := 0) rfl
        have d1 := hc4.cell (j := 1) rfl
        have d2 := hc4.cell (j := 2) rfl
        have HC4 := Lib.hid hc4
        clear hc4 ht4 hw4 c0 c1 c2
        go_wp2_with fail
        refine (put_any ⟨q, tn, s⟩ w4 HOK.out).mono ?_
        rintro e w5 ⟨rfl, hb5⟩
        have H5 := Lib.hid (H4.out.later hb5)
        have hc5 := HC4.out.later hb5
        have f0 := hc5.cell (j := 0) rfl
        have f1 := hc5.cell (j := 1) rfl
        have f2 := hc5.cell (j := 2) rfl
        clear hc5 hb5 d0 d1 d2
        rw [HPV.out]
        have HC6 : Hid (∀ j u, (cells3 ⟨q, tn, s⟩)[j]? = some u → (w5.alloc (.cells #[.int .i64 q, .int .i64 tn, .string s] 29)).cell? ((⟨w5.heap.size, 0, none⟩ : Addr).add j) = some u) := Lib.hid fun j u hu => by
          rw [addr_add, cell_of_row _ _ _ _ _ _ (heap_alloc_new w5 _)]
          simpa [cells3] using hu
        have HO6 : Hid (∀ u ∈ cells3 ⟨q, tn, s⟩, u.oneCell' = true) := Lib.hid fun u hu => by
          simp only [cells3, List.mem_cons, List.not_mem_nil, or_false] at hu
          rcases hu with rfl | rfl | rfl <;> rfl
        have H6 := Lib.hid (H5.out.later (below_alloc w5 (.cells #[.int .i64 q, .int .i64 tn, .string s] 29)))
        have hk6 : (ts.take k).length + 1 ≤ maxLen := by rw [HTL.out]; unfold maxLen; omega
        have hk7 : ((ts.take k).length + 1) * 32 ≤ 140737488355328 := by rw [HTL.out]; omega
        cases bd
        all_goals
          go_wp2_with (at_builtin
                       refine wpList_append_own_at _ rfl (.tmp 52) (.tmp 54) 22 rfl w.heap.size 29 i0 (.agg #[.int .i64 0, .int .i64 0, .string ⟨#[]⟩]) 3 32 Try.underlying22 hi hz0 hz1 hz2 rfl (by decide) u6 (ts.take k).length ((ts.take k).flatMap cells3) rfl H6.out.kept ⟨w5.heap.size, 0, none⟩ 1 1 (cells3 ⟨q, tn, s⟩) rfl rfl HC6.out HO6.out hk6 hk7 H6.out.below.size ?_
                       intro v' w7 ho7 hg7 hx7 hat7
                       clear hx7
                       have HA7 := Lib.hid (H6.out.append (ks' := ts.take k ++ [⟨q, tn, s⟩]) (by unfold Kept; rw [List.length_append, List.flatMap_append]; simpa using ho7) hg7 hat7)
                       clear ho7 hg7 hat7)
        · go_roundw
          case rel =>
            refine ⟨k + 1, r4, by omega, by go_num, by rw [HW.out, HL0.out], by rw [HBD.out, HOKN.out]; rfl, by rw [HP.out, HT.out]; exact HA7.out, ?_⟩
            intro x hx
            rw [HT.out] at hx
            rcases List.mem_append.1 hx with hx | hx
            · exact HK.out x hx
            · obtain rfl := List.mem_singleton.1 hx
              exact HRNG.out
          case measure => simp [intOf]; omega
        · go_roundw
          case rel =>
            refine ⟨k + 1, r4, by omega, by go_num, by rw [HW.out, HL0.out], by rw [HBD.out]; rfl, by rw [HP.out, HT.out]; exact HA7.out, ?_⟩
            intro x hx
            rw [HT.out] at hx
            rcases List.mem_append.1 hx with hx | hx
            · exact HK.out x hx
            · obtain rfl := List.mem_singleton.1 hx
              exact HRNG.out
          case measure => simp [intOf]; omega
    · have he : ts.take k = ts := List.take_of_length_le (by omega)
      rw [he] at H HK HWL ⊢
      clear he
      have hpw := puts_wants ts [] HK.out
      rw [hpw] at H
      clear hpw
      have HWS := Lib.hid (show (ByteArray.mk (wants ts).toArray).size ≤ 140737488355328 by have h := HWL.out; show (wants ts).toArray.size ≤ _; rw [List.size_toArray]; omega)
      cases hbd : bads ts with
      | true =>
        rw [hbd, if_pos rfl] at H
        go_wp2_with fail
        refine (bad_any _ _ _ _ _ H.out.writ).mono ?_
        rintro e w5 ⟨rfl, rfl⟩
        go_wp2_with fail
        refine (string_any _ _ _ _ _ H.out.writ).mono ?_
        rintro e w5 ⟨rfl, rfl⟩
        go_wp2_with fail
        go_returns
        exact ⟨rfl, H.out.below⟩
      | false =>
        rw [hbd, if_neg (by decide), List.nil_append] at H
        have HBM := Lib.hid fun k hk => bads_mem hbd k hk
        obtain ⟨KA, kc, rfl⟩ := H.out.kept.opened
        go_wp2_with fail
        refine (bad_any _ _ _ _ _ H.out.writ).mono ?_
        rintro e w5 ⟨rfl, rfl⟩
        go_wp2_with fail
        refine (string_any _ _ _ _ _ H.out.writ).mono ?_
        rintro e w5 ⟨rfl, rfl⟩
        rw [Option.getD_some]
        go_wp2_with fail
        refine (newReader_any wr _ HWS.out).mono ?_
        rintro e w6 ⟨rfl, hr6, hb6⟩
        have H6 := Lib.hid (H.out.later hb6)
        have HR6 := Lib.hid hr6
        have HG := Lib.hid H.out.below.size
        have HKL := Lib.hid H.out.kept.lt
        clear hr6 hb6
        generalize wr.heap.size = gr at *
        go_wp2_with fail
        go_loopw [73] (fun i wr => ∃ k, k ≤ ts.length ∧ i = .int .i64 (k : Int) ∧ Below w.heap.size w wr ∧ Kept wr w.heap.size (.slice KA ts.length kc) ts ∧ Rd wr (some gr) ⟨(wants (ts.drop k)).toArray⟩ false) (fun i _ => ts.length - (intOf i).toNat)
        case atStart => exact ⟨0, Nat.zero_le _, rfl, H6.out.below, H6.out.kept, HR6.out⟩
        case round =>
          obtain ⟨k, hk, rfl, hbq, hkq, hrq⟩ := hrel
          have HBQ := Lib.hid hbq
          have HKQ := Lib.hid hkq
          have HRQ := Lib.hid hrq
          clear hbq hkq hrq
          by_cases hlt : k < ts.length
          · obtain ⟨g, rfl, c0, c1, c2⟩ := HKQ.out.at_ hlt
            obtain ⟨l, hp⟩ := HBM.out k hlt
            have hrg := HK.out ts[k] (List.getElem_mem hlt)
            have hwd := wants_drop ts k hlt
            rw [hp, Option.getD_some] at hwd
            have HOK := Lib.hid (HS.out k hlt).1
            have HDM := Lib.hid (show (wants (ts.drop k)).length ≤ 140737488355328 by have h := wants_length (ts.drop k); rw [List.length_drop] at h; omega)
            rw [hwd] at HRQ HDM
            generalize hmd : wants (ts.drop (k + 1)) = m at *
            have HMD := Lib.hid hmd
            clear hmd
            generalize ts[k] = t at *
            obtain ⟨q, hq, hq4⟩ : ∃ q : Nat, t.k = (q : Int) ∧ q ≤ 4 := ⟨t.k.toNat, by omega, by omega⟩
            obtain ⟨z, hz⟩ := get_of_put t l q hq hq4 hp
            have HPV := Lib.hid (show putV t = .tuple #[.string ⟨l.toArray⟩, .bool true] by unfold putV; rw [hp])
            have hap : (ByteArray.mk l.toArray) ++ (ByteArray.mk m.toArray) = ByteArray.mk (l ++ m).toArray := bytes_app l ⟨m.toArray⟩
            have HGOT : Hid (got q ⟨(l ++ m).toArray⟩ false = (z, ⟨m.toArray⟩, false)) := by
              have h1 := get_more q ⟨l.toArray⟩ ⟨m.toArray⟩ z l.length hz hq4
              rw [hap] at h1
              have h2 := got_of_get q ⟨(l ++ m).toArray⟩ hq4 (by show (l ++ m).toArray.size ≤ _; rw [List.size_toArray]; exact HDM.out)
              rw [h1] at h2
              have h3 : (ByteArray.mk (l ++ m).toArray).extract l.length (ByteArray.mk (l ++ m).toArray).size = ⟨m.toArray⟩ := by
                apply ba_ext
                rw [ext_list]
                show ((l ++ m).take (l ++ m).toArray.size).drop l.length = m
                rw [List.size_toArray, List.take_of_length_le (Nat.le_refl _), List.drop_left]
              exact Lib.hid (by rw [h2.1, h3])
            have HV := Lib.hid (show getV q ⟨l.toArray⟩ = .tuple #[z.val, .int .i64 l.length] by unfold getV; rw [hz])
            have HLS := Lib.hid (show (ByteArray.mk l.toArray).size ≤ 140737488355328 by have h := HDM.out; rw [List.length_append] at h; show l.toArray.size ≤ _; rw [List.size_toArray]; omega)
            have HB2 := Lib.hid (below_alloc wr (.cells #[.int .i64 t.k, .int .i64 t.n, .string t.s] 29))
            have HC2 := Lib.hid (cells_new wr 29 (cells3 t) #[.int .i64 t.k, .int .i64 t.n, .string t.s] rfl)
            have hgr := (HRQ.out.cells gr rfl).lt
            clear hz hap hwd hp hrg
            obtain ⟨tk, tn, s⟩ := t
            obtain ⟨zk, zn, zs⟩ := z
            simp only at c0 c1 c2 hq
            subst hq
            go_wp2_with fail
            refine (law_get _ (some gr) _ false q (HRQ.out.later HB2.out) hq4).mono ?_
            rintro e w4 ⟨rfl, hr4, ho4⟩
            rw [HGOT.out] at hr4 ⊢
            unfold Th.val
            have hc4 := cells_only HC2.out ho4 (fun e => by have := Option.some.inj e; omega)
            have hlt4 := hc4.lt
            have d0 := hc4.cell (j := 0) rfl
            have d1 := hc4.cell (j := 1) rfl
            have d2 := hc4.cell (j := 2) rfl
            have HC4 := Lib.hid hc4
            have HR4 := Lib.hid hr4
            have HZ4 := Lib.hid (cells_new w4 29 [.int .i64 zk, .int .i64 zn, .string zs] #[.int .i64 zk, .int .i64 zn, .string zs] rfl)
            have hb4 := HBQ.out.trans (HB2.out.mono HBQ.out.size)
            have HB4 := Lib.hid (hb4.trans (ho4.below hb4.size fun i hi => by rw [show i = gr from Option.some.inj hi]; exact HG.out))
            have HK4 : Hid (Kept w4 w.heap.size (.slice (some ⟨g, 0, none⟩) ts.length kc) ts) := Lib.hid (row_only (row_only (S := fun _ => False) HKQ.out (Only.of_below HB2.out) fun _ _ h => h) ho4 fun i hi e => by
              have h1 := Option.some.inj e
              have h2 := HKL.out i hi
              omega)
            clear hr4 ho4 hc4 hb4 c0 c1 c2
            go_wp2_with fail
            refine (put_any ⟨q, tn, s⟩ _ HOK.out).mono ?_
            rintro e w5 ⟨rfl, hb5⟩
            rw [HPV.out]
            have hc5 := (HC4.out.later (below_alloc _ _)).later hb5
            have hz5 := HZ4.out.later hb5
            have HZ5 := Lib.hid hz5
            have e0 := hc5.cell (j := 0) rfl
            have e1 := hc5.cell (j := 1) rfl
            have e2 := hc5.cell (j := 2) rfl
            have HB45 := Lib.hid ((below_alloc w4 (.cells #[.int .i64 zk, .int .i64 zn, .string zs] 29)).trans (hb5.mono (below_alloc w4 _).size))
            clear hc5 hz5 hb5 d0 d1 d2
            go_wp2_with fail
            refine (get_any q ⟨l.toArray⟩ _ hq4 HLS.out).mono ?_
            rintro e w6 ⟨rfl, hb6⟩
            rw [HV.out]
            unfold Th.val
            have hz6 := HZ5.out.later hb6
            have hlt6 := hz6.lt
            have k0 := hz6.cell (j := 0) rfl
            have k1 := hz6.cell (j := 1) rfl
            have k2 := hz6.cell (j := 2) rfl
            have HB46 := Lib.hid ((HB45.out.trans (hb6.mono HB45.out.size)).alloc (Nat.le_trans HB45.out.size hb6.size) (.cells #[.int .i64 zk, .int .i64 zn, .string zs] 29))
            clear hz6 hb6 e0 e1 e2
            go_wp2_with fail
            go_roundw
            case rel => exact ⟨k + 1, by omega, by go_num, HB4.out.trans (HB46.out.mono HB4.out.size), row_only (S := fun _ => False) HK4.out (Only.of_below HB46.out) (fun _ _ h => h), by rw [HMD.out]; exact HR4.out.later HB46.out⟩
            case measure => simp [intOf]; omega
          · have he : ts.drop k = [] := List.drop_of_length_le (by omega)
            rw [he] at HRQ
            have HRN : Hid (Rd wr (some gr) nil false) := HRQ
            have HE := Lib.hid (show endV nil false = 0 from rfl)
            go_wp2_with fail
            refine (end_any _ (some gr) nil false HRN.out).mono ?_
            rintro e w7 ⟨rfl, rfl⟩
            rw [HE.out]
            go_wp2_with fail
            refine (left_any _ (some gr) nil false HRN.out).mono ?_
            rintro e w7 ⟨rfl, rfl⟩
            go_wp2_with fail
            go_returns
            exact ⟨rfl, HBQ.out⟩

theorem opened {H : Type} {enc : TypeId × Value → H} {W : World} {base : Nat} {gs : List (DataW H)} (v0 : Value) (d0 : DataW H) (p0 : List MemPlace)
    (o0 : Value.okWide Try.prog W .any base 22 v0) (t0 : DataW.Trod enc Try.prog W 0 (fun _ => true) true 22 v0 d0 p0)
    (hsz : (DataW.weightsEach Try.prog ([22] ++ []) ([d0] ++ gs)).all (· ≤ reachBytes) = true) :
    Calls Try.prog 3 #[v0] W fun e W' => e = .returned (.bool true) ∧ Below W.heap.size W W' := by
  obtain ⟨A, ts, c, rfl, hs, hm, _⟩ := open_things o0 t0 (Base.small_of hsz (j := 0) rfl rfl)
  by_cases h : 100 < ts.length ∨ 200000 < (ts.map (·.s.size)).sum
  · exact walk_long A ts c W hs hm h
  · exact walk A ts c W hs (by omega) (by omega)

theorem contract (H : Type) (enc : TypeId × Value → H) (W : World) (base : Nat) (args : Array Value) (ds gs : List (DataW H)) (before : List MemPlace)
    (hval : ∀ (j : Nat) t v, Try.f3.params[j]? = some t → args[j]? = some v → Value.okWide Try.prog W .any base t v)
    (hW : DataW.Whole enc Try.prog Try.f3.params.toList Rows.wirePutsSpec.vars false W args.toList ds gs before)
    (hsz : (DataW.weightsEach Try.prog (Try.f3.params.toList ++ []) (ds ++ gs)).all (· ≤ reachBytes) = true) :
    Calls Try.prog 3 args W fun e W' => ∃ v, e = .returned v ∧ Rows.wirePutsSpec.post enc Try.prog Try.f3 false true false false W args v W' := by
  have hW0 := hW
  obtain ⟨p, q, hA0, hV, rfl, _, _⟩ := hW
  have hA : DataW.TrodAll enc Try.prog W 0 (fun _ => true) true Try.f3.params.toList args.toList ds p := hA0
  rw [Try.params3] at hA hval hsz
  obtain ⟨v0, vs0, d0, ds0, p0, q0, hargs, rfl, rfl, h0, r0⟩ := trodAll_cons hA
  obtain ⟨rfl, rfl, rfl⟩ := trodAll_nil r0
  obtain rfl : args = #[v0] := by cases args; simp_all
  refine (opened v0 d0 p0 (hval 0 22 v0 rfl rfl) h0 hsz).mono fun e W' ⟨he, hb⟩ => ⟨_, he, ?_⟩
  exact Base.law_post (tb := 4) Base.laidOut (by kernel_rfl) rfl Try.underlying4 rfl (fun l hl => by
    rw [Try.params3] at hl
    match l, hl with
    | [_], _ => rfl) (by rw [Try.params3]; rfl) hW0 hb

theorem laid_met (os : Os) : laidMet Try.prog Rows.wirePutsRow.laid ((Base.plainWorld os).forCall (fun _ _ => 0) ⟨#[], #[.slice none 0 0], []⟩).memory := laidMet_nil _ _
theorem reads (os : Os) {H : Type} (enc : TypeId × Value → H) : ∃ places, DataW.whole enc Try.prog ((Base.plainWorld os).forCall (fun _ _ => 0) ⟨#[], #[.slice none 0 0], []⟩).memory Try.f3.params.toList Rows.wirePutsSpec.vars false (#[.slice none 0 0] : Array Value).toList 8 = some ([.nil], [], places) :=
  ⟨[], by kernel_rfl⟩

set_option maxRecDepth 100000 in
theorem lifted (os : Os) (started : os.Started) (H : Type) (enc : TypeId × Value → H) (F : Stop.Interp) :
    ReturnsInHanded {} Try.checked os 3 .any ((OpenSpec.ofChange Rows.wirePutsSpec).preRow enc Try.prog Try.f3 Rows.wirePutsRow.domain false Rows.wirePutsRow.laid) (((OpenSpec.ofChange Rows.wirePutsSpec).at F).post enc Try.prog Try.f3 false true false false) := by
  obtain ⟨places, hx⟩ := reads os enc
  refine returnsInHanded_of_row (C := Try.checked) (s := OpenSpec.ofChange Rows.wirePutsSpec) Base.own started (by kernel_rfl) Try.func3
    (witness_row_at (enc := enc) (C := Try.checked) false (Base.plainWorld os) #[.slice none 0 0] rfl (by kernel_rfl) (by kernel_rfl) (by kernel_rfl)
      (OpenSpec.preRow_of_cond 8 hx (by kernel_rfl) (fun k hk => by cases hk) (by kernel_rfl) (laid_met os))) ?_
  intro W base args ds gs before hval hW _ _ hsz _ _ _
  exact contract H enc W base args ds gs before hval hW hsz

theorem said : Rows.WirePutsSaid :=
  OpenClaim.holds_of_cond 3 Try.f3 rfl rfl rfl rfl rfl rfl rfl ⟨rfl, rfl, rfl, rfl, rfl⟩ rfl rfl rfl rfl rfl (by kernel_rfl) Try.func3 (by kernel_rfl)
    (of_decide_eq_true (by kernel_rfl)) (by unfold Func.isWrapper; rw [if_neg (of_decide_eq_false (by kernel_rfl))]; exact ⟨rfl, rfl⟩)
    (fun os started H enc _ F => by rw [OpenClaim.pre_eq_preRow]; exact lifted os started H enc F)
#print axioms said
end Go.Proofs.Ytbjjkbaigpophaa.WirePuts
