/-
  CrcJoins is proved: the sum of some texts, and then of others behind them, is the sum of all, however they are cut. Conditions: the table of half bytes holds what its initialiser lays (tied to the program's text).
-/
import Derived.Test.YtnjamnokflfooaaDoorCrcLaws
import Derived.Test.YtnjamnokflfooaaDoorCards
import Derived.Test.YtnjamnokflfooaaDoorTie
import Derived.Maps.AppendAt
import Derived.Test.YtnjamnokflfooaaDoorReg
namespace Go.Proofs.YtnjamnokflfooaaDoor.CrcJoins
open Go.ChangeShapes Go.WideShapes Go.ChangeAt Go.RowKit
open Go.Proofs.YtnjamnokflfooaaDoor.Crc

theorem infoString : (Tryd.prog.info? 9).map (fun i => (i.zero, i.size, i.bytes)) = some (some (.string ⟨#[]⟩), 1, 16) := by kernel_rfl

/-- A row of the call's own that holds these texts. -/
def Txt (w : World) (base : Nat) (v : Value) (ss : List ByteArray) : Prop := w.ownsRow base 9 1 v ss.length (ss.map Value.string)
theorem Txt.opened {w : World} {base : Nat} {v : Value} {ss : List ByteArray} (h : Txt w base v ss) (hz : ∀ s ∈ ss, s.size ≤ 140737488355328) : ∃ A cap, v = .slice A ss.length cap ∧ Strs w A ss := by
  obtain ⟨_, h⟩ := h
  rcases h with ⟨rfl, hl⟩ | ⟨g, cap, cur, rfl, _, hh, _, _, _, htake⟩
  · have : ss = [] := List.eq_nil_of_length_eq_zero hl
    subst this
    exact ⟨none, 0, rfl, strs_nil _ _⟩
  · refine ⟨some ⟨g, 0, none⟩, cap, rfl, fun k hk => ⟨_, rfl, ?_, hz _ (List.getElem_mem hk)⟩⟩
    have e : (⟨g, 0, none⟩ : Addr).add k = ⟨g, k, none⟩ := by
      unfold Addr.add
      by_cases h0 : k = 0
      · subst h0; rfl
      · rw [if_neg h0, Nat.zero_add]
    rw [e, cell_of_row _ _ _ _ _ _ hh]
    have h1 : (cur.toList.take (ss.length * 1))[k]? = some (.string ss[k]) := by rw [htake]; simp [hk]
    rw [List.getElem?_take] at h1
    split at h1
    · simpa using h1
    · cases h1
theorem Txt.own_ge {w : World} {base : Nat} {v : Value} {ss : List ByteArray} (h : Txt w base v ss) : ∀ k, v.ownBlock = some k → base ≤ k := by
  intro k hk
  obtain ⟨_, h⟩ := h
  rcases h with ⟨rfl, _⟩ | ⟨g, cap, cur, rfl, hg, _⟩
  · simp [Value.ownBlock] at hk
  · simp only [Value.ownBlock, Option.some.injEq] at hk
    omega

/-- An empty block of texts. -/
def New (w : World) (g : Nat) : Prop := w.heap[g]? = some (.cells #[] 9 (0, 0))
theorem new_at {w : World} {g : Nat} (h : g = w.heap.size) : New (w.alloc (.cells #[] 9)) g := by subst h; exact heap_alloc_new w _
theorem new_alloc {w : World} {g : Nat} (h : New w g) (o : Obj) : New (w.alloc o) g := by
  refine (heap_alloc_old w o ?_).trans h
  rcases Nat.lt_or_ge g w.heap.size with hlt | hge
  · exact hlt
  · unfold New at h; rw [Array.getElem?_eq_none hge] at h; cases h
theorem new_drew {w : World} {g : Nat} (h : New w g) : New w.drew g := h
theorem New.txt {w : World} {g base : Nat} (h : New w g) (hb : base ≤ g) : Txt w base (.slice (some ⟨g, 0, none⟩) 0 0) [] :=
  ⟨by simp, Or.inr ⟨g, 0, #[], rfl, hb, h, Nat.le_refl _, by decide, rfl, rfl⟩⟩

/-- What append makes of a row of the call's own and of a slice of texts. -/
theorem run_append (w : World) (ty : TypeId) (base : Nat) (v : Value) (us bs : List ByteArray) (A : Option Addr) (c : Nat) (hown : Txt w base v us) (hr : Strs w A bs)
    (hn : (us.length + bs.length) * 16 ≤ 140737488355328) (hbase : base ≤ w.heap.size) (hA : bs = [] → A = none → c = 0) :
    ∃ v' w', (Builtin.append_ #[22, 22] ty #[v, .slice A bs.length c]).run Tryd.prog w = .ok v' w' ∧ Txt w' base v' (us ++ bs) ∧ Below base w w' ∧ w.grownBy w' v.ownBlock := by
  obtain ⟨i0, hi, hz0, hz1, hz2⟩ := info_parts infoString
  have hm : us.length + bs.length ≤ maxLen := by unfold maxLen; omega
  match A, hr, hA with
  | none, hr, hA =>
    have hb : bs = [] := by
      match bs, hr with
      | [], _ => rfl
      | b :: r, hr => obtain ⟨ad, h, _⟩ := hr 0 (by simp); cases h
    subst hb
    obtain rfl := hA rfl rfl
    refine ⟨v, w, ?_, by simpa using hown, Below.refl _ _, World.grownBy.refl w _⟩
    exact run_append_owned_none (P := Tryd.prog) (w := w) base 22 ty 9 i0 1 Tryd.underlying22 hi v us.length (us.map Value.string) hown
  | some ad, hr, _ =>
    obtain ⟨v', w', h1, h2, h3, _, h5⟩ := run_append_own_at (P := Tryd.prog) w base 22 ty 9 i0 _ 1 16 Tryd.underlying22 hi hz0 hz1 hz2 rfl (by omega) v us.length (us.map Value.string) hown
      ad bs.length c (bs.map Value.string) (by simp) (fun j u hu => by
        have hj : j < bs.length := by
          have := (List.getElem?_eq_some_iff.1 hu).1
          simpa using this
        obtain ⟨ad', e, hc, _⟩ := hr j hj
        injection e with e
        subst e
        rw [hc, ← hu]
        simp [hj]) (fun u hu => by
        obtain ⟨s, _, rfl⟩ := List.mem_map.1 hu
        rfl) hm hn hbase
    refine ⟨v', w', h1, ?_, (Below.refl _ _).grown h3 hbase hown.own_ge, h3⟩
    unfold Txt
    rw [List.length_append, List.map_append]
    exact h2

theorem wp_append {w : World} {o : Oper} {a : Act} {K : Act → World → Prop} {Q : Exit → Act → World → Prop} (s x : Operand)
    (ho : o.op = .call { callee := .builtin .append, args := #[s, x], argTypes := #[22, 22] })
    (base : Nat) (v : Value) (us bs : List ByteArray) (A : Option Addr) (c : Nat) (hs : a.eval s = v) (hown : Txt w base v us) (hx : a.eval x = .slice A bs.length c) (hr : Strs w A bs)
    (hn : (us.length + bs.length) * 16 ≤ 140737488355328) (hbase : base ≤ w.heap.size) (hA : bs = [] → A = none → c = 0)
    (h : ∀ v' w', Txt w' base v' (us ++ bs) → Below base w w' → w.grownBy w' v.ownBlock → K (a.put o.dst v') w') : o.wp Tryd.prog a w K Q := by
  obtain ⟨v', w', hrun, h2, h3, h4⟩ := run_append w o.type base v us bs A c hown hr hn hbase hA
  unfold Oper.wp execOp
  simp only [ho, resolve, invoke, builtin, Sem.run_bind, Sem.run_pure, Result.andThen_ok, List.map_toArray, List.map_cons, List.map_nil, hs, hx, hrun]
  exact h v' w' h2 h3 h4

theorem wpList_append {w : World} {ops : Array Oper} {rest : List Oper} {o : Oper} {a : Act} {Q : Exit → Act → World → Prop} (hgd : o.guard = none) (s x : Operand)
    (ho : o.op = .call { callee := .builtin .append, args := #[s, x], argTypes := #[22, 22] })
    (base : Nat) (v : Value) (us bs : List ByteArray) (A : Option Addr) (c : Nat) (hs : a.eval s = v) (hown : Txt w base v us) (hx : a.eval x = .slice A bs.length c) (hr : Strs w A bs)
    (hn : (us.length + bs.length) * 16 ≤ 140737488355328) (hbase : base ≤ w.heap.size) (hA : bs = [] → A = none → c = 0)
    (h : ∀ v' w', Txt w' base v' (us ++ bs) → Below base w w' → wpList Tryd.prog ops Q rest (a.put o.dst v') w') : wpList Tryd.prog ops Q (o :: rest) a w :=
  wpList_plain hgd fun _ hK => wp_append s x ho base v us bs A c hs hown hx hr hn hbase hA fun v' w' h2 h3 _ => hK _ _ (h v' w' h2 h3)

/-- WHAT IS GOOD OF EACH VALUE OF THE LAST STATEMENT (its operations in the text's order). -/
def good (A B : Option Addr) (ss ts : List ByteArray) (c d n base : Nat) (X Y : BitVec 32) : Nat → Value → World → Prop
  | 0, v, _ => v = .slice A ss.length c
  | 1, v, _ => v = .int .u32 (Y.toNat : Int)
  | 2, v, _ => v = .slice B ts.length d
  | 3, v, _ => v = .int .u32 (X.toNat : Int)
  | 4, v, _ => v = .int .u32 (X.toNat : Int)
  | 5, v, _ => v = .bool true
  | 6, v, _ => v = .bool true
  | 7, v, w => ∃ g, v = .slice (some ⟨g, 0, none⟩) 0 0 ∧ base ≤ g ∧ New w g
  | 8, v, _ => v = .slice A ss.length c
  | 9, v, w => Txt w base v ss
  | 10, v, _ => v = .string ⟨(cat ts).toArray⟩
  | 11, v, _ => v = .int .i64 (n : Int)
  | 12, v, _ => v = .string ⟨((cat ts).take n).toArray⟩
  | 13, v, _ => v = .string ⟨(cat ts).toArray⟩
  | 14, v, _ => v = .int .i64 (n : Int)
  | 15, v, _ => v = .string ⟨((cat ts).drop n).toArray⟩
  | 16, v, w => ∃ g, v = .slice (some ⟨g, 0, none⟩) 2 2 ∧ w.heap[g]? = some (.cells #[.string ⟨((cat ts).take n).toArray⟩, .string ⟨((cat ts).drop n).toArray⟩] 9 (0, 0))
  | 17, v, w => Txt w base v (ss ++ [⟨((cat ts).take n).toArray⟩, ⟨((cat ts).drop n).toArray⟩])
  | 18, v, _ => v = .int .u32 (X.toNat : Int)
  | 19, v, _ => v = .int .u32 (X.toNat : Int)
  | _, v, _ => v = .bool true

theorem good_later {A B : Option Addr} {ss ts : List ByteArray} {c d n base : Nat} {X Y : BitVec 32} {j : Nat} {v : Value} {w w' : World} (hb : Below w.heap.size w w') (h : good A B ss ts c d n base X Y j v w) : good A B ss ts c d n base X Y j v w' := by
  have hblock : ∀ g o, w.heap[g]? = some o → w'.heap[g]? = some o := fun g o hg => by
    rcases Nat.lt_or_ge g w.heap.size with hlt | hge
    · exact (hb.block g hlt).trans hg
    · rw [Array.getElem?_eq_none hge] at hg; cases hg
  have htxt : ∀ u us, Txt w base u us → Txt w' base u us := fun u us ht => by
    obtain ⟨h1, h2⟩ := ht
    refine ⟨h1, ?_⟩
    rcases h2 with h2 | ⟨g, cap, cur, e, hg, hh, r⟩
    · exact Or.inl h2
    · exact Or.inr ⟨g, cap, cur, e, hg, hblock g _ hh, r⟩
  match j, h with
  | 0, h | 1, h | 2, h | 3, h | 4, h | 5, h | 6, h | 8, h | 10, h | 11, h | 12, h | 13, h | 14, h | 15, h | 18, h | 19, h => exact h
  | 7, h => obtain ⟨g, e, hg, hn⟩ := h; exact ⟨g, e, hg, hblock g _ hn⟩
  | 9, h => exact htxt _ _ h
  | 16, h => obtain ⟨g, e, hg⟩ := h; exact ⟨g, e, hblock g _ hg⟩
  | 17, h => exact htxt _ _ h
  | _ + 20, h => exact h

theorem good_plain {A B : Option Addr} {ss ts : List ByteArray} {c d n base : Nat} {X Y : BitVec 32} {j : Nat} {v : Value} {w w' : World} (h7 : j ≠ 7) (h16 : j ≠ 16) (h9 : j ≠ 9) (h17 : j ≠ 17) (h : good A B ss ts c d n base X Y j v w) : good A B ss ts c d n base X Y j v w' := by
  match j, h with
  | 0, h | 1, h | 2, h | 3, h | 4, h | 5, h | 6, h | 8, h | 10, h | 11, h | 12, h | 13, h | 14, h | 15, h | 18, h | 19, h => exact h
  | 7, _ => exact absurd rfl h7
  | 9, _ => exact absurd rfl h9
  | 16, _ => exact absurd rfl h16
  | 17, _ => exact absurd rfl h17
  | _ + 20, h => exact h
theorem exec_append {ρ : Operand → Value} {o : Oper} {s x : Operand} {w w' : World} {v' : Value} (ho : o.op = .call { callee := .builtin .append, args := #[s, x], argTypes := #[22, 22] })
    (hrun : (Builtin.append_ #[22, 22] o.type #[ρ s, ρ x]).run Tryd.prog w = .ok v' w') : (execOp ρ o).run Tryd.prog w = .ok (.value v') w' := by
  unfold execOp
  simp only [ho, resolve, invoke, builtin, Sem.run_bind, Sem.run_pure, Result.andThen_ok, List.map_toArray, List.map_cons, List.map_nil, hrun]
theorem ext_take (l : List UInt8) (n : Nat) : ({ data := l.toArray } : ByteArray).extract 0 n = { data := (l.take n).toArray } := by
  apply ByteArray.ext
  rw [ByteArray.data_extract]
  simp
theorem ext_drop (l : List UInt8) (n : Nat) : ({ data := l.toArray } : ByteArray).extract n l.length = { data := (l.drop n).toArray } := by
  apply ByteArray.ext
  rw [ByteArray.data_extract]
  simp
  rw [List.take_of_length_le (by simp)]
theorem strs_of_block {w : World} {k : Nat} {p q : ByteArray} (h : w.heap[k]? = some (.cells #[.string p, .string q] 9 (0, 0))) (hz : p.size ≤ 140737488355328 ∧ q.size ≤ 140737488355328) : Strs w (some ⟨k, 0, none⟩) [p, q] := by
  intro i hi
  refine ⟨_, rfl, ?_, ?_⟩
  · have e : (⟨k, 0, none⟩ : Addr).add i = ⟨k, i, none⟩ := by
      unfold Addr.add
      by_cases h0 : i = 0
      · subst h0; rfl
      · rw [if_neg h0, Nat.zero_add]
    rw [e, cell_of_row _ _ _ _ _ _ h]
    match i, hi with
    | 0, _ => rfl
    | 1, _ => rfl
  · match i, hi with
    | 0, _ => exact hz.1
    | 1, _ => exact hz.2

theorem size_of_cat {ss : List ByteArray} {n : Nat} (h : (cat ss).length ≤ n) : ∀ s ∈ ss, s.size ≤ n := by
  intro s hs
  obtain ⟨k, hk, rfl⟩ := List.getElem_of_mem hs
  have h1 := cat_take_le ss (k + 1)
  have e : ss[k].data.toList.length = ss[k].size := Array.length_toList
  rw [cat_take ss k hk, List.length_append, e] at h1
  omega

set_option maxHeartbeats 4000000 in
theorem walk_short (A B : Option Addr) (ss ts : List ByteArray) (c d n : Nat) (m : Int) (b1 b2 : Bool) (w : World) (hT : Tab w) (hs : Strs w A ss) (ht : Strs w B ts) (hl : (cat ss).length ≤ 3000) (hn : ss.length ≤ 60) (hl2 : (cat ts).length ≤ 3000) (hn2 : ts.length ≤ 60)
    (hle : n ≤ (cat ts).length) (hA : A = none → c = 0) (hB : B = none → d = 0) (hd1 : decide (m < 0) = b1) (hd2 : decide (((cat ts).length : Int) < m) = b2) (he : (if (b1 || b2) = true then Value.int .i64 0 else .int .i64 m) = .int .i64 (n : Int)) :
    Calls Tryd.prog 6 #[.slice A ss.length c, .slice B ts.length d, .int .i64 m] w fun e w' => e = .returned (.bool true) ∧ Below w.heap.size w w' := by
  have HE := Lib.hid he
  clear he
  cases b1 <;> cases b2
  all_goals
    go_enter Tryd.func6, Tryd.ntmps6
    go_wp2_with fail
    refine (awake_any _ hT).mono ?_
    rintro e w1 ⟨rfl, hb⟩
    have hs1 := hs.later hb
    have ht1 := ht.later hb
    have hT1 := hT.later hb
    go_wp2_with fail
    refine (long_no A ss c w1 hs1 hl hn).mono ?_
    rintro e w2 ⟨rfl, rfl⟩
    go_wp2_with fail
    refine (long_no B ts d w1 ht1 hl2 hn2).mono ?_
    rintro e w2 ⟨rfl, rfl⟩
    go_wp2_with fail
    refine (joined_any B ts d w1 ht1 hl2 hn2).mono ?_
    rintro e w2 ⟨rfl, rfl⟩
    have hown0 : Txt (w1.alloc (.cells #[] 9)) w.heap.size (.slice (some ⟨w1.heap.size, 0, none⟩) 0 0) [] := (new_at rfl).txt hb.size
    have hba : Below w1.heap.size w1 (w1.alloc (.cells #[] 9)) := (Below.refl _ _).alloc (Nat.le_refl _) _
    have hbw : Below w.heap.size w (w1.alloc (.cells #[] 9)) := hb.alloc hb.size _
    have hsa := hs1.later hba
    have hta := ht1.later hba
    have hk1 : (([] : List ByteArray).length + ss.length) * 16 ≤ 140737488355328 := by simp; omega
    have hk2 : (ss.length + ts.length) * 16 ≤ 140737488355328 := by omega
    have hbs := hbw.size
    go_wp2_with (first
      | (at_builtin; refine wpList_append rfl (.tmp 27) (.tmp 28) rfl w.heap.size _ [] ss A c rfl hown0 rfl hsa hk1 hbs (fun _ => hA) ?_; intro v1 w2 hx1 hb2; have hb3 := hbw.trans hb2)
      | (at_builtin; refine wpList_append rfl (.tmp 29) (.tmp 30) rfl w.heap.size v1 ss ts B d rfl hx1 rfl (ht.later hb3) hk2 hb3.size (fun _ => hB) ?_; intro v2 w3 hx2 hb4; have hb5 := hb3.trans hb4))
    obtain ⟨A3, c3, rfl, hs3⟩ := hx2.opened (by
      intro s hm
      rcases List.mem_append.1 hm with hm | hm
      · exact Nat.le_trans (size_of_cat hl s hm) (by decide)
      · exact Nat.le_trans (size_of_cat hl2 s hm) (by decide))
    refine (sum_any A3 (ss ++ ts) c3 w3 hs3 (by rw [List.length_append]; unfold maxLen; omega) (hT.later hb5)).mono ?_
    rintro e w4 ⟨rfl, rfl⟩
    rw [cat_append, more_append]
    clear hown0 hba hbw hsa hta hbs hx1 hx2 hb2 hb3 hb4 hs3 hs1 ht1 hT1 hb
    have hcut : cat ts = cat [⟨((cat ts).take n).toArray⟩, ⟨((cat ts).drop n).toArray⟩] := by
      unfold cat; simp
    have k1 : ∀ W, Strs W A ss → Tab W → Calls Tryd.prog 9 #[.slice A ss.length c] W fun e w' => e = .returned (.int .u32 ((more 0#32 (cat ss)).toNat : Int)) ∧ W = w' :=
      fun W h1 h2 => sum_any A ss c W h1 (by unfold maxLen; omega) h2
    have k2 : ∀ W, Strs W B ts → Tab W → Calls Tryd.prog 12 #[.int .u32 ((more 0#32 (cat ss)).toNat : Int), .slice B ts.length d] W fun e w' => e = .returned (.int .u32 ((more (more 0#32 (cat ss)) (cat ts)).toNat : Int)) ∧ W = w' :=
      fun W h1 h2 => more_any _ B ts d W h1 (by unfold maxLen; omega) h2
    have k3 : ∀ W A' c', Strs W A' (ss ++ [⟨((cat ts).take n).toArray⟩, ⟨((cat ts).drop n).toArray⟩]) → Tab W → Calls Tryd.prog 9 #[.slice A' (ss.length + 2) c'] W fun e w' => e = .returned (.int .u32 ((more (more 0#32 (cat ss)) (cat ts)).toNat : Int)) ∧ W = w' := by
      intro W A' c' h1 h2
      have h := sum_any A' _ c' W h1 (by rw [List.length_append]; unfold maxLen; simp; omega) h2
      rw [cat_append, ← hcut, more_append, List.length_append] at h
      exact h
    generalize more (more 0#32 (cat ss)) (cat ts) = X at k2 k3 ⊢
    generalize more 0#32 (cat ss) = Y at k1 k2 ⊢
    have K1 := Lib.hid k1
    have K2 := Lib.hid k2
    have K3 := Lib.hid k3
    have HS := Lib.hid hs
    have HT := Lib.hid ht
    have HTT := Lib.hid hT
    have HA := Lib.hid hA
    have HK := Lib.hid hk1
    have hpq : ByteArray.size ⟨((cat ts).take n).toArray⟩ ≤ 140737488355328 ∧ ByteArray.size ⟨((cat ts).drop n).toArray⟩ ≤ 140737488355328 := by
      constructor
      · show ((cat ts).take n).toArray.size ≤ _
        rw [List.size_toArray, List.length_take]; omega
      · show ((cat ts).drop n).toArray.size ≤ _
        rw [List.size_toArray, List.length_drop]; omega
    have HP := Lib.hid hpq
    have HQ : Hid (∀ s ∈ ss ++ [⟨((cat ts).take n).toArray⟩, ⟨((cat ts).drop n).toArray⟩], s.size ≤ 140737488355328) := Lib.hid (by
      intro s hm
      rcases List.mem_append.1 hm with hm | hm
      · exact Nat.le_trans (size_of_cat hl s hm) (by decide)
      · simp only [List.mem_cons, List.not_mem_nil, or_false] at hm
        rcases hm with rfl | rfl
        · exact hpq.1
        · exact hpq.2)
    clear k1 k2 k3 hcut hs ht hT hA hB hl hl2 hn2 hd1 hd2 hk1 hk2 hpq
    go_wp2_with fail
    refine Reg.region (by kernel_rfl) [22] (good A B ss ts c d n w.heap.size X Y) (Below w.heap.size) (by kernel_rfl) (by kernel_rfl) (Below.refl _) (fun _ _ _ h k => h.trans k) ?_ ?_
    · intro i o ho
      have hi : i < 23 := (Array.getElem?_eq_some_iff.1 ho).1
      rcases i with _ | _ | _ | _ | _ | _ | _ | _ | _ | _ | _ | _ | _ | _ | _ | _ | _ | _ | _ | _ | _ | _ | _ | i
      · obtain rfl := Option.some.inj ho
        intro ρ wi hE hL hs hd
        have e0 : ρ (.tmp 0) = .slice A ss.length c := hs 0 (by kernel_rfl)
        exact Reg.Gives.value (v := .slice A ss.length c) (w' := wi) (by go_simp) (Reg.Res.same (Below.refl _) rfl)
      · obtain rfl := Option.some.inj ho
        intro ρ wi hE hL hs hd
        obtain ⟨u33, g33, e33⟩ := hd 0 33 (by kernel_rfl) (by kernel_rfl) (by show _ < 55; decide)
        obtain rfl : u33 = .slice A ss.length c := g33
        have hf := hE.func
        refine Reg.Gives.call (f := 9) (args := #[.slice A ss.length c]) (w' := wi) (by go_simp) ?_
        refine (K1.out wi (HS.out.later (hb5.drew.trans hL)) (HTT.out.later (hb5.drew.trans hL))).mono ?_
        rintro e w'' ⟨rfl, rfl⟩
        exact ⟨_, rfl, Reg.Res.same (Below.refl _) rfl⟩
      · obtain rfl := Option.some.inj ho
        intro ρ wi hE hL hs hd
        have e1 : ρ (.tmp 1) = .slice B ts.length d := hs 1 (by kernel_rfl)
        exact Reg.Gives.value (v := .slice B ts.length d) (w' := wi) (by go_simp) (Reg.Res.same (Below.refl _) rfl)
      · obtain rfl := Option.some.inj ho
        intro ρ wi hE hL hs hd
        obtain ⟨u34, g34, e34⟩ := hd 1 34 (by kernel_rfl) (by kernel_rfl) (by show _ < 55; decide)
        obtain rfl : u34 = .int .u32 (Y.toNat : Int) := g34
        obtain ⟨u35, g35, e35⟩ := hd 2 35 (by kernel_rfl) (by kernel_rfl) (by show _ < 55; decide)
        obtain rfl : u35 = .slice B ts.length d := g35
        have hf := hE.func
        refine Reg.Gives.call (f := 12) (args := #[.int .u32 (Y.toNat : Int), .slice B ts.length d]) (w' := wi) (by go_simp) ?_
        refine (K2.out wi (HT.out.later (hb5.drew.trans hL)) (HTT.out.later (hb5.drew.trans hL))).mono ?_
        rintro e w'' ⟨rfl, rfl⟩
        exact ⟨_, rfl, Reg.Res.same (Below.refl _) rfl⟩
      · obtain rfl := Option.some.inj ho
        intro ρ wi hE hL hs hd
        have e8 : ρ (.tmp 8) = .int .u32 (X.toNat : Int) := hs 8 (by kernel_rfl)
        exact Reg.Gives.value (v := .int .u32 (X.toNat : Int)) (w' := wi) (by go_simp) (Reg.Res.same (Below.refl _) rfl)
      · obtain rfl := Option.some.inj ho
        intro ρ wi hE hL hs hd
        obtain ⟨u36, g36, e36⟩ := hd 3 36 (by kernel_rfl) (by kernel_rfl) (by show _ < 55; decide)
        obtain rfl : u36 = .int .u32 (X.toNat : Int) := g36
        obtain ⟨u37, g37, e37⟩ := hd 4 37 (by kernel_rfl) (by kernel_rfl) (by show _ < 55; decide)
        obtain rfl : u37 = .int .u32 (X.toNat : Int) := g37
        exact Reg.Gives.value (v := .bool true) (w' := wi) (by go_simp) (Reg.Res.same (Below.refl _) rfl)
      · obtain rfl := Option.some.inj ho
        intro ρ wi hE hL hs hd
        obtain ⟨u38, g38, e38⟩ := hd 5 38 (by kernel_rfl) (by kernel_rfl) (by show _ < 55; decide)
        obtain rfl : u38 = .bool true := g38
        exact Reg.Gives.value (v := .bool true) (w' := wi) (by go_simp) (Reg.Res.same (Below.refl _) rfl)
      · obtain rfl := Option.some.inj ho
        intro ρ wi hE hL hs hd
        intro ug hgg
        obtain rfl : ug = .bool true := hgg
        refine ⟨fun _ => ?_, fun h => absurd rfl h⟩
        have hsz := (hb5.drew.trans hL).size
        have hal : Below wi.heap.size wi (wi.alloc (.cells #[] 9)) := (Below.refl _ _).alloc (Nat.le_refl _) _
        exact Reg.Gives.value (v := .slice (some ⟨wi.heap.size, 0, none⟩) 0 0) (w' := wi.alloc (.cells #[] 9)) (by go_simp) ⟨⟨_, rfl, hsz, new_at rfl⟩, hal.mono hsz, fun j u _ _ h => good_later hal h⟩
      · obtain rfl := Option.some.inj ho
        intro ρ wi hE hL hs hd
        have e0 : ρ (.tmp 0) = .slice A ss.length c := hs 0 (by kernel_rfl)
        intro ug hgg
        obtain rfl : ug = .bool true := hgg
        refine ⟨fun _ => ?_, fun h => absurd rfl h⟩
        exact Reg.Gives.value (v := .slice A ss.length c) (w' := wi) (by go_simp) (Reg.Res.same (Below.refl _) rfl)
      · obtain rfl := Option.some.inj ho
        intro ρ wi hE hL hs hd
        obtain ⟨u40, g40, e40⟩ := hd 7 40 (by kernel_rfl) (by kernel_rfl) (by show _ < 55; decide)
        obtain ⟨u41, g41, e41⟩ := hd 8 41 (by kernel_rfl) (by kernel_rfl) (by show _ < 55; decide)
        obtain rfl : u41 = .slice A ss.length c := g41
        intro ug hgg
        obtain rfl : ug = .bool true := hgg
        refine ⟨fun _ => ?_, fun h => absurd rfl h⟩
        obtain ⟨g, rfl, hg1, hg2⟩ := g40
        obtain ⟨v', w', hrun, h2, h3, h4⟩ := run_append wi 22 w.heap.size _ [] ss A c (hg2.txt hg1) (HS.out.later (hb5.drew.trans hL)) HK.out (hb5.drew.trans hL).size (fun _ => HA.out)
        refine Reg.Gives.value (v := v') (w' := w') (exec_append rfl (by rw [e40, e41]; exact hrun)) ⟨h2, h3, fun j u _ hal h => ?_⟩
        by_cases h16 : j = 16
        · subst h16
          obtain ⟨k, rfl, hk⟩ := h
          refine ⟨k, rfl, (h4.block k ?_ ?_).trans hk⟩
          · rcases Nat.lt_or_ge k wi.heap.size with hlt | hge
            · exact hlt
            · rw [Array.getElem?_eq_none hge] at hk; cases hk
          · intro e
            have e' : k = g := by simpa [Value.ownBlock] using e
            subst e'
            rw [hg2] at hk
            simp at hk
        · refine good_plain ?_ h16 ?_ ?_ h
          · rintro rfl; exact absurd (hal.symm.trans (by kernel_rfl) : true = false) (by decide)
          · rintro rfl; exact absurd (hal.symm.trans (by kernel_rfl) : true = false) (by decide)
          · rintro rfl; exact absurd (hal.symm.trans (by kernel_rfl) : true = false) (by decide)
      · obtain rfl := Option.some.inj ho
        intro ρ wi hE hL hs hd
        have e7 : ρ (.tmp 7) = .string ⟨(cat ts).toArray⟩ := hs 7 (by kernel_rfl)
        intro ug hgg
        obtain rfl : ug = .bool true := hgg
        refine ⟨fun _ => ?_, fun h => absurd rfl h⟩
        exact Reg.Gives.value (v := .string ⟨(cat ts).toArray⟩) (w' := wi) (by go_simp) (Reg.Res.same (Below.refl _) rfl)
      · obtain rfl := Option.some.inj ho
        intro ρ wi hE hL hs hd
        have e2 : ρ (.tmp 2) = .int .i64 (n : Int) := (hs 2 (by kernel_rfl)).trans HE.out
        intro ug hgg
        obtain rfl : ug = .bool true := hgg
        refine ⟨fun _ => ?_, fun h => absurd rfl h⟩
        exact Reg.Gives.value (v := .int .i64 (n : Int)) (w' := wi) (by go_simp) (Reg.Res.same (Below.refl _) rfl)
      · obtain rfl := Option.some.inj ho
        intro ρ wi hE hL hs hd
        obtain ⟨u43, g43, e43⟩ := hd 10 43 (by kernel_rfl) (by kernel_rfl) (by show _ < 55; decide)
        obtain rfl : u43 = .string ⟨(cat ts).toArray⟩ := g43
        obtain ⟨u44, g44, e44⟩ := hd 11 44 (by kernel_rfl) (by kernel_rfl) (by show _ < 55; decide)
        obtain rfl : u44 = .int .i64 (n : Int) := g44
        intro ug hgg
        obtain rfl : ug = .bool true := hgg
        refine ⟨fun _ => ?_, fun h => absurd rfl h⟩
        have hx := ext_take (cat ts) n
        exact Reg.Gives.value (v := .string ⟨((cat ts).take n).toArray⟩) (w' := wi) (by go_simp) (Reg.Res.same (Below.refl _) rfl)
      · obtain rfl := Option.some.inj ho
        intro ρ wi hE hL hs hd
        have e7 : ρ (.tmp 7) = .string ⟨(cat ts).toArray⟩ := hs 7 (by kernel_rfl)
        intro ug hgg
        obtain rfl : ug = .bool true := hgg
        refine ⟨fun _ => ?_, fun h => absurd rfl h⟩
        exact Reg.Gives.value (v := .string ⟨(cat ts).toArray⟩) (w' := wi) (by go_simp) (Reg.Res.same (Below.refl _) rfl)
      · obtain rfl := Option.some.inj ho
        intro ρ wi hE hL hs hd
        have e2 : ρ (.tmp 2) = .int .i64 (n : Int) := (hs 2 (by kernel_rfl)).trans HE.out
        intro ug hgg
        obtain rfl : ug = .bool true := hgg
        refine ⟨fun _ => ?_, fun h => absurd rfl h⟩
        exact Reg.Gives.value (v := .int .i64 (n : Int)) (w' := wi) (by go_simp) (Reg.Res.same (Below.refl _) rfl)
      · obtain rfl := Option.some.inj ho
        intro ρ wi hE hL hs hd
        obtain ⟨u46, g46, e46⟩ := hd 13 46 (by kernel_rfl) (by kernel_rfl) (by show _ < 55; decide)
        obtain rfl : u46 = .string ⟨(cat ts).toArray⟩ := g46
        obtain ⟨u47, g47, e47⟩ := hd 14 47 (by kernel_rfl) (by kernel_rfl) (by show _ < 55; decide)
        obtain rfl : u47 = .int .i64 (n : Int) := g47
        intro ug hgg
        obtain rfl : ug = .bool true := hgg
        refine ⟨fun _ => ?_, fun h => absurd rfl h⟩
        have hx := ext_drop (cat ts) n
        exact Reg.Gives.value (v := .string ⟨((cat ts).drop n).toArray⟩) (w' := wi) (by go_simp) (Reg.Res.same (Below.refl _) rfl)
      · obtain rfl := Option.some.inj ho
        intro ρ wi hE hL hs hd
        obtain ⟨u45, g45, e45⟩ := hd 12 45 (by kernel_rfl) (by kernel_rfl) (by show _ < 55; decide)
        obtain rfl : u45 = .string ⟨((cat ts).take n).toArray⟩ := g45
        obtain ⟨u48, g48, e48⟩ := hd 15 48 (by kernel_rfl) (by kernel_rfl) (by show _ < 55; decide)
        obtain rfl : u48 = .string ⟨((cat ts).drop n).toArray⟩ := g48
        intro ug hgg
        obtain rfl : ug = .bool true := hgg
        refine ⟨fun _ => ?_, fun h => absurd rfl h⟩
        have hsz := (hb5.drew.trans hL).size
        have hal : Below wi.heap.size wi (wi.alloc (.cells #[.string ⟨((cat ts).take n).toArray⟩, .string ⟨((cat ts).drop n).toArray⟩] 9)) := (Below.refl _ _).alloc (Nat.le_refl _) _
        exact Reg.Gives.value (v := .slice (some ⟨wi.heap.size, 0, none⟩) 2 2) (w' := wi.alloc (.cells #[.string ⟨((cat ts).take n).toArray⟩, .string ⟨((cat ts).drop n).toArray⟩] 9)) (by go_simp) ⟨⟨_, rfl, heap_alloc_new wi _⟩, hal.mono hsz, fun j u _ _ h => good_later hal h⟩
      · obtain rfl := Option.some.inj ho
        intro ρ wi hE hL hs hd
        obtain ⟨u42, g42, e42⟩ := hd 9 42 (by kernel_rfl) (by kernel_rfl) (by show _ < 55; decide)
        obtain ⟨u49, g49, e49⟩ := hd 16 49 (by kernel_rfl) (by kernel_rfl) (by show _ < 55; decide)
        intro ug hgg
        obtain rfl : ug = .bool true := hgg
        refine ⟨fun _ => ?_, fun h => absurd rfl h⟩
        obtain ⟨k, rfl, hk⟩ := g49
        have hst : Strs wi (some ⟨k, 0, none⟩) [⟨((cat ts).take n).toArray⟩, ⟨((cat ts).drop n).toArray⟩] := strs_of_block hk (HP.out)
        obtain ⟨v', w', hrun, h2, h3, h4⟩ := run_append wi 22 w.heap.size _ ss [⟨((cat ts).take n).toArray⟩, ⟨((cat ts).drop n).toArray⟩] (some ⟨k, 0, none⟩) 2 g42 hst (by simp; omega) (hb5.drew.trans hL).size (fun _ h => by cases h)
        refine Reg.Gives.value (v := v') (w' := w') (exec_append rfl (by rw [e42, e49]; exact hrun)) ⟨h2, h3, fun j u _ hal h => ?_⟩
        refine good_plain ?_ ?_ ?_ ?_ h
        · rintro rfl; exact absurd (hal.symm.trans (by kernel_rfl) : true = false) (by decide)
        · rintro rfl; exact absurd (hal.symm.trans (by kernel_rfl) : true = false) (by decide)
        · rintro rfl; exact absurd (hal.symm.trans (by kernel_rfl) : true = false) (by decide)
        · rintro rfl; exact absurd (hal.symm.trans (by kernel_rfl) : true = false) (by decide)
      · obtain rfl := Option.some.inj ho
        intro ρ wi hE hL hs hd
        obtain ⟨u50, g50, e50⟩ := hd 17 50 (by kernel_rfl) (by kernel_rfl) (by show _ < 55; decide)
        have hf := hE.func
        intro ug hgg
        obtain rfl : ug = .bool true := hgg
        refine ⟨fun _ => ?_, fun h => absurd rfl h⟩
        obtain ⟨A', c', rfl, hst⟩ := Txt.opened g50 HQ.out
        refine Reg.Gives.call (f := 9) (args := #[.slice A' (ss.length + 2) c']) (w' := wi) (by go_simp) ?_
        refine (K3.out wi A' c' hst (HTT.out.later (hb5.drew.trans hL))).mono ?_
        rintro e w'' ⟨rfl, rfl⟩
        exact ⟨_, rfl, Reg.Res.same (Below.refl _) rfl⟩
      · obtain rfl := Option.some.inj ho
        intro ρ wi hE hL hs hd
        have e8 : ρ (.tmp 8) = .int .u32 (X.toNat : Int) := hs 8 (by kernel_rfl)
        intro ug hgg
        obtain rfl : ug = .bool true := hgg
        refine ⟨fun _ => ?_, fun h => absurd rfl h⟩
        exact Reg.Gives.value (v := .int .u32 (X.toNat : Int)) (w' := wi) (by go_simp) (Reg.Res.same (Below.refl _) rfl)
      · obtain rfl := Option.some.inj ho
        intro ρ wi hE hL hs hd
        obtain ⟨u51, g51, e51⟩ := hd 18 51 (by kernel_rfl) (by kernel_rfl) (by show _ < 55; decide)
        obtain rfl : u51 = .int .u32 (X.toNat : Int) := g51
        obtain ⟨u52, g52, e52⟩ := hd 19 52 (by kernel_rfl) (by kernel_rfl) (by show _ < 55; decide)
        obtain rfl : u52 = .int .u32 (X.toNat : Int) := g52
        intro ug hgg
        obtain rfl : ug = .bool true := hgg
        refine ⟨fun _ => ?_, fun h => absurd rfl h⟩
        exact Reg.Gives.value (v := .bool true) (w' := wi) (by go_simp) (Reg.Res.same (Below.refl _) rfl)
      · obtain rfl := Option.some.inj ho
        intro ρ wi hE hL hs hd
        obtain ⟨u39, g39, e39⟩ := hd 6 39 (by kernel_rfl) (by kernel_rfl) (by show _ < 55; decide)
        obtain rfl : u39 = .bool true := g39
        obtain ⟨u53, g53, e53⟩ := hd 20 53 (by kernel_rfl) (by kernel_rfl) (by show _ < 55; decide)
        obtain rfl : u53 = .bool true := g53
        have hc := hE.const
        exact Reg.Gives.value (v := .bool true) (w' := wi) (by go_simp) (Reg.Res.same (Below.refl _) rfl)
      · obtain rfl := Option.some.inj ho
        intro ρ wi hE hL hs hd
        obtain ⟨u54, g54, e54⟩ := hd 21 54 (by kernel_rfl) (by kernel_rfl) (by show _ < 55; decide)
        obtain rfl : u54 = .bool true := g54
        exact Reg.Gives.value (v := .bool true) (w' := wi) (by go_simp) (Reg.Res.same (Below.refl _) rfl)
      · omega
    · intro V w' hV hL
      have h22 : V 22 = .bool true := hV 22 (by decide) rfl
      go_wp2_with fail
      go_ret
      exact ⟨ret_val ((Reg.end_slot 22 6 (by kernel_rfl) (by kernel_rfl) (by show _ < 55; decide) (by show _ < 23; decide)).trans h22), hb5.drew.trans hL⟩

theorem walk_long (A B : Option Addr) (ss ts : List ByteArray) (c d : Nat) (m : Int) (w : World) (hT : Tab w) (hs : Strs w A ss) (ht : Strs w B ts) (hm : ss.length ≤ maxLen) (hm2 : ts.length ≤ maxLen) (h : (60 < ss.length ∨ 3000 < (cat ss).length) ∨ (60 < ts.length ∨ 3000 < (cat ts).length)) :
    Calls Tryd.prog 6 #[.slice A ss.length c, .slice B ts.length d, .int .i64 m] w fun e w' => e = .returned (.bool true) ∧ Below w.heap.size w w' := by
  by_cases h1 : 60 < ss.length ∨ 3000 < (cat ss).length
  · have H1 := Lib.hid h1
    clear h h1
    go_enter Tryd.func6, Tryd.ntmps6
    go_wp2_with fail
    refine (awake_any _ hT).mono ?_
    rintro e w1 ⟨rfl, hb⟩
    go_wp2_with fail
    refine (long_yes A ss c w1 (hs.later hb) hm H1.out).mono ?_
    rintro e w2 ⟨rfl, rfl⟩
    go_wp2_with fail
    go_ret
    exact ⟨rfl, hb⟩
  · have h2 : 60 < ts.length ∨ 3000 < (cat ts).length := by
      rcases h with h | h
      · exact absurd h h1
      · exact h
    have H2 := Lib.hid h2
    have ha : ss.length ≤ 60 := by omega
    have hc : (cat ss).length ≤ 3000 := by omega
    clear h h1 h2
    go_enter Tryd.func6, Tryd.ntmps6
    go_wp2_with fail
    refine (awake_any _ hT).mono ?_
    rintro e w1 ⟨rfl, hb⟩
    go_wp2_with fail
    refine (long_no A ss c w1 (hs.later hb) hc ha).mono ?_
    rintro e w2 ⟨rfl, rfl⟩
    go_wp2_with fail
    refine (long_yes B ts d w1 (ht.later hb) hm2 H2.out).mono ?_
    rintro e w2 ⟨rfl, rfl⟩
    go_wp2_with fail
    go_ret
    exact ⟨rfl, hb⟩

theorem opened {H : Type} {enc : TypeId × Value → H} {W : World} {base : Nat} {gs : List (DataW H)} (v0 : Value) (d0 : DataW H) (p0 : List MemPlace) (v1 : Value) (d1 : DataW H) (p1 : List MemPlace) (v2 : Value) (d2 : DataW H) (p2 : List MemPlace)
    (o0 : Value.okWide Tryd.prog W .any base 22 v0) (t0 : DataW.Trod enc Tryd.prog W 0 (fun _ => true) true 22 v0 d0 p0)
    (o1 : Value.okWide Tryd.prog W .any base 22 v1) (t1 : DataW.Trod enc Tryd.prog W 0 (fun _ => true) true 22 v1 d1 p1)
    (o2 : Value.okWide Tryd.prog W .any base 3 v2) (t2 : DataW.Trod enc Tryd.prog W 0 (fun _ => true) true 3 v2 d2 p2)
    (hsz : (DataW.weightsEach Tryd.prog ([22, 22, 3] ++ []) ([d0, d1, d2] ++ gs)).all (· ≤ reachBytes) = true) (hT : Tab W) :
    Calls Tryd.prog 6 #[v0, v1, v2] W fun e W' => e = .returned (.bool true) ∧ Below W.heap.size W W' := by
  obtain ⟨A, ss, c, rfl, hs, hm, hA⟩ := open_texts (j := 0) o0 t0 hsz rfl rfl
  obtain ⟨B, ts, d, rfl, ht, hm2, hB⟩ := open_texts (j := 1) o1 t1 hsz rfl rfl
  obtain ⟨m, rfl, rfl, rfl, _⟩ := open_int Tryd.underlying3 o2 t2
  by_cases h : (60 < ss.length ∨ 3000 < (cat ss).length) ∨ (60 < ts.length ∨ 3000 < (cat ts).length)
  · exact walk_long A B ss ts c d m W hT hs ht hm hm2 h
  · by_cases hn : m < 0 ∨ ((cat ts).length : Int) < m
    · refine walk_short A B ss ts c d 0 m (decide (m < 0)) (decide (((cat ts).length : Int) < m)) W hT hs ht (by omega) (by omega) (by omega) (by omega) (Nat.zero_le _) hA hB rfl rfl ?_
      rw [if_pos (by simpa using hn)]; rfl
    · obtain ⟨n, rfl⟩ := Int.eq_ofNat_of_zero_le (show 0 ≤ m by omega)
      refine walk_short A B ss ts c d n (n : Int) (decide ((n : Int) < 0)) (decide (((cat ts).length : Int) < (n : Int))) W hT hs ht (by omega) (by omega) (by omega) (by omega) (by omega) hA hB rfl rfl ?_
      rw [if_neg (by simpa using hn)]

theorem contract (H : Type) (enc : TypeId × Value → H) (W : World) (base : Nat) (args : Array Value) (ds gs : List (DataW H)) (before : List MemPlace)
    (hval : ∀ (j : Nat) t v, Tryd.f6.params[j]? = some t → args[j]? = some v → Value.okWide Tryd.prog W .any base t v)
    (hW : DataW.Whole enc Tryd.prog Tryd.f6.params.toList Rows.crcJoinsSpec.vars false W args.toList ds gs before)
    (hsz : (DataW.weightsEach Tryd.prog (Tryd.f6.params.toList ++ []) (ds ++ gs)).all (· ≤ reachBytes) = true) (hG : Tab W) :
    Calls Tryd.prog 6 args W fun e W' => ∃ v, e = .returned v ∧ Rows.crcJoinsSpec.post enc Tryd.prog Tryd.f6 false true false false W args v W' := by
  have hW0 := hW
  obtain ⟨p, q, hA0, hV, rfl, _, _⟩ := hW
  have hA : DataW.TrodAll enc Tryd.prog W 0 (fun _ => true) true Tryd.f6.params.toList args.toList ds p := hA0
  rw [Tryd.params6] at hA hval hsz
  obtain ⟨v0, vs0, d0, ds0, p0, q0, hargs, rfl, rfl, h0, r0⟩ := trodAll_cons hA
  obtain ⟨v1, vs1, d1, ds1, p1, q1, rfl, rfl, rfl, h1, r1⟩ := trodAll_cons r0
  obtain ⟨v2, vs2, d2, ds2, p2, q2, rfl, rfl, rfl, h2, r2⟩ := trodAll_cons r1
  obtain ⟨rfl, rfl, rfl⟩ := trodAll_nil r2
  obtain rfl : args = #[v0, v1, v2] := by cases args; simp_all
  refine (opened v0 d0 p0 v1 d1 p1 v2 d2 p2 (hval 0 22 v0 rfl rfl) h0 (hval 1 22 v1 rfl rfl) h1 (hval 2 3 v2 rfl rfl) h2 hsz hG).mono fun e W' ⟨he, hb⟩ => ⟨_, he, ?_⟩
  exact Base.law_post (tb := 4) Base.laidOut (by kernel_rfl) rfl Tryd.underlying4 rfl (fun l hl => by
    rw [Tryd.params6] at hl
    match l, hl with
    | [_, _, _], _ => rfl) (by rw [Tryd.params6]; rfl) hW0 hb

theorem laid_met (os : Os) : laidMet Tryd.prog Rows.crcJoinsRow.laid ((laidWorld os).forCall (fun _ _ => 0) ⟨#[], #[.slice none 0 0, .slice none 0 0, .int .i64 0], []⟩).memory :=
  laidMet_of_run' 8 (by kernel_rfl) (by kernel_rfl)
theorem reads (os : Os) {H : Type} (enc : TypeId × Value → H) : ∃ places, DataW.whole enc Tryd.prog ((laidWorld os).forCall (fun _ _ => 0) ⟨#[], #[.slice none 0 0, .slice none 0 0, .int .i64 0], []⟩).memory Tryd.f6.params.toList Rows.crcJoinsSpec.vars false (#[.slice none 0 0, .slice none 0 0, .int .i64 0] : Array Value).toList 8 = some ([.nil, .nil, .lit (.int .i64 0)], [], places) :=
  ⟨[], by kernel_rfl⟩

set_option maxRecDepth 100000 in
theorem lifted (os : Os) (started : os.Started) (H : Type) (enc : TypeId × Value → H) (F : Stop.Interp) :
    ReturnsInHanded {} Tryd.checked os 6 .any ((OpenSpec.ofChange Rows.crcJoinsSpec).preRow enc Tryd.prog Tryd.f6 Rows.crcJoinsRow.domain false Rows.crcJoinsRow.laid) (((OpenSpec.ofChange Rows.crcJoinsSpec).at F).post enc Tryd.prog Tryd.f6 false true false false) := by
  obtain ⟨places, hx⟩ := reads os enc
  refine returnsInHanded_of_row (C := Tryd.checked) (s := OpenSpec.ofChange Rows.crcJoinsSpec) Base.own started (by kernel_rfl) Tryd.func6
    (witness_row_at (enc := enc) (C := Tryd.checked) false (laidWorld os) #[.slice none 0 0, .slice none 0 0, .int .i64 0] rfl (by kernel_rfl) (by kernel_rfl) (by kernel_rfl)
      (OpenSpec.preRow_of_cond 8 hx (by kernel_rfl) (fun k hk => by cases hk) (by kernel_rfl) (laid_met os))) ?_
  intro W base args ds gs before hval hW _ _ hsz hL _ _
  exact contract H enc W base args ds gs before hval hW hsz (table hL)

theorem said : Rows.CrcJoinsSaid :=
  OpenClaim.holds_of_cond 6 Tryd.f6 rfl rfl rfl rfl rfl rfl rfl ⟨rfl, rfl, rfl, rfl, rfl⟩ rfl rfl rfl rfl rfl (by kernel_rfl) Tryd.func6 (by kernel_rfl)
    (of_decide_eq_true (by kernel_rfl)) (by unfold Func.isWrapper; rw [if_neg (of_decide_eq_false (by kernel_rfl))]; exact ⟨rfl, rfl⟩)
    (fun os started H enc _ F => by rw [OpenClaim.pre_eq_preRow]; exact lifted os started H enc F)

theorem plain (f : FuncId) (fn : Func) (hf : Tryd.pinned.checked.prog.funcNamed "remuda/remudalaw01.CrcJoins" = some f) (hfn : Tryd.pinned.checked.prog.funcs[f]? = some fn) :
    false = Tryd.pinned.checked.prog.looks [] ∧ ∀ (j : Nat) t, fn.params[j]? = some t → Tryd.pinned.checked.prog.wantsStandIn t = false := by
  obtain rfl : f = 6 := Option.some.inj ((show Tryd.prog.funcNamed "remuda/remudalaw01.CrcJoins" = some 6 by kernel_rfl).symm.trans hf) |>.symm
  obtain rfl : fn = Tryd.f6 := (Option.some.inj (Tryd.func6.symm.trans hfn)).symm
  refine ⟨by kernel_rfl, fun j t ht => ?_⟩
  have hall : Tryd.f6.params.toList.all (fun t => !(Tryd.prog.wantsStandIn t)) = true := by kernel_rfl
  have hm : t ∈ Tryd.f6.params.toList := by simpa using Array.mem_of_getElem? ht
  have h := List.all_eq_true.1 hall t hm
  exact (by simpa using h : Tryd.prog.wantsStandIn t = false)

theorem card : Rows.CrcJoinsCardSaid :=
  Claim7.holds_tied_plain_at .later [] _ _ _ _ said (fun _ h => by cases h) (by kernel_rfl) (fun _ h => by cases h) crcJoins_row_tie rfl ⟨rfl, rfl⟩ (by kernel_rfl) rfl plain (by kernel_rfl)
#print axioms card
end Go.Proofs.YtnjamnokflfooaaDoor.CrcJoins
