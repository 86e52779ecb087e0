/-
  RecordAll is proved: the records of texts are those of each, or there are none, if one of them is none. Conditions: none.
-/
import Derived.Test.YtdmekfeggdodnaaRecRd6A
import Derived.Test.YtdmekfeggdodnaaRecRd6B
import Derived.Test.YtdmekfeggdodnaaRecRd6C
import Derived.Test.YtdmekfeggdodnaaRecRd6F
import Derived.Test.YtdmekfeggdodnaaRecOpen
import Derived.Test.YtdmekfeggdodnaaRows
import Derived.OpenShut
namespace Go.Proofs.Ytdmekfeggdodnaa.Rec
open Go.RowKit Go.Proofs.Ytdmekfeggdodnaa.Mem Go.Proofs.Ytdmekfeggdodnaa.Item Go.Proofs.Ytdmekfeggdodnaa.Wire

theorem refRead_any (s : ByteArray) (w : World) (hs : s.size ≤ 1000000) :
    Calls Try.prog 17 #[.string s] w fun e w' => (∃ y, e = .returned (.tuple #[(decR s).val y, .bool (dec s).isSome]) ∧ Has w' (decR s) y) ∧ Below w.heap.size w w' := by
  by_cases h4 : ((Wire.num s 1 : Nat) : Int) = 4
  · exact refRead4 s w hs h4
  by_cases h5 : ((Wire.num s 1 : Nat) : Int) = 5
  · exact refRead5 s w hs h5
  by_cases h6 : ((Wire.num s 1 : Nat) : Int) = 6
  · exact refRead6 s w hs h6
  by_cases h7 : ((Wire.num s 1 : Nat) : Int) = 7
  · exact refRead7 s w hs h7
  by_cases h11 : ((Wire.num s 1 : Nat) : Int) = 11
  · exact refRead11 s w hs h11
  exact refReadF s w hs _ rfl h4 h5 h6 h7 h11
end Go.Proofs.Ytdmekfeggdodnaa.Rec
namespace Go.Proofs.Ytdmekfeggdodnaa.Mem
open Go.ChangeShapes Go.WideShapes Go.ChangeAt Go.RowKit
set_option maxRecDepth 100000

/-- All bytes of texts, one behind the other. -/
def cat (ss : List ByteArray) : List UInt8 := (ss.map (·.data.toList)).flatten
theorem cat_nil : cat [] = [] := rfl
theorem cat_append (a b : List ByteArray) : cat (a ++ b) = cat a ++ cat b := by unfold cat; simp
theorem cat_one (s : ByteArray) : cat [s] = s.data.toList := by unfold cat; simp
theorem cat_take (ss : List ByteArray) (k : Nat) (h : k < ss.length) : cat (ss.take (k + 1)) = cat (ss.take k) ++ ss[k].data.toList := by
  rw [List.take_succ_eq_append_getElem h, cat_append, cat_one]

theorem cat_take_le (ss : List ByteArray) (k : Nat) : (cat (ss.take k)).length ≤ (cat ss).length := by
  have h : cat ss = cat (ss.take k) ++ cat (ss.drop k) := by rw [← cat_append, List.take_append_drop]
  rw [h, List.length_append]; omega
theorem cellsString : Try.prog.cellsOf 9 = 1 := by kernel_rfl
/-- A slice of texts that came in. -/
theorem open_texts {H : Type} {enc : TypeId × Value → H} {W : World} {base : Nat} {ts : List TypeId} {ds : List (DataW H)} {v : Value} {d : DataW H} {p : List MemPlace} {j : Nat}
    (hv : Value.okWide Try.prog W .any base 47 v) (h : DataW.Trod enc Try.prog W 0 (fun _ => true) true 47 v d p)
    (hsz : (DataW.weightsEach Try.prog ts ds).all (· ≤ reachBytes) = true) (ht : ts[j]? = some 47) (hd : ds[j]? = some d) :
    ∃ (A : Option Addr) (ss : List ByteArray) (cap : Nat), v = .slice A ss.length cap ∧ Strs W A ss ∧ ss.length ≤ maxLen ∧ Cap A ss.length cap := by
  obtain ⟨a0, len, cap, rfl⟩ := okWide_slice Try.underlying47 hv
  obtain ⟨fuel, hf⟩ := h
  rcases open_strings Try.underlying47 Try.underlying9 cellsString hf with ⟨hcs, hx⟩ | ⟨a, len', cap', ss, hcs, _, hl, hm, hz, hx, hcell, hws⟩
  · simp [Value.cells] at hcs
    obtain ⟨rfl, rfl, rfl⟩ := hcs
    exact ⟨none, [], 0, rfl, strs_nil _ _, by decide, fun _ => rfl, Nat.le_refl _⟩
  · simp [Value.cells] at hcs
    obtain ⟨rfl, rfl, rfl⟩ := hcs
    simp only [Prod.mk.injEq] at hx
    obtain ⟨rfl, rfl⟩ := hx
    simp only [if_true] at hz
    have hlen : (ss.take len).length = len := by rw [List.length_take]; omega
    refine ⟨some a, ss.take len, cap, by rw [hlen], ?_, by rw [hlen]; omega, (fun h => by cases h), by rw [hlen]; exact hl⟩
    intro k hk
    have hk' : k < ss.length := by omega
    refine ⟨a, rfl, ?_, ?_⟩
    · rw [hcell k hk', List.getElem_take]
      simp [List.getD, hk']
    · have hm' : (DataW.lit (.string (ss.take len)[k].data.toList) : DataW H) ∈ strs (ss.take len) := by
        unfold strs
        exact List.mem_map.2 ⟨_, List.getElem_mem hk, rfl⟩
      have := Base.sized_text hsz ht hd Try.underlying47 hm'
      have e : ((ss.take len)[k]).data.toList.length = ((ss.take len)[k]).size := Array.length_toList
      have := reachBytes_lt
      omega
theorem strs_lit (w : World) (ss : List ByteArray) (T : TypeId) (h : ∀ s ∈ ss, s.size ≤ 140737488355328) : Strs (w.alloc (.cells (ss.map Value.string).toArray T)) (some ⟨w.heap.size, 0, none⟩) ss := by
  intro k hk
  refine ⟨_, rfl, ?_, h _ (List.getElem_mem hk)⟩
  have h1 := heap_alloc_new w (.cells (ss.map Value.string).toArray T)
  have h2 := cell_of_row _ _ k _ _ _ h1
  have e : (⟨w.heap.size, 0, none⟩ : Addr).add k = ⟨w.heap.size, k, none⟩ := by
    unfold Addr.add
    by_cases h0 : k = 0
    · subst h0; rfl
    · rw [if_neg h0, Nat.zero_add]
  rw [e, h2]
  simp [hk]
theorem strs_one (w : World) (s : ByteArray) (T : TypeId) (h : s.size ≤ 140737488355328) : Strs (w.alloc (.cells #[.string s] T)) (some ⟨w.heap.size, 0, none⟩) [s] :=
  strs_lit w [s] T (by intro x hx; obtain rfl := List.mem_singleton.1 hx; exact h)
end Go.Proofs.Ytdmekfeggdodnaa.Mem
namespace Go.Proofs.Ytdmekfeggdodnaa.Rec
set_option maxRecDepth 100000
open Go.RowKit Go.Proofs.Ytdmekfeggdodnaa.Mem Go.Proofs.Ytdmekfeggdodnaa.Item Go.Proofs.Ytdmekfeggdodnaa.Wire

def flatR (ps : List (Rc × Lay)) : List Value := ps.flatMap fun p => p.1.vals p.2
/-- A record's lists don't lie in block o. -/
def OffO (o : Option Nat) (x : Rc) (y : Lay) : Prop := (0 < x.items.length → ∀ b off, y.A = some ⟨b, off, none⟩ → some b ≠ o) ∧ (0 < x.nodes.length → ∀ b off, y.B = some ⟨b, off, none⟩ → some b ≠ o)
/-- An own row of records. -/
structure RecRow (w : World) (base : Nat) (v : Value) (ps : List (Rc × Lay)) : Prop where
  row : w.ownsRow base 35 15 v ps.length (flatR ps)
  each : ∀ p ∈ ps, Has w p.1 p.2 ∧ OffO v.ownBlock p.1 p.2
theorem recRow_nil (w : World) (base : Nat) : RecRow w base (.slice none 0 0) [] := ⟨World.ownsRow_nil _ _ _ _, fun p hp => by cases hp⟩
theorem RecRow.later {w w' : World} {base : Nat} {v : Value} {ps : List (Rc × Lay)} (h : RecRow w base v ps) (hb : Below w.heap.size w w') : RecRow w' base v ps :=
  ⟨row_only (S := fun _ => False) h.row (Only.of_below hb) fun _ _ e => e, fun p hp => ⟨(h.each p hp).1.later hb, (h.each p hp).2⟩⟩
theorem RecRow.push {w w1 w' : World} {base : Nat} {v v' : Value} {ps : List (Rc × Lay)} {x : Rc} {y : Lay} (h : RecRow w base v ps) (hb : Below w.heap.size w w1) (hx : Has w1 x y) (hof : OffL w.heap.size x y)
    (hrow : w'.ownsRow base 35 15 v' (ps.length + 1) (flatR ps ++ x.vals y)) (hg : w1.grownBy w' v.ownBlock) (hat : v'.ownBlock = v.ownBlock ∨ v'.ownBlock = some w1.heap.size) : RecRow w' base v' (ps ++ [(x, y)]) := by
  have ho := Only.of_grown hg
  have hv : ∀ i, v.ownBlock = some i → i < w.heap.size := fun i hi => (h.row.lt i hi).2
  have hxo : OffO v.ownBlock x y := ⟨fun h0 b off e e2 => by have := hof.1 h0 b off e; have := hv b e2.symm; omega, fun h0 b off e e2 => by have := hof.2 h0 b off e; have := hv b e2.symm; omega⟩
  have key : ∀ x y, Has w1 x y → OffO v.ownBlock x y → Has w' x y ∧ OffO v'.ownBlock x y := by
    intro x y hh hoo
    refine ⟨⟨Items.only hh.items ho fun h0 b off e => hoo.1 h0 b off e, Nums.only hh.nodes ho fun h0 b off e => hoo.2 h0 b off e⟩, ?_⟩
    rcases hat with e1 | e1
    · rw [e1]; exact hoo
    · rw [e1]
      exact ⟨fun h0 b off e e2 => by have := Items.low hh.items h0 b off e; have := Option.some.inj e2; omega, fun h0 b off e e2 => by have := Nums.low hh.nodes h0 b off e; have := Option.some.inj e2; omega⟩
  constructor
  · have e : flatR (ps ++ [(x, y)]) = flatR ps ++ x.vals y := by unfold flatR; rw [List.flatMap_append]; simp
    rw [e, List.length_append]
    exact hrow
  · intro p hp
    rcases List.mem_append.1 hp with hp | hp
    · exact key _ _ ((h.each p hp).1.later hb) (h.each p hp).2
    · simp at hp
      subst hp
      exact key _ _ hx hxo
theorem infoRec : (Try.prog.info? 35).map (fun i => (i.zero, i.size, i.bytes)) = some (some (.agg #[.int .i64 0, .int .i64 0, .int .i64 0, .int .i64 0, .slice none 0 0, .slice none 0 0, .int .i64 0, .int .i64 0, .int .i64 0, .int .i64 0, .int .i64 0, .int .i64 0, .int .i64 0, .int .i64 0, .bool false]), 15, 152) := by kernel_rfl
theorem vals_oneR (x : Rc) (y : Lay) : ∀ u ∈ x.vals y, u.oneCell' = true := by
  intro u hu
  unfold Rc.vals at hu
  simp only [List.mem_cons, List.not_mem_nil, or_false] at hu
  rcases hu with rfl | rfl | rfl | rfl | rfl | rfl | rfl | rfl | rfl | rfl | rfl | rfl | rfl | rfl | rfl <;> rfl

set_option maxHeartbeats 2000000 in
theorem all_any (A : Option Addr) (ss : List ByteArray) (cap : Nat) (w : World) (hs : Strs w A ss) (hm : ss.length ≤ 1000) :
    Calls Try.prog 21 #[.slice A ss.length cap] w fun e w' => (((∀ x ∈ ss, dec x ≠ none) ∧ ∃ v ps, e = .returned (.tuple #[v, .int .i64 0]) ∧ ps.map (·.1) = ss.map decR ∧ RecRow w' w.heap.size v ps) ∨ ((∃ x ∈ ss, dec x = none) ∧ e = .returned (.tuple #[.slice none 0 0, .int .i64 2]))) ∧ Below w.heap.size w w' := by
  have HS := Lib.hid hs
  clear hs
  go_enter Try.func21, Try.ntmps21
  go_wp2_with fail
  go_loopw [4, 6, 7, 8, 11] (fun v _ _ _ i wr => ∃ (k : Nat) (ps : List (Rc × Lay)), k ≤ ss.length ∧ i = .int .i64 (k : Int) ∧ Hid (∀ x ∈ ss.take k, dec x ≠ none) ∧ Hid (ps.map (·.1) = (ss.take k).map decR) ∧ RecRow wr w.heap.size v ps ∧ Below w.heap.size w wr) (fun _ _ _ _ i _ => ss.length - (intOf i).toNat)
  case atStart => exact ⟨0, [], by omega, rfl, Lib.hid (by simp), Lib.hid (by simp), recRow_nil _ _, Below.refl _ _⟩
  case round =>
    obtain ⟨k, ps, hk, rfl, hd, hps, hrow, hbr⟩ := hrel
    have HROW := Lib.hid hrow
    have HBR := Lib.hid hbr
    by_cases hlt : k < ss.length
    · obtain ⟨ad, rfl, hc, hsz⟩ := HS.out k hlt
      have hc2 := (hbr.cell (block_of_cell hc)).trans hc
      have HT := Lib.hid (show ss.take (k + 1) = ss.take k ++ [ss[k]] from List.take_succ_eq_append_getElem hlt)
      have HME := Lib.hid (List.getElem_mem hlt)
      have hpl : ps.length = k := by
        have := congrArg List.length hps.out
        rw [List.length_map, List.length_map, List.length_take] at this
        omega
      generalize ss[k] = s at *
      have HDE := Lib.hid (decode_off s wr hsz)
      have HDR : Hid ((dec s = none → decE s = 2) ∧ (dec s ≠ none → decE s = 0)) := Lib.hid (by
        unfold decE
        cases dec s <;> simp)
      obtain ⟨E, hE⟩ : ∃ E, decE s = E := ⟨_, rfl⟩
      obtain ⟨R, hR⟩ : ∃ R, decR s = R := ⟨_, rfl⟩
      rw [hE] at HDE HDR
      have HRE := Lib.hid hR
      rw [hR] at HDE
      obtain ⟨Ax, nx, cx, hvx⟩ := own_slice hrow.row
      subst hvx
      clear hE hR hc hsz hrow hbr
      go_wp2_with fail
      refine HDE.out.mono ?_
      rintro e w1 ⟨⟨y, rfl, hh, hof⟩, hb1⟩
      have HH := Lib.hid hh
      have HOF := Lib.hid hof
      have HR1 := Lib.hid (HROW.out.later hb1)
      have HB1 := Lib.hid hb1
      have HBW := Lib.hid (HBR.out.trans (hb1.mono HBR.out.size))
      obtain ⟨Rx, hRx⟩ : ∃ Rx, Rx = R := ⟨_, rfl⟩
      obtain ⟨yx, hyx⟩ : ∃ yx, yx = y := ⟨_, rfl⟩
      rw [← hRx, ← hyx] at HH HOF
      rw [← hRx] at HRE
      obtain ⟨xk, ⟨x1, x2, x3⟩, its, nds, a0, a1, a2, a3, a4, a5, a6, a7, yes⟩ := R
      obtain ⟨A2, c2, B2, d2⟩ := y
      obtain ⟨L, hLL⟩ : ∃ L, its.length = L := ⟨_, rfl⟩
      obtain ⟨M, hMM⟩ : ∃ M, nds.length = M := ⟨_, rfl⟩
      have HVQ : Hid (Rx.vals yx = [.int .i64 xk, .int .i64 x1, .int .i64 x2, .int .i64 x3, .slice A2 L c2, .slice B2 M d2, .int .i64 a0, .int .i64 a1, .int .i64 a2, .int .i64 a3, .int .i64 a4, .int .i64 a5, .int .i64 a6, .int .i64 a7, .bool yes]) := Lib.hid (by rw [hRx, hyx]; unfold Rc.vals; simp only [hLL, hMM])
      unfold Rc.val
      simp only [hLL, hMM]
      clear hb1 hh hof hc2 hLL hMM hRx hyx HDE
      by_cases hdn : dec s = none
      · have hE2 := HDR.out.1 hdn
        subst hE2
        have HX : Hid (∃ x ∈ ss, dec x = none) := Lib.hid ⟨s, HME.out, hdn⟩
        have HBF := Lib.hid (HBW.out.alloc HBW.out.size (.cells #[.int .i64 xk, .int .i64 x1, .int .i64 x2, .int .i64 x3, .slice A2 L c2, .slice B2 M d2, .int .i64 a0, .int .i64 a1, .int .i64 a2, .int .i64 a3, .int .i64 a4, .int .i64 a5, .int .i64 a6, .int .i64 a7, .bool yes] 35))
        clear hdn
        go_wp2_with fail
        go_returns
        exact ⟨Or.inr ⟨HX.out, rfl⟩, HBF.out⟩
      · have hE2 := HDR.out.2 hdn
        subst hE2
        have hb2 := Go.Joins.below_alloc2 w1 (.cells #[.int .i64 xk, .int .i64 x1, .int .i64 x2, .int .i64 x3, .slice A2 L c2, .slice B2 M d2, .int .i64 a0, .int .i64 a1, .int .i64 a2, .int .i64 a3, .int .i64 a4, .int .i64 a5, .int .i64 a6, .int .i64 a7, .bool yes] 35) (.cells #[.int .i64 xk, .int .i64 x1, .int .i64 x2, .int .i64 x3, .slice A2 L c2, .slice B2 M d2, .int .i64 a0, .int .i64 a1, .int .i64 a2, .int .i64 a3, .int .i64 a4, .int .i64 a5, .int .i64 a6, .int .i64 a7, .bool yes] 35)
        obtain ⟨w3, hw3⟩ : ∃ w3, w3 = (w1.alloc (.cells #[.int .i64 xk, .int .i64 x1, .int .i64 x2, .int .i64 x3, .slice A2 L c2, .slice B2 M d2, .int .i64 a0, .int .i64 a1, .int .i64 a2, .int .i64 a3, .int .i64 a4, .int .i64 a5, .int .i64 a6, .int .i64 a7, .bool yes] 35)).alloc (.cells #[.int .i64 xk, .int .i64 x1, .int .i64 x2, .int .i64 x3, .slice A2 L c2, .slice B2 M d2, .int .i64 a0, .int .i64 a1, .int .i64 a2, .int .i64 a3, .int .i64 a4, .int .i64 a5, .int .i64 a6, .int .i64 a7, .bool yes] 35) := ⟨_, rfl⟩
        have hcn := cells_new (w1.alloc (.cells #[.int .i64 xk, .int .i64 x1, .int .i64 x2, .int .i64 x3, .slice A2 L c2, .slice B2 M d2, .int .i64 a0, .int .i64 a1, .int .i64 a2, .int .i64 a3, .int .i64 a4, .int .i64 a5, .int .i64 a6, .int .i64 a7, .bool yes] 35)) 35 [.int .i64 xk, .int .i64 x1, .int .i64 x2, .int .i64 x3, .slice A2 L c2, .slice B2 M d2, .int .i64 a0, .int .i64 a1, .int .i64 a2, .int .i64 a3, .int .i64 a4, .int .i64 a5, .int .i64 a6, .int .i64 a7, .bool yes] #[.int .i64 xk, .int .i64 x1, .int .i64 x2, .int .i64 x3, .slice A2 L c2, .slice B2 M d2, .int .i64 a0, .int .i64 a1, .int .i64 a2, .int .i64 a3, .int .i64 a4, .int .i64 a5, .int .i64 a6, .int .i64 a7, .bool yes] rfl
        rw [← hw3] at hb2 hcn
        rw [World.size_alloc, ← HVQ.out] at hcn
        have HR3 := Lib.hid (HR1.out.later hb2)
        have HH3 := Lib.hid (HH.out.later hb2)
        have HB3 := Lib.hid (HB1.out.trans (hb2.mono HB1.out.size))
        have HBW3 := Lib.hid (HBW.out.trans (hb2.mono HBW.out.size))
        have HCN := Lib.hid hcn
        have HD2 : Hid (∀ x ∈ ss.take (k + 1), dec x ≠ none) := Lib.hid (by
          rw [HT.out]
          intro x hx
          rcases List.mem_append.1 hx with hx | hx
          · exact hd.out x hx
          · simp at hx; subst hx; exact hdn)
        have HP2 : Hid ((ps ++ [(Rx, yx)]).map (·.1) = (ss.take (k + 1)).map decR) := Lib.hid (by
          rw [HT.out, List.map_append, List.map_append, hps.out]
          simp [HRE.out])
        clear hdn hb2 hcn hd hps
        obtain ⟨i0, hi, hz0, hz1, hz2⟩ := info_parts infoRec
        have HONE := Lib.hid (vals_oneR Rx yx)
        have HPL := Lib.hid hpl
        clear hpl
        go_wp2_with (at_builtin
                     rw [← hw3]
                     have hown3 := HR3.out.row
                     have hcell3 := HCN.out
                     refine wpList_append_own_at _ rfl (.tmp 23) (.tmp 25) 48 rfl w.heap.size 35 i0 _ 15 152 Try.underlying48 hi hz0 hz1 hz2 rfl (by decide) (.slice Ax nx cx) ps.length (flatR ps) rfl hown3 ⟨w1.heap.size + 1, 0, none⟩ 1 1 (Rx.vals yx) rfl (by rw [HVQ.out]; rfl) (fun j u hu => by rw [addr_add]; exact hcell3.cell hu) HONE.out (by rw [HPL.out]; unfold maxLen; omega) (by rw [HPL.out]; omega) (by have := HBW3.out.size; omega) ?_
                     intro v' w4 ho4 hg4 hx4 hat4
                     clear hx4 hown3 hcell3
                     have HPU := Lib.hid (HROW.out.push HB3.out HH3.out HOF.out ho4 hg4 hat4)
                     have HB4 := Lib.hid (Below.grown HBW3.out hg4 HBW3.out.size (fun k hk => (HROW.out.row.lt k hk).1))
                     clear ho4 hg4 hat4)
        go_roundw
        case rel => exact ⟨k + 1, _, by omega, by go_num, HD2, HP2, HPU.out, HB4.out⟩
        case measure => simp [intOf]; omega
    · obtain rfl : k = ss.length := by omega
      have HF : Hid ((∀ x ∈ ss, dec x ≠ none) ∧ ps.map (·.1) = ss.map decR) := Lib.hid ⟨by have := hd.out; rwa [List.take_length] at this, by have := hps.out; rwa [List.take_length] at this⟩
      clear hd hps hrow hbr
      go_wp2_with fail
      go_returns
      exact ⟨Or.inl ⟨HF.out.1, _, ps, rfl, HF.out.2, HROW.out⟩, HBR.out⟩
end Go.Proofs.Ytdmekfeggdodnaa.Rec
namespace Go.Proofs.Ytdmekfeggdodnaa.RecordAll
set_option maxRecDepth 100000
open Go.ChangeShapes Go.WideShapes Go.ChangeAt Go.RowKit Go.Proofs.Ytdmekfeggdodnaa.Mem Go.Proofs.Ytdmekfeggdodnaa.Item Go.Proofs.Ytdmekfeggdodnaa.Rec Go.Proofs.Ytdmekfeggdodnaa.Wire

def rLawA (va vx : Value) (bg kx nx cx : Nat) : Nat → Value → World → Prop
  | 0, v, _ => v = .int .i64 (kx : Int)
  | 1, v, _ => v = .slice (some ⟨bg, 0, none⟩) nx cx
  | 2, v, _ => v = .int .i64 (nx : Int)
  | 3, v, _ => v = .bool false
  | 4, v, _ => v = .bool false
  | 5, v, _ => v = .slice (some ⟨bg, 0, none⟩) nx cx
  | 6, v, _ => v = .int .i64 (kx : Int)
  | 7, v, _ => v = .pointer (some ⟨bg, kx * 15, none⟩)
  | 8, v, _ => v = va
  | 9, v, _ => v = va
  | 10, v, _ => v = vx
  | 11, v, _ => v = .bool true
  | 12, v, _ => v = .bool false
  | 13, v, _ => v = .bool false
  | _, _, _ => True
theorem rLawA_later {va vx : Value} {bg kx nx cx : Nat} {j : Nat} {v : Value} {w w' : World} (_hb : Below w.heap.size w w') (h : rLawA va vx bg kx nx cx j v w) : rLawA va vx bg kx nx cx j v w' := by
  match j, h with
  | 0, h | 1, h | 2, h | 3, h | 4, h | 5, h | 6, h | 7, h | 8, h | 9, h | 10, h | 11, h | 12, h | 13, h => exact h
  | _ + 14, _ => exact trivial
def rLawA0 (kx : Nat) : Nat → Value → World → Prop
  | 0, v, _ => v = .int .i64 (kx : Int)
  | 1, v, _ => v = .slice none 0 0
  | 2, v, _ => v = .int .i64 0
  | 3, v, _ => v = .bool true
  | 4, v, _ => v = .bool true
  | 5, v, _ => v = undef
  | 6, v, _ => v = undef
  | 7, v, _ => v = undef
  | 8, v, _ => v = undef
  | 9, v, _ => v = undef
  | 10, v, _ => v = undef
  | 11, v, _ => v = undef
  | 12, v, _ => v = undef
  | 13, v, _ => v = .bool true
  | _, _, _ => True
/-- An own row of records: where each stands. -/
theorem rec_cells {w : World} {base : Nat} {v : Value} {ps : List (Rc × Lay)} (h : RecRow w base v ps) : ∃ A c, v = .slice A ps.length c ∧ ∀ k (hk : k < ps.length), ∃ g, A = some ⟨g, 0, none⟩ ∧ ∀ j u, (ps[k].1.vals ps[k].2)[j]? = some u → w.cell? ⟨g, k * 15 + j, none⟩ = some u := by
  have h0 := h.row
  rcases h.row.2 with ⟨rfl, hn⟩ | ⟨g, cap, cur, rfl, _⟩
  · obtain rfl := List.eq_nil_of_length_eq_zero hn
    exact ⟨none, 0, rfl, fun k hk => absurd hk (by simp)⟩
  · refine ⟨some ⟨g, 0, none⟩, cap, rfl, fun k hk => ⟨g, rfl, fun j u hu => ?_⟩⟩
    have hj : j < 15 := by
      have := (List.getElem?_eq_some_iff.1 hu).1
      simpa [Rc.vals] using this
    have hgen : ∀ (l : List (Rc × Lay)) (k : Nat) (hk : k < l.length), (flatR l)[k * 15 + j]? = (l[k].1.vals l[k].2)[j]? := by
      intro l
      induction l with
      | nil => intro k hk; simp at hk
      | cons x l ih =>
        intro k hk
        have hlen : (x.1.vals x.2).length = 15 := rfl
        show (x.1.vals x.2 ++ flatR l)[k * 15 + j]? = _
        cases k with
        | zero => rw [Nat.zero_mul, Nat.zero_add, List.getElem?_append_left (by omega)]; rfl
        | succ k =>
          rw [List.getElem?_append_right (by omega), hlen, show (k + 1) * 15 + j - 15 = k * 15 + j by omega, ih k (by simpa using hk)]
          rfl
    have := h0.cells (g := g) rfl (k * 15 + j) u (by rw [hgen ps k hk]; exact hu)
    rw [addr_add] at this
    exact this
set_option maxHeartbeats 4000000 in
theorem bad_walk (A0 : Option Addr) (ss : List ByteArray) (cap : Nat) (w : World) (hs : Strs w A0 ss) (hm : ss.length ≤ 40) (hx : ∃ x ∈ ss, dec x = none) :
    Calls Try.prog 5 #[.slice A0 ss.length cap] w fun e w' => e = .returned (.bool true) ∧ Below w.heap.size w w' := by
  have HS := Lib.hid hs
  have HM := Lib.hid hm
  have HAL := Lib.hid (fun w' (hb : Below w.heap.size w w') => all_any A0 ss cap w' (hs.later hb) (by omega))
  have HX := Lib.hid hx
  clear hx
  clear hs
  go_enter Try.func5, Try.ntmps5
  go_wp2_with fail
  refine (rawake_any _).mono ?_
  rintro e w0 ⟨rfl, hb0⟩
  have HB0 := Lib.hid hb0
  clear hb0
  go_wp2_with fail
  refine (HAL.out _ HB0.out).mono ?_
  rintro e w1 ⟨hor, hb1⟩
  have he : e = .returned (.tuple #[.slice none 0 0, .int .i64 2]) := by
    rcases hor with ⟨h1, _⟩ | ⟨_, h2⟩
    · obtain ⟨x, h3, h4⟩ := HX.out
      exact absurd h4 (h1 x h3)
    · exact h2
  subst he
  have HB1 := Lib.hid (HB0.out.trans (hb1.mono HB0.out.size))
  clear hor hb1
  go_wp2_with fail
  go_loopw [5, 6, 7, 8, 9, 22] (fun n _ _ _ _ i wr => ∃ (k : Nat), k ≤ ss.length ∧ i = .int .i64 (k : Int) ∧ n = .int .i64 0 ∧ Hid (∀ x ∈ ss.take k, dec x ≠ none) ∧ Below w.heap.size w wr) (fun _ _ _ _ _ i _ => ss.length - (intOf i).toNat)
  case atStart => exact ⟨0, by omega, rfl, rfl, Lib.hid (by simp), HB1.out⟩
  case round =>
    obtain ⟨k, hk, rfl, rfl, hd, hbr⟩ := hrel
    have HBR := Lib.hid hbr
    by_cases hlt : k < ss.length
    · skip
      obtain ⟨ad, rfl, hc, hsz⟩ := HS.out k hlt
      have hc2 := (hbr.cell (block_of_cell hc)).trans hc
      have HT := Lib.hid (show ss.take (k + 1) = ss.take k ++ [ss[k]] from List.take_succ_eq_append_getElem hlt)
      have HME := Lib.hid (List.getElem_mem hlt)
      have HD2 : Hid (dec ss[k] ≠ none → ∀ x ∈ ss.take (k + 1), dec x ≠ none) := Lib.hid (by
        intro h0 x hx
        rw [HT.out] at hx
        rcases List.mem_append.1 hx with hx | hx
        · exact hd.out x hx
        · simp at hx; subst hx; exact h0)
      generalize ss[k] = s at *
      by_cases g1 : 5000 < s.size
      · clear hbr hd
        go_wp2_with fail
        go_returns
        exact ⟨rfl, HBR.out⟩
      have HRD := Lib.hid (refRead_any s wr (by omega))
      obtain ⟨o, ho⟩ : ∃ o, (dec s).isSome = o := ⟨_, rfl⟩
      obtain ⟨R, hR⟩ : ∃ R, decR s = R := ⟨_, rfl⟩
      rw [ho, hR] at HRD
      have HO : Hid (o = true → dec s ≠ none) := Lib.hid (by
        intro h e
        rw [e] at ho
        subst h
        cases ho)
      clear hbr hsz hd hc ho hR
      go_wp2_with fail
      refine HRD.out.mono ?_
      rintro e w2 ⟨⟨y, rfl, _⟩, hb2⟩
      obtain ⟨A2, c2, B2, d2⟩ := y
      obtain ⟨k1, ⟨t1, t2, t3⟩, its, nds, a0, a1, a2, a3, a4, a5, a6, a7, yes⟩ := R
      obtain ⟨L, hLL⟩ : ∃ L, its.length = L := ⟨_, rfl⟩
      obtain ⟨M, hMM⟩ : ∃ M, nds.length = M := ⟨_, rfl⟩
      unfold Rc.val
      simp only [hLL, hMM]
      have HB3 := Lib.hid ((HBR.out.trans (hb2.mono HBR.out.size)).alloc (by have := HBR.out.size; have := hb2.size; omega) (.cells #[.int .i64 k1, .int .i64 t1, .int .i64 t2, .int .i64 t3, .slice A2 L c2, .slice B2 M d2, .int .i64 a0, .int .i64 a1, .int .i64 a2, .int .i64 a3, .int .i64 a4, .int .i64 a5, .int .i64 a6, .int .i64 a7, .bool yes] 39))
      clear hb2 hLL hMM hc2
      cases o with
      | false =>
        go_wp2_with fail
        go_returns
        exact ⟨rfl, HB3.out⟩
      | true =>
        have HDD := Lib.hid (HD2.out (HO.out rfl))
        obtain ⟨wr2, hwr2⟩ : ∃ v, v = w2.alloc (.cells #[.int .i64 k1, .int .i64 t1, .int .i64 t2, .int .i64 t3, .slice A2 L c2, .slice B2 M d2, .int .i64 a0, .int .i64 a1, .int .i64 a2, .int .i64 a3, .int .i64 a4, .int .i64 a5, .int .i64 a6, .int .i64 a7, .bool yes] 39) := ⟨_, rfl⟩
        rw [← hwr2] at HB3
        go_upto_region 15 with (fail)
        rw [← hwr2]
        clear hwr2
        refine Reg.region_heavy (by kernel_rfl) 13 [13] (rLawA0 k) (fun a => Below wr2.heap.size wr2 a) (fun a => Below wr2.heap.size wr2 a) (fun V => [(some 44, V 0), (some 45, V 1), (some 46, V 2), (some 47, V 3), (some 48, V 4), (some 49, V 5), (some 50, V 6), (some 51, V 7), (some 52, V 8), (some 53, V 9), (some 54, V 10), (some 55, V 11), (some 56, V 12), (some 57, V 13)]) (by kernel_rfl) (by kernel_rfl) (by kernel_rfl) (fun V => rfl) ?_ ?_ ?_
        · exact (Below.refl _ _).drew
        · intro i o ho
          have hi : i < 14 := (Array.getElem?_eq_some_iff.1 ho).1
          rcases i with _ | _ | _ | _ | _ | _ | _ | _ | _ | _ | _ | _ | _ | _ | i
          · obtain rfl := Option.some.inj ho
            intro ρ wi hE hI hs hd
            replace hI : (fun a => Below wr2.heap.size wr2 a) wi := hI
            have e6 : ρ (.tmp 6) = .int .i64 (k : Int) := hs 6 (by kernel_rfl)
            exact Reg.Gives.value (v := .int .i64 (k : Int)) (w' := wi) (by go_simp) (Reg.OwedH.same hI rfl)
          · obtain rfl := Option.some.inj ho
            intro ρ wi hE hI hs hd
            replace hI : (fun a => Below wr2.heap.size wr2 a) wi := hI
            have e3 : ρ (.tmp 3) = .slice none 0 0 := hs 3 (by kernel_rfl)
            exact Reg.Gives.value (v := .slice none 0 0) (w' := wi) (by go_simp) (Reg.OwedH.same hI rfl)
          · obtain rfl := Option.some.inj ho
            intro ρ wi hE hI hs hd
            replace hI : (fun a => Below wr2.heap.size wr2 a) wi := hI
            obtain ⟨u45, g45, e45⟩ := hd 1 45 (by kernel_rfl) (by kernel_rfl) (by show _ < 79; decide)
            obtain rfl : u45 = .slice none 0 0 := g45
            exact Reg.Gives.value (v := .int .i64 0) (w' := wi) (by go_simp) (Reg.OwedH.same hI rfl)
          · obtain rfl := Option.some.inj ho
            intro ρ wi hE hI hs hd
            replace hI : (fun a => Below wr2.heap.size wr2 a) wi := hI
            obtain ⟨u44, g44, e44⟩ := hd 0 44 (by kernel_rfl) (by kernel_rfl) (by show _ < 79; decide)
            obtain rfl : u44 = .int .i64 (k : Int) := g44
            obtain ⟨u46, g46, e46⟩ := hd 2 46 (by kernel_rfl) (by kernel_rfl) (by show _ < 79; decide)
            obtain rfl : u46 = .int .i64 0 := g46
            have hx1 : (0 : Int) ≤ (k : Int) := by omega
            exact Reg.Gives.value (v := .bool true) (w' := wi) (by go_simp) (Reg.OwedH.same hI rfl)
          · obtain rfl := Option.some.inj ho
            intro ρ wi hE hI hs hd
            replace hI : (fun a => Below wr2.heap.size wr2 a) wi := hI
            obtain ⟨u47, g47, e47⟩ := hd 3 47 (by kernel_rfl) (by kernel_rfl) (by show _ < 79; decide)
            obtain rfl : u47 = .bool true := g47
            exact Reg.Gives.value (v := .bool true) (w' := wi) (by go_simp) (Reg.OwedH.same hI rfl)
          · obtain rfl := Option.some.inj ho
            intro ρ wi hE hI hs hd
            replace hI : (fun a => Below wr2.heap.size wr2 a) wi := hI
            have e3 : ρ (.tmp 3) = .slice none 0 0 := hs 3 (by kernel_rfl)
            intro ug hgg
            obtain rfl : ug = .bool true := hgg
            exact ⟨fun h => (by cases h), fun _ => ⟨rfl, hI⟩⟩
          · obtain rfl := Option.some.inj ho
            intro ρ wi hE hI hs hd
            replace hI : (fun a => Below wr2.heap.size wr2 a) wi := hI
            have e6 : ρ (.tmp 6) = .int .i64 (k : Int) := hs 6 (by kernel_rfl)
            intro ug hgg
            obtain rfl : ug = .bool true := hgg
            exact ⟨fun h => (by cases h), fun _ => ⟨rfl, hI⟩⟩
          · obtain rfl := Option.some.inj ho
            intro ρ wi hE hI hs hd
            replace hI : (fun a => Below wr2.heap.size wr2 a) wi := hI
            obtain ⟨u49, g49, e49⟩ := hd 5 49 (by kernel_rfl) (by kernel_rfl) (by show _ < 79; decide)
            obtain rfl : u49 = undef := g49
            obtain ⟨u50, g50, e50⟩ := hd 6 50 (by kernel_rfl) (by kernel_rfl) (by show _ < 79; decide)
            obtain rfl : u50 = undef := g50
            intro ug hgg
            obtain rfl : ug = .bool true := hgg
            exact ⟨fun h => (by cases h), fun _ => ⟨rfl, hI⟩⟩
          · obtain rfl := Option.some.inj ho
            intro ρ wi hE hI hs hd
            replace hI : (fun a => Below wr2.heap.size wr2 a) wi := hI
            obtain ⟨u51, g51, e51⟩ := hd 7 51 (by kernel_rfl) (by kernel_rfl) (by show _ < 79; decide)
            obtain rfl : u51 = undef := g51
            intro ug hgg
            obtain rfl : ug = .bool true := hgg
            exact ⟨fun h => (by cases h), fun _ => ⟨rfl, hI⟩⟩
          · obtain rfl := Option.some.inj ho
            intro ρ wi hE hI hs hd
            replace hI : (fun a => Below wr2.heap.size wr2 a) wi := hI
            obtain ⟨u52, g52, e52⟩ := hd 8 52 (by kernel_rfl) (by kernel_rfl) (by show _ < 79; decide)
            obtain rfl : u52 = undef := g52
            have hf := hE.func
            intro ug hgg
            obtain rfl : ug = .bool true := hgg
            exact ⟨fun h => (by cases h), fun _ => ⟨rfl, hI⟩⟩
          · obtain rfl := Option.some.inj ho
            intro ρ wi hE hI hs hd
            replace hI : (fun a => Below wr2.heap.size wr2 a) wi := hI
            have e8 : ρ (.tmp 8) = .pointer (some ⟨w2.heap.size, 0, none⟩) := hs 8 (by kernel_rfl)
            intro ug hgg
            obtain rfl : ug = .bool true := hgg
            exact ⟨fun h => (by cases h), fun _ => ⟨rfl, hI⟩⟩
          · obtain rfl := Option.some.inj ho
            intro ρ wi hE hI hs hd
            replace hI : (fun a => Below wr2.heap.size wr2 a) wi := hI
            obtain ⟨u53, g53, e53⟩ := hd 9 53 (by kernel_rfl) (by kernel_rfl) (by show _ < 79; decide)
            obtain rfl : u53 = undef := g53
            obtain ⟨u54, g54, e54⟩ := hd 10 54 (by kernel_rfl) (by kernel_rfl) (by show _ < 79; decide)
            obtain rfl : u54 = undef := g54
            have hf := hE.func
            intro ug hgg
            obtain rfl : ug = .bool true := hgg
            exact ⟨fun h => (by cases h), fun _ => ⟨rfl, hI⟩⟩
          · obtain rfl := Option.some.inj ho
            intro ρ wi hE hI hs hd
            replace hI : (fun a => Below wr2.heap.size wr2 a) wi := hI
            obtain ⟨u55, g55, e55⟩ := hd 11 55 (by kernel_rfl) (by kernel_rfl) (by show _ < 79; decide)
            obtain rfl : u55 = undef := g55
            intro ug hgg
            obtain rfl : ug = .bool true := hgg
            exact ⟨fun h => (by cases h), fun _ => ⟨rfl, hI⟩⟩
          · obtain rfl := Option.some.inj ho
            intro ρ wi hE hI hs hd
            replace hI : (fun a => Below wr2.heap.size wr2 a) wi := hI
            obtain ⟨u48, g48, e48⟩ := hd 4 48 (by kernel_rfl) (by kernel_rfl) (by show _ < 79; decide)
            obtain rfl : u48 = .bool true := g48
            obtain ⟨u56, g56, e56⟩ := hd 12 56 (by kernel_rfl) (by kernel_rfl) (by show _ < 79; decide)
            obtain rfl : u56 = undef := g56
            have hc := hE.const
            exact Reg.Gives.value (v := .bool true) (w' := wi) (by go_simp) (Reg.OwedH.same hI rfl)
          · omega
        · intro V wa hV hI
          have hV13 : V 13 = .bool true := hV 13 (by decide) rfl
          simp only [Reg.putsO, List.foldl_cons, List.foldl_nil, Act.put, List.setIfInBounds_toArray, List.set_cons_succ, List.set_cons_zero, hV13]
          replace hI : (fun a => Below wr2.heap.size wr2 a) wa := hI
          clear hV hV13
          have HW := Lib.hid (HB3.out.trans (hI.mono HB3.out.size))
          clear hI
          go_wp2_with fail
          go_roundw
          case rel => exact ⟨k + 1, by omega, by go_num, rfl, HDD, HW.out⟩
          case measure => simp [intOf]; omega
    · exfalso
      obtain rfl : k = ss.length := by omega
      obtain ⟨x, h1, h2⟩ := HX.out
      have h3 := hd.out
      rw [List.take_length] at h3
      exact h3 x h1 h2
set_option maxHeartbeats 4000000 in
theorem good_walk (A0 : Option Addr) (ss : List ByteArray) (cap : Nat) (w : World) (hs : Strs w A0 ss) (hm : ss.length ≤ 40) (hx : ∀ x ∈ ss, dec x ≠ none) :
    Calls Try.prog 5 #[.slice A0 ss.length cap] w fun e w' => e = .returned (.bool true) ∧ Below w.heap.size w w' := by
  have HS := Lib.hid hs
  have HM := Lib.hid hm
  have HAL := Lib.hid (fun w' (hb : Below w.heap.size w w') => all_any A0 ss cap w' (hs.later hb) (by omega))
  have HX := Lib.hid hx
  clear hx
  clear hs
  go_enter Try.func5, Try.ntmps5
  go_wp2_with fail
  refine (rawake_any _).mono ?_
  rintro e w0 ⟨rfl, hb0⟩
  have HB0 := Lib.hid hb0
  clear hb0
  go_wp2_with fail
  refine (HAL.out _ HB0.out).mono ?_
  rintro e w1 ⟨hor, hb1⟩
  obtain ⟨v, ps, he, hps, hrow⟩ : ∃ v ps, e = .returned (.tuple #[v, .int .i64 0]) ∧ ps.map (·.1) = ss.map decR ∧ RecRow w1 w0.heap.size v ps := by
    rcases hor with ⟨_, h2⟩ | ⟨⟨x, h3, h4⟩, _⟩
    · exact h2
    · exact absurd h4 (HX.out x h3)
  subst he
  obtain ⟨A, c, hv, hcl⟩ := rec_cells hrow
  subst hv
  have HN0 : ps.length = ss.length := by
    have := congrArg List.length hps
    simpa using this
  obtain ⟨N, hN⟩ : ∃ N, ss.length = N := ⟨_, rfl⟩
  have HN := Lib.hid hN
  rw [hN] at hm
  rw [HN0, hN]
  have HPS := Lib.hid hps
  have HPL := Lib.hid HN0
  have HROW := Lib.hid hrow
  have HCL := Lib.hid hcl
  have HB1 := Lib.hid (HB0.out.trans (hb1.mono HB0.out.size))
  clear hor hb1 hps hrow hcl HN0 hN
  go_wp2_with fail
  go_loopw [5, 6, 7, 8, 9, 22] (fun n _ _ _ _ i wr => ∃ (k : Nat), k ≤ N ∧ i = .int .i64 (k : Int) ∧ n = .int .i64 (k : Int) ∧ Below w1.heap.size w1 wr) (fun _ _ _ _ _ i _ => N - (intOf i).toNat)
  case atStart => exact ⟨0, by omega, rfl, rfl, Below.refl _ _⟩
  case round =>
    obtain ⟨k, hk, rfl, rfl, hbr⟩ := hrel
    have HBR := Lib.hid hbr
    have HBW := Lib.hid (HB1.out.trans (hbr.mono HB1.out.size))
    by_cases hlt' : k < N
    · have hlt : k < ss.length := by have := HN.out; omega
      have hkp : k < ps.length := by have := HPL.out; omega
      obtain ⟨g, hg, hcell⟩ := HCL.out k hkp
      subst hg
      have HH := Lib.hid (HROW.out.each ps[k] (List.getElem_mem hkp)).1
      have HEQ : Hid (ps[k].1 = decR ss[k]) := Lib.hid (by
        have h1 : (ps.map (·.1))[k]? = (ss.map decR)[k]? := by rw [HPS.out]
        rw [List.getElem?_map, List.getElem?_map, List.getElem?_eq_getElem hkp, List.getElem?_eq_getElem hlt] at h1
        simpa using h1)
      have HCELL := Lib.hid hcell
      clear hcell
      obtain ⟨pr, hpr⟩ : ∃ pr, ps[k] = pr := ⟨_, rfl⟩
      rw [hpr] at HH HEQ HCELL
      clear hpr
      obtain ⟨R0, y0⟩ := pr
      simp only at HH HEQ HCELL
      have hbr2 := HBW.out
      obtain ⟨ad, rfl, hc, hsz⟩ := HS.out k hlt
      have hc2 := (hbr2.cell (block_of_cell hc)).trans hc
      have HNN := Lib.hid (HX.out _ (List.getElem_mem hlt))
      generalize ss[k] = s at *
      by_cases g1 : 5000 < s.size
      · clear hbr hbr2
        go_wp2_with fail
        go_returns
        exact ⟨rfl, HBW.out⟩
      have HRD := Lib.hid (refRead_any s wr (by omega))
      have HSO : Hid ((dec s).isSome = true) := Lib.hid (by
        have := HNN.out
        cases h : dec s with
        | none => exact absurd h this
        | some _ => rfl)
      rw [HSO.out, ← HEQ.out] at HRD
      have HFW : Hid (R0.few) := Lib.hid (by
        rw [HEQ.out]
        unfold decR
        cases h : dec s with
        | none => exact ⟨Nat.zero_le _, Nat.zero_le _⟩
        | some r => exact right_few (dec_back h).1)
      have HHW := Lib.hid (fun w' (hb : Below w1.heap.size w1 w') => HH.out.later hb)
      have HPL0 := Lib.hid (fun w' => plain_any R0 y0 w')
      have HSM0 := Lib.hid (fun y2 w' (h1 : Has w' R0 y0) (h2 : Has w' R0 y2) => same_any R0 R0 y0 y2 w' h1 h2 (Nat.le_trans HFW.out.items (by decide)) (Nat.le_trans HFW.out.nodes (by decide)))
      obtain ⟨rr, hrr⟩ : ∃ rr, rr = R0 := ⟨_, rfl⟩
      have hHas : ∀ w' y, Has w' rr y → Has w' R0 y := by intro w' y h; rw [← hrr]; exact h
      have hHas2 : ∀ w' y, Has w' R0 y → Has w' rr y := by intro w' y h; rw [hrr]; exact h
      have HHAS := Lib.hid hHas
      have HHAS2 := Lib.hid hHas2
      have HH2 : Hid (∀ w', Below w1.heap.size w1 w' → Has w' rr y0) := Lib.hid (fun w' hb => hHas2 _ _ (HHW.out w' hb))
      clear hHas hHas2 hrr HHW HH HEQ HNN HFW HSO hbr hbr2 hsz hc hkp hlt
      obtain ⟨k1, ⟨t1, t2, t3⟩, its, nds, a0, a1, a2, a3, a4, a5, a6, a7, yes⟩ := R0
      obtain ⟨A1, c1, B1, d1⟩ := y0
      obtain ⟨L, hLL⟩ : ∃ L, its.length = L := ⟨_, rfl⟩
      obtain ⟨M, hMM⟩ : ∃ M, nds.length = M := ⟨_, rfl⟩
      unfold Rc.vals at HCELL
      unfold Rc.val at HRD HPL0 HSM0
      simp only [hLL, hMM] at HRD HPL0 HSM0 HCELL
      clear hLL hMM
      go_wp2_with fail
      refine HRD.out.mono ?_
      rintro e w2 ⟨⟨y, rfl, hh2⟩, hb2⟩
      have HX2 := Lib.hid (HHAS2.out _ _ hh2)
      obtain ⟨A2, c2, B2, d2⟩ := y
      have hb3 := below_alloc w2 (.cells #[.int .i64 k1, .int .i64 t1, .int .i64 t2, .int .i64 t3, .slice A2 L c2, .slice B2 M d2, .int .i64 a0, .int .i64 a1, .int .i64 a2, .int .i64 a3, .int .i64 a4, .int .i64 a5, .int .i64 a6, .int .i64 a7, .bool yes] 39)
      have HB3 := Lib.hid ((HBR.out.trans (hb2.mono HBR.out.size)).trans (hb3.mono (by have := HBR.out.size; have := hb2.size; omega)))
      have HD3 := Lib.hid (cells_new w2 39 _ #[.int .i64 k1, .int .i64 t1, .int .i64 t2, .int .i64 t3, .slice A2 L c2, .slice B2 M d2, .int .i64 a0, .int .i64 a1, .int .i64 a2, .int .i64 a3, .int .i64 a4, .int .i64 a5, .int .i64 a6, .int .i64 a7, .bool yes] rfl)
      have HX3 := Lib.hid (HX2.out.later hb3)
      obtain ⟨wr2, hwr2⟩ : ∃ v, v = w2.alloc (.cells #[.int .i64 k1, .int .i64 t1, .int .i64 t2, .int .i64 t3, .slice A2 L c2, .slice B2 M d2, .int .i64 a0, .int .i64 a1, .int .i64 a2, .int .i64 a3, .int .i64 a4, .int .i64 a5, .int .i64 a6, .int .i64 a7, .bool yes] 39) := ⟨_, rfl⟩
      rw [← hwr2] at HB3 HD3 HX3
      have HQ7 : Hid (∀ wi, Below wr2.heap.size wr2 wi → Cells wi w2.heap.size 39 _) := Lib.hid (fun wi hi => HD3.out.later hi)
      have HCE : Hid (∀ wi, Below wr2.heap.size wr2 wi → ∀ j u, ([.int .i64 k1, .int .i64 t1, .int .i64 t2, .int .i64 t3, .slice A1 L c1, .slice B1 M d1, .int .i64 a0, .int .i64 a1, .int .i64 a2, .int .i64 a3, .int .i64 a4, .int .i64 a5, .int .i64 a6, .int .i64 a7, .bool yes] : List Value)[j]? = some u → wi.cell? ⟨g, k * 15 + j, none⟩ = some u) := Lib.hid (fun wi hi j u hu => by
        have h1 := HCELL.out j u hu
        have h2 := HB3.out.trans (hi.mono HB3.out.size)
        exact (h2.cell (block_of_cell h1)).trans h1)
      have HPL := Lib.hid (fun w' => HPL0.out w')
      have HSM := Lib.hid (fun w' (hb : Below wr2.heap.size wr2 w') => HSM0.out ⟨A2, c2, B2, d2⟩ w' (HHAS.out _ _ (HH2.out _ (HB3.out.trans (hb.mono HB3.out.size)))) (HHAS.out _ _ (HX3.out.later hb)))
      have HKN : Hid (k < N) := Lib.hid hlt'
      have HKI : Hid (¬ (N : Int) ≤ (k : Int)) := Lib.hid (by omega)
      have HKT : Hid ((k : Int).toNat = k) := Lib.hid (by omega)
      clear hb2 hb3 hh2 HX2 HD3 hc2
      simp only
      go_upto_region 15 with (fail)
      rw [← hwr2]
      clear hwr2
      refine Reg.region_heavy (by kernel_rfl) 13 [13] (rLawA (.agg #[.int .i64 k1, .int .i64 t1, .int .i64 t2, .int .i64 t3, .slice A1 L c1, .slice B1 M d1, .int .i64 a0, .int .i64 a1, .int .i64 a2, .int .i64 a3, .int .i64 a4, .int .i64 a5, .int .i64 a6, .int .i64 a7, .bool yes]) (.agg #[.int .i64 k1, .int .i64 t1, .int .i64 t2, .int .i64 t3, .slice A2 L c2, .slice B2 M d2, .int .i64 a0, .int .i64 a1, .int .i64 a2, .int .i64 a3, .int .i64 a4, .int .i64 a5, .int .i64 a6, .int .i64 a7, .bool yes]) g k N c) (fun a => Below wr2.heap.size wr2 a) (fun a => Below wr2.heap.size wr2 a) (fun V => [(some 44, V 0), (some 45, V 1), (some 46, V 2), (some 47, V 3), (some 48, V 4), (some 49, V 5), (some 50, V 6), (some 51, V 7), (some 52, V 8), (some 53, V 9), (some 54, V 10), (some 55, V 11), (some 56, V 12), (some 57, V 13)]) (by kernel_rfl) (by kernel_rfl) (by kernel_rfl) (fun V => rfl) ?_ ?_ ?_
      · exact (Below.refl _ _).drew
      · intro i o ho
        have hi : i < 14 := (Array.getElem?_eq_some_iff.1 ho).1
        rcases i with _ | _ | _ | _ | _ | _ | _ | _ | _ | _ | _ | _ | _ | _ | i
        · obtain rfl := Option.some.inj ho
          intro ρ wi hE hI hs hd
          replace hI : (fun a => Below wr2.heap.size wr2 a) wi := hI
          have e6 : ρ (.tmp 6) = .int .i64 (k : Int) := hs 6 (by kernel_rfl)
          exact Reg.Gives.value (v := .int .i64 (k : Int)) (w' := wi) (by go_simp) (Reg.OwedH.same hI rfl)
        · obtain rfl := Option.some.inj ho
          intro ρ wi hE hI hs hd
          replace hI : (fun a => Below wr2.heap.size wr2 a) wi := hI
          have e3 : ρ (.tmp 3) = .slice (some ⟨g, 0, none⟩) N c := hs 3 (by kernel_rfl)
          exact Reg.Gives.value (v := .slice (some ⟨g, 0, none⟩) N c) (w' := wi) (by go_simp) (Reg.OwedH.same hI rfl)
        · obtain rfl := Option.some.inj ho
          intro ρ wi hE hI hs hd
          replace hI : (fun a => Below wr2.heap.size wr2 a) wi := hI
          obtain ⟨u45, g45, e45⟩ := hd 1 45 (by kernel_rfl) (by kernel_rfl) (by show _ < 79; decide)
          obtain rfl : u45 = .slice (some ⟨g, 0, none⟩) N c := g45
          exact Reg.Gives.value (v := .int .i64 (N : Int)) (w' := wi) (by go_simp) (Reg.OwedH.same hI rfl)
        · obtain rfl := Option.some.inj ho
          intro ρ wi hE hI hs hd
          replace hI : (fun a => Below wr2.heap.size wr2 a) wi := hI
          obtain ⟨u44, g44, e44⟩ := hd 0 44 (by kernel_rfl) (by kernel_rfl) (by show _ < 79; decide)
          obtain rfl : u44 = .int .i64 (k : Int) := g44
          obtain ⟨u46, g46, e46⟩ := hd 2 46 (by kernel_rfl) (by kernel_rfl) (by show _ < 79; decide)
          obtain rfl : u46 = .int .i64 (N : Int) := g46
          have hx1 := HKN.out
          have hx2 := HKI.out
          exact Reg.Gives.value (v := .bool false) (w' := wi) (by go_simp) (Reg.OwedH.same hI rfl)
        · obtain rfl := Option.some.inj ho
          intro ρ wi hE hI hs hd
          replace hI : (fun a => Below wr2.heap.size wr2 a) wi := hI
          obtain ⟨u47, g47, e47⟩ := hd 3 47 (by kernel_rfl) (by kernel_rfl) (by show _ < 79; decide)
          obtain rfl : u47 = .bool false := g47
          exact Reg.Gives.value (v := .bool false) (w' := wi) (by go_simp) (Reg.OwedH.same hI rfl)
        · obtain rfl := Option.some.inj ho
          intro ρ wi hE hI hs hd
          replace hI : (fun a => Below wr2.heap.size wr2 a) wi := hI
          have e3 : ρ (.tmp 3) = .slice (some ⟨g, 0, none⟩) N c := hs 3 (by kernel_rfl)
          intro ug hgg
          obtain rfl : ug = .bool false := hgg
          refine ⟨fun _ => ?_, fun h => absurd rfl h⟩
          exact Reg.Gives.value (v := .slice (some ⟨g, 0, none⟩) N c) (w' := wi) (by go_simp) (Reg.OwedH.same hI rfl)
        · obtain rfl := Option.some.inj ho
          intro ρ wi hE hI hs hd
          replace hI : (fun a => Below wr2.heap.size wr2 a) wi := hI
          have e6 : ρ (.tmp 6) = .int .i64 (k : Int) := hs 6 (by kernel_rfl)
          intro ug hgg
          obtain rfl : ug = .bool false := hgg
          refine ⟨fun _ => ?_, fun h => absurd rfl h⟩
          exact Reg.Gives.value (v := .int .i64 (k : Int)) (w' := wi) (by go_simp) (Reg.OwedH.same hI rfl)
        · obtain rfl := Option.some.inj ho
          intro ρ wi hE hI hs hd
          replace hI : (fun a => Below wr2.heap.size wr2 a) wi := hI
          obtain ⟨u49, g49, e49⟩ := hd 5 49 (by kernel_rfl) (by kernel_rfl) (by show _ < 79; decide)
          obtain rfl : u49 = .slice (some ⟨g, 0, none⟩) N c := g49
          obtain ⟨u50, g50, e50⟩ := hd 6 50 (by kernel_rfl) (by kernel_rfl) (by show _ < 79; decide)
          obtain rfl : u50 = .int .i64 (k : Int) := g50
          intro ug hgg
          obtain rfl : ug = .bool false := hgg
          refine ⟨fun _ => ?_, fun h => absurd rfl h⟩
          have hx1 := HKN.out
          have hx3 := HKT.out
          exact Reg.Gives.value (v := .pointer (some ⟨g, k * 15, none⟩)) (w' := wi) (by go_simp) (Reg.OwedH.same hI rfl)
        · obtain rfl := Option.some.inj ho
          intro ρ wi hE hI hs hd
          replace hI : (fun a => Below wr2.heap.size wr2 a) wi := hI
          obtain ⟨u51, g51, e51⟩ := hd 7 51 (by kernel_rfl) (by kernel_rfl) (by show _ < 79; decide)
          obtain rfl : u51 = .pointer (some ⟨g, k * 15, none⟩) := g51
          intro ug hgg
          obtain rfl : ug = .bool false := hgg
          refine ⟨fun _ => ?_, fun h => absurd rfl h⟩
          have hcq := HCE.out wi hI
          have q0 : wi.cell? ⟨g, k * 15, none⟩ = _ := hcq 0 _ rfl
          have q1 := hcq 1 _ rfl
          have q2 := hcq 2 _ rfl
          have q3 := hcq 3 _ rfl
          have q4 := hcq 4 _ rfl
          have q5 := hcq 5 _ rfl
          have q6 := hcq 6 _ rfl
          have q7 := hcq 7 _ rfl
          have q8 := hcq 8 _ rfl
          have q9 := hcq 9 _ rfl
          have q10 := hcq 10 _ rfl
          have q11 := hcq 11 _ rfl
          have q12 := hcq 12 _ rfl
          have q13 := hcq 13 _ rfl
          have q14 := hcq 14 _ rfl
          exact Reg.Gives.value (v := (.agg #[.int .i64 k1, .int .i64 t1, .int .i64 t2, .int .i64 t3, .slice A1 L c1, .slice B1 M d1, .int .i64 a0, .int .i64 a1, .int .i64 a2, .int .i64 a3, .int .i64 a4, .int .i64 a5, .int .i64 a6, .int .i64 a7, .bool yes])) (w' := wi) (by go_simp) (Reg.OwedH.same hI rfl)
        · obtain rfl := Option.some.inj ho
          intro ρ wi hE hI hs hd
          replace hI : (fun a => Below wr2.heap.size wr2 a) wi := hI
          obtain ⟨u52, g52, e52⟩ := hd 8 52 (by kernel_rfl) (by kernel_rfl) (by show _ < 79; decide)
          obtain rfl : u52 = (.agg #[.int .i64 k1, .int .i64 t1, .int .i64 t2, .int .i64 t3, .slice A1 L c1, .slice B1 M d1, .int .i64 a0, .int .i64 a1, .int .i64 a2, .int .i64 a3, .int .i64 a4, .int .i64 a5, .int .i64 a6, .int .i64 a7, .bool yes]) := g52
          have hf := hE.func
          intro ug hgg
          obtain rfl : ug = .bool false := hgg
          refine ⟨fun _ => ?_, fun h => absurd rfl h⟩
          refine Reg.Gives.call (f := 19) (args := #[.agg #[.int .i64 k1, .int .i64 t1, .int .i64 t2, .int .i64 t3, .slice A1 L c1, .slice B1 M d1, .int .i64 a0, .int .i64 a1, .int .i64 a2, .int .i64 a3, .int .i64 a4, .int .i64 a5, .int .i64 a6, .int .i64 a7, .bool yes]]) (w' := wi) (by go_simp) ?_
          refine (HPL.out wi).mono ?_
          rintro e w'' ⟨rfl, hbb⟩
          exact ⟨_, rfl, ⟨rfl, hI.trans (hbb.mono hI.size), fun j u _ _ h => rLawA_later hbb h⟩⟩
        · obtain rfl := Option.some.inj ho
          intro ρ wi hE hI hs hd
          replace hI : (fun a => Below wr2.heap.size wr2 a) wi := hI
          have e8 : ρ (.tmp 8) = .pointer (some ⟨w2.heap.size, 0, none⟩) := hs 8 (by kernel_rfl)
          intro ug hgg
          obtain rfl : ug = .bool false := hgg
          refine ⟨fun _ => ?_, fun h => absurd rfl h⟩
          have hcq := HQ7.out wi hI
          have q0 := hcq.cell (j := 0) rfl
          have q1 := hcq.cell (j := 1) rfl
          have q2 := hcq.cell (j := 2) rfl
          have q3 := hcq.cell (j := 3) rfl
          have q4 := hcq.cell (j := 4) rfl
          have q5 := hcq.cell (j := 5) rfl
          have q6 := hcq.cell (j := 6) rfl
          have q7 := hcq.cell (j := 7) rfl
          have q8 := hcq.cell (j := 8) rfl
          have q9 := hcq.cell (j := 9) rfl
          have q10 := hcq.cell (j := 10) rfl
          have q11 := hcq.cell (j := 11) rfl
          have q12 := hcq.cell (j := 12) rfl
          have q13 := hcq.cell (j := 13) rfl
          have q14 := hcq.cell (j := 14) rfl
          exact Reg.Gives.value (v := (.agg #[.int .i64 k1, .int .i64 t1, .int .i64 t2, .int .i64 t3, .slice A2 L c2, .slice B2 M d2, .int .i64 a0, .int .i64 a1, .int .i64 a2, .int .i64 a3, .int .i64 a4, .int .i64 a5, .int .i64 a6, .int .i64 a7, .bool yes])) (w' := wi) (by go_simp) (Reg.OwedH.same hI rfl)
        · obtain rfl := Option.some.inj ho
          intro ρ wi hE hI hs hd
          replace hI : (fun a => Below wr2.heap.size wr2 a) wi := hI
          obtain ⟨u53, g53, e53⟩ := hd 9 53 (by kernel_rfl) (by kernel_rfl) (by show _ < 79; decide)
          obtain rfl : u53 = (.agg #[.int .i64 k1, .int .i64 t1, .int .i64 t2, .int .i64 t3, .slice A1 L c1, .slice B1 M d1, .int .i64 a0, .int .i64 a1, .int .i64 a2, .int .i64 a3, .int .i64 a4, .int .i64 a5, .int .i64 a6, .int .i64 a7, .bool yes]) := g53
          obtain ⟨u54, g54, e54⟩ := hd 10 54 (by kernel_rfl) (by kernel_rfl) (by show _ < 79; decide)
          obtain rfl : u54 = (.agg #[.int .i64 k1, .int .i64 t1, .int .i64 t2, .int .i64 t3, .slice A2 L c2, .slice B2 M d2, .int .i64 a0, .int .i64 a1, .int .i64 a2, .int .i64 a3, .int .i64 a4, .int .i64 a5, .int .i64 a6, .int .i64 a7, .bool yes]) := g54
          have hf := hE.func
          intro ug hgg
          obtain rfl : ug = .bool false := hgg
          refine ⟨fun _ => ?_, fun h => absurd rfl h⟩
          refine Reg.Gives.call (f := 18) (args := #[.agg #[.int .i64 k1, .int .i64 t1, .int .i64 t2, .int .i64 t3, .slice A1 L c1, .slice B1 M d1, .int .i64 a0, .int .i64 a1, .int .i64 a2, .int .i64 a3, .int .i64 a4, .int .i64 a5, .int .i64 a6, .int .i64 a7, .bool yes], .agg #[.int .i64 k1, .int .i64 t1, .int .i64 t2, .int .i64 t3, .slice A2 L c2, .slice B2 M d2, .int .i64 a0, .int .i64 a1, .int .i64 a2, .int .i64 a3, .int .i64 a4, .int .i64 a5, .int .i64 a6, .int .i64 a7, .bool yes]]) (w' := wi) (by go_simp) ?_
          refine (HSM.out wi hI).mono ?_
          rintro e w'' ⟨⟨v', rfl, hv'⟩, hbb⟩
          obtain rfl : v' = true := hv'.2 (by trivial)
          exact ⟨_, rfl, ⟨rfl, hI.trans (hbb.mono hI.size), fun j u _ _ h => rLawA_later hbb h⟩⟩
        · obtain rfl := Option.some.inj ho
          intro ρ wi hE hI hs hd
          replace hI : (fun a => Below wr2.heap.size wr2 a) wi := hI
          obtain ⟨u55, g55, e55⟩ := hd 11 55 (by kernel_rfl) (by kernel_rfl) (by show _ < 79; decide)
          obtain rfl : u55 = .bool true := g55
          intro ug hgg
          obtain rfl : ug = .bool false := hgg
          refine ⟨fun _ => ?_, fun h => absurd rfl h⟩
          exact Reg.Gives.value (v := .bool false) (w' := wi) (by go_simp) (Reg.OwedH.same hI rfl)
        · obtain rfl := Option.some.inj ho
          intro ρ wi hE hI hs hd
          replace hI : (fun a => Below wr2.heap.size wr2 a) wi := hI
          obtain ⟨u48, g48, e48⟩ := hd 4 48 (by kernel_rfl) (by kernel_rfl) (by show _ < 79; decide)
          obtain rfl : u48 = .bool false := g48
          obtain ⟨u56, g56, e56⟩ := hd 12 56 (by kernel_rfl) (by kernel_rfl) (by show _ < 79; decide)
          obtain rfl : u56 = .bool false := g56
          have hc := hE.const
          exact Reg.Gives.value (v := .bool false) (w' := wi) (by go_simp) (Reg.OwedH.same hI rfl)
        · omega
      · intro V wa hV hI
        have hV13 : V 13 = .bool false := hV 13 (by decide) rfl
        simp only [Reg.putsO, List.foldl_cons, List.foldl_nil, Act.put, List.setIfInBounds_toArray, List.set_cons_succ, List.set_cons_zero, hV13]
        replace hI : (fun a => Below wr2.heap.size wr2 a) wa := hI
        clear hV hV13
        have HW := Lib.hid (HB3.out.trans (hI.mono HB3.out.size))
        clear hI
        go_wp2_with fail
        go_roundw
        case rel => exact ⟨k + 1, by omega, by go_num, by go_num, HW.out⟩
        case measure => simp [intOf]; omega
    · obtain rfl : k = N := by omega
      clear hbr
      go_wp2_with fail
      go_returns
      exact ⟨rfl, HBW.out⟩
theorem long_walk (A0 : Option Addr) (ss : List ByteArray) (cap : Nat) (w : World) (hm : 40 < ss.length) :
    Calls Try.prog 5 #[.slice A0 ss.length cap] w fun e w' => e = .returned (.bool true) ∧ Below w.heap.size w w' := by
  go_enter Try.func5, Try.ntmps5
  go_wp2_with fail
  refine (rawake_any _).mono ?_
  rintro e w0 ⟨rfl, hb0⟩
  have HB0 := Lib.hid hb0
  clear hb0
  go_wp2_with fail
  go_returns
  exact ⟨rfl, HB0.out⟩
theorem opened {H : Type} {enc : TypeId × Value → H} {W : World} {base : Nat} {gs : List (DataW H)} (v0 : Value) (d0 : DataW H) (p0 : List MemPlace)
    (o0 : Value.okWide Try.prog W .any base 47 v0) (t0 : DataW.Trod enc Try.prog W 0 (fun _ => true) true 47 v0 d0 p0)
    (hsz : (DataW.weightsEach Try.prog ([47] ++ []) ([d0] ++ gs)).all (· ≤ reachBytes) = true) :
    Calls Try.prog 5 #[v0] W fun e W' => e = .returned (.bool true) ∧ Below W.heap.size W W' := by
  obtain ⟨A, ss, cap, rfl, hs, _, _⟩ := open_texts (j := 0) o0 t0 hsz rfl rfl
  by_cases hl : 40 < ss.length
  · exact long_walk A ss cap W hl
  by_cases hx : ∃ x ∈ ss, dec x = none
  · exact bad_walk A ss cap W hs (by omega) hx
  · exact good_walk A ss cap W hs (by omega) fun x h e => hx ⟨x, h, e⟩

theorem contract (H : Type) (enc : TypeId × Value → H) (W : World) (base : Nat) (args : Array Value) (ds gs : List (DataW H)) (before : List MemPlace)
    (hval : ∀ (j : Nat) t v, Try.f5.params[j]? = some t → args[j]? = some v → Value.okWide Try.prog W .any base t v)
    (hW : DataW.Whole enc Try.prog Try.f5.params.toList Rows.recordAllSpec.vars false W args.toList ds gs before)
    (hsz : (DataW.weightsEach Try.prog (Try.f5.params.toList ++ []) (ds ++ gs)).all (· ≤ reachBytes) = true) :
    Calls Try.prog 5 args W fun e W' => ∃ v, e = .returned v ∧ Rows.recordAllSpec.post enc Try.prog Try.f5 false true false false W args v W' := by
  have hW0 := hW
  obtain ⟨p, q, hA0, hV, rfl, _, _⟩ := hW
  have hA : DataW.TrodAll enc Try.prog W 0 (fun _ => true) true Try.f5.params.toList args.toList ds p := hA0
  rw [Try.params5] at hA hval hsz
  obtain ⟨v0, vs0, d0, ds0, p0, q0, hargs, rfl, rfl, h0, r0⟩ := trodAll_cons hA
  obtain ⟨rfl, rfl, rfl⟩ := trodAll_nil r0
  obtain rfl : args = #[v0] := by cases args; simp_all
  refine (opened v0 d0 p0 (hval 0 47 v0 rfl rfl) h0 hsz).mono fun e W' ⟨he, hb⟩ => ⟨_, he, ?_⟩
  exact Base.law_post (tb := 4) Base.laidOut (by kernel_rfl) rfl Try.underlying4 rfl (fun l hl => by
    rw [Try.params5] at hl
    match l, hl with
    | [_], _ => rfl) (by rw [Try.params5]; rfl) hW0 hb

theorem laid_met (os : Os) : laidMet Try.prog Rows.recordAllRow.laid ((Base.plainWorld os).forCall (fun _ _ => 0) ⟨#[], #[.slice none 0 0], []⟩).memory := laidMet_nil _ _
theorem reads (os : Os) {H : Type} (enc : TypeId × Value → H) : ∃ places, DataW.whole enc Try.prog ((Base.plainWorld os).forCall (fun _ _ => 0) ⟨#[], #[.slice none 0 0], []⟩).memory Try.f5.params.toList Rows.recordAllSpec.vars false (#[.slice none 0 0] : Array Value).toList 8 = some ([.nil], [], places) :=
  ⟨[], by kernel_rfl⟩

set_option maxRecDepth 100000 in
theorem lifted (os : Os) (started : os.Started) (H : Type) (enc : TypeId × Value → H) (F : Stop.Interp) :
    ReturnsInHanded {} Try.checked os 5 .any ((OpenSpec.ofChange Rows.recordAllSpec).preRow enc Try.prog Try.f5 Rows.recordAllRow.domain false Rows.recordAllRow.laid) (((OpenSpec.ofChange Rows.recordAllSpec).at F).post enc Try.prog Try.f5 false true false false) := by
  obtain ⟨places, hx⟩ := reads os enc
  refine returnsInHanded_of_row (C := Try.checked) (s := OpenSpec.ofChange Rows.recordAllSpec) Base.own started (by kernel_rfl) Try.func5
    (witness_row_at (enc := enc) (C := Try.checked) false (Base.plainWorld os) #[.slice none 0 0] rfl (by kernel_rfl) (by kernel_rfl) (by kernel_rfl)
      (OpenSpec.preRow_of_cond 8 hx (by kernel_rfl) (fun k hk => by cases hk) (by kernel_rfl) (laid_met os))) ?_
  intro W base args ds gs before hval hW _ _ hsz _ _ _
  exact contract H enc W base args ds gs before hval hW hsz

theorem said : Rows.RecordAllSaid :=
  OpenClaim.holds_of_cond 5 Try.f5 rfl rfl rfl rfl rfl rfl rfl ⟨rfl, rfl, rfl, rfl, rfl⟩ rfl rfl rfl rfl rfl (by kernel_rfl) Try.func5 (by kernel_rfl)
    (of_decide_eq_true (by kernel_rfl)) (by unfold Func.isWrapper; rw [if_neg (of_decide_eq_false (by kernel_rfl))]; exact ⟨rfl, rfl⟩)
    (fun os started H enc _ F => by rw [OpenClaim.pre_eq_preRow]; exact lifted os started H enc F)
#print axioms said
end Go.Proofs.Ytdmekfeggdodnaa.RecordAll
