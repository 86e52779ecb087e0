/-
  Layer 11: Take, Double. Conditions: none.
-/
import Derived.Test.YtfhcfiebhagbeaaNetDel
namespace Go.Proofs.Ytfhcfiebhagbeaa.Net
set_option maxRecDepth 100000
open Go.RowKit Go.Deep Go.Proofs.Ytfhcfiebhagbeaa.Mem

theorem Take_nil (w : World) (i : Int) : Calls Try.prog 14 #[.pointer none, .int .i64 i] w fun e w' => e = .returned (.tuple #[pk0.val, .int .i64 8]) ∧ Below w.heap.size w w' := by
  have hb := below_alloc w (.cells #[.int .i64 0, .int .i64 0, .string ⟨#[]⟩, .bool false] 39)
  have HC := Lib.hid (has_nil (w.alloc (.cells #[.int .i64 0, .int .i64 0, .string ⟨#[]⟩, .bool false] 39)) i)
  have HB := Lib.hid hb
  unfold pk0 Pk.val
  clear hb
  go_enter Try.func14, Try.ntmps14
  go_wp2_with fail
  refine HC.out.mono ?_
  rintro e w2 ⟨rfl, rfl⟩
  go_wp2_with fail
  go_returns
  exact ⟨rfl, HB.out⟩
theorem Double_nil (w : World) (i : Int) : Calls Try.prog 16 #[.pointer none, .int .i64 i] w fun e w' => e = .returned (.int .i64 8) ∧ w' = w := by
  have HC := Lib.hid (has_nil w i)
  go_enter Try.func16, Try.ntmps16
  go_wp2_with fail
  refine HC.out.mono ?_
  rintro e w2 ⟨rfl, rfl⟩
  go_wp2_with fail
  go_returns
  exact ⟨rfl, rfl⟩
section
variable {base b m c : Nat} {w : World} {N : Nt} {A : Option Addr}
/-- The packets under way lie in a row. -/
theorem NetAt.addr (h : NetAt base w b m N A c) (hk : 0 < N.fl.length) : ∃ g, A = some ⟨g, 0, none⟩ := by
  rcases h.row.2 with ⟨_, e⟩ | ⟨g, cap, cur, e, _⟩
  · omega
  · simp only [Value.slice.injEq] at e
    exact ⟨g, e.1⟩
theorem NetAt.at (h : NetAt base w b m N A c) {g k : Nat} (hA : A = some ⟨g, 0, none⟩) {p : Pk} (hp : N.fl[k]? = some p) : w.rangeAt g (k * 4) p.vals := by
  subst hA
  obtain ⟨hc, _⟩ := cells_of_own h.row
  obtain ⟨hk, e⟩ := List.getElem?_eq_some_iff.1 hp
  intro j v hv
  refine hc.cell ?_
  have hj : j < 4 := (List.getElem?_eq_some_iff.1 hv).1
  rw [flatten_at (sz := 4) (fit_pks N.fl).len k (by rw [List.length_map]; exact hk) j hj, List.getElem_map, e]
  exact hv
end
theorem hasN_spec {N : Nt} {i : Int} (h : hasN N i = true) : ∃ (k : Nat) (p : Pk), i = (k : Int) ∧ k < N.fl.length ∧ N.fl[k]? = some p := by
  unfold hasN at h
  simp only [Bool.and_eq_true, decide_eq_true_eq] at h
  obtain ⟨k, rfl⟩ := Int.eq_ofNat_of_zero_le h.1
  have hk : k < N.fl.length := by omega
  exact ⟨k, N.fl[k], rfl, hk, List.getElem?_eq_getElem hk⟩
def rm {α : Type} (l : List α) (k : Nat) : List α := l.take k ++ l.drop (k + 1)
theorem rm_len {α : Type} {l : List α} {k : Nat} (h : k < l.length) : (rm l k).length = l.length - 1 := by unfold rm; simp; omega
theorem rm_map {α β : Type} (f : α → β) (l : List α) (k : Nat) : (rm l k).map f = (l.map f).take k ++ (l.map f).drop (k + 1) := by unfold rm; simp
theorem rm_mem {α : Type} {l : List α} {k : Nat} {x : α} (h : x ∈ rm l k) : x ∈ l := by
  rcases List.mem_append.1 h with h | h
  · exact List.mem_of_mem_take h
  · exact List.mem_of_mem_drop h
/-- A packet is taken: it, the error's number, the net behind it. -/
def takeN (N : Nt) (i : Int) : Pk × Int × Nt := if hasN N i then ((N.fl[i.toNat]?).getD pk0, 0, { N with fl := rm N.fl i.toNat }) else (pk0, 8, N)
set_option maxHeartbeats 2000000 in
theorem Take_any {base b m c : Nat} {w : World} {N : Nt} {A : Option Addr} (h : NetAt base w b m N A c) (i : Int) :
    Calls Try.prog 14 #[.pointer (some ⟨b, 0, none⟩), .int .i64 i] w fun e w' => e = .returned (.tuple #[(takeN N i).1.val, .int .i64 (takeN N i).2.1]) ∧ NStep base b m A w (takeN N i).2.2 w' := by
  obtain ⟨wa, hwa⟩ : ∃ W, W = w.alloc (.cells #[.int .i64 0, .int .i64 0, .string ⟨#[]⟩, .bool false] 39) := ⟨_, rfl⟩
  have hba : Below w.heap.size w wa := by rw [hwa]; exact below_alloc _ _
  have hca : Cells wa w.heap.size 39 pk0.vals := by rw [hwa]; exact cells_new _ _ _ _ rfl
  have hsa : wa.heap.size = w.heap.size + 1 := by rw [hwa]; exact World.size_alloc _ _
  have HN := Lib.hid (h.later hba)
  have HC := Lib.hid (has_any HN.out i)
  have HB := Lib.hid hba
  unfold takeN
  cases hh : hasN N i with
  | false =>
    rw [hh] at HC
    simp only [Bool.false_eq_true, if_false]
    clear h hba hca hsa hh
    unfold pk0 Pk.val
    go_enter Try.func14, Try.ntmps14
    go_wp2_with fail
    rw [← hwa]
    refine HC.out.mono ?_
    rintro e w2 ⟨rfl, rfl⟩
    have HWA := Lib.hid hwa
    rw [hwa]
    clear hwa
    go_wp2_with fail
    go_returns
    exact ⟨rfl, by rw [← HWA.out]; exact NStep.before HB.out (NStep.same HN.out (Below.refl _ _))⟩
  | true =>
    rw [hh] at HC
    simp only [if_true]
    obtain ⟨k, p, rfl, hk, hp⟩ := hasN_spec hh
    rw [Int.toNat_natCast, hp, Option.getD_some]
    obtain ⟨g, rfl⟩ := h.addr (by omega)
    have hr := HN.out.at rfl hp
    have x0 := hr 0 _ rfl
    rw [Nat.add_zero] at x0
    have x1 := hr 1 _ rfl
    have x2 := hr 2 _ rfl
    have x3 := hr 3 _ rfl
    have c2 := HN.out.cel.cell (j := 2) rfl
    obtain ⟨wb, hwb⟩ : ∃ W, W = wa.alloc (.cells #[.int .i64 p.src, .int .i64 p.dst, .string p.bytes, .bool p.spoilt] 39) := ⟨_, rfl⟩
    have hbb : Below wa.heap.size wa wb := by rw [hwb]; exact below_alloc _ _
    have hcb : Cells wb wa.heap.size 39 p.vals := by rw [hwb]; exact cells_new _ _ _ _ rfl
    rw [hsa] at hcb
    have hnb := HN.out.later hbb
    have hcab := hca.later hbb
    have c2b := hnb.cel.cell (j := 2) rfl
    have hD := Delete_any (vs := N.fl.map Pk.vals) (by simpa using hnb.row) (fit_pks _) (i := k) (by simpa using hk) (by rw [List.length_map]; have := hnb.len; omega)
    rw [List.length_map] at hD
    have HD := Lib.hid hD
    have HNB := Lib.hid hnb
    have HCB := Lib.hid hcb
    have HCA := Lib.hid hcab
    have HS := Lib.hid hsa
    have HK := Lib.hid hk
    have HH := Lib.hid h
    have HBB := Lib.hid (HB.out.trans (hbb.mono HB.out.size))
    obtain ⟨n, hn⟩ : ∃ n, N.fl.length = n := ⟨_, rfl⟩
    rw [hn] at c2 c2b HD hk
    have hN2 : n ≤ 256 := by rw [← hn]; exact hnb.len
    have HNL := Lib.hid hn
    clear h hba hca hh hp hr hbb hcb hnb hcab hD hn
    go_enter Try.func14, Try.ntmps14
    go_wp2_with fail
    rw [← hwa]
    refine HC.out.mono ?_
    rintro e w2 ⟨rfl, rfl⟩
    clear HC hwa
    go_upto_region 4 with (fail)
    rw [← hwb]
    clear hwb x0 x1 x2 x3 c2
    go_wp2_with fail
    refine HD.out.mono ?_
    rintro e w3 ⟨rfl, hrow, ho⟩
    have hg : g < w.heap.size := (HH.out.lt (Or.inr (Or.inr rfl))).2
    have hc3 := cells_only HNB.out.cel ho fun e => HNB.out.bA (by rw [e]; rfl)
    have c2 := hc3.cell (j := 2) rfl
    rw [HNL.out] at c2
    have f2 := hc3.frozen (j := 2) (by simp)
    obtain ⟨w4, hw4⟩ : ∃ W, W = w3.setCell ⟨b, 2, none⟩ (.slice (some ⟨g, 0, none⟩) (n - 1) c) := ⟨_, rfl⟩
    have o4 : Only (fun k => k = b) w3 w4 := by rw [hw4]; exact Only.of_set w3 ⟨b, 2, none⟩ _
    have hlen : (rm N.fl k).length = n - 1 := by rw [rm_len HK.out, HNL.out]
    have hst := HNB.out.newRow' (A' := some ⟨g, 0, none⟩) (c' := c) (fl := rm N.fl k) (by rw [hlen, rm_map]; exact hrow) (ho.mono fun k _ e => by rw [e]; rfl) (fun k e => Or.inl e) (by omega) (fun q hq => HNB.out.pks q (rm_mem hq))
      (by rw [hw4, hlen]; exact hc3.set_ 2 _) o4
    have hb1 : b < w.heap.size := (HH.out.lt (Or.inl rfl)).2
    have HST := Lib.hid (And.intro hst.1 ((Only.of_below HBB.out).trans hst.2 fun _ _ e => e))
    have HFT : Hid (∀ k, foot b m (some ⟨g, 0, none⟩) k → k < w.heap.size) := Lib.hid fun k e => (HH.out.lt e).2
    have k6 := cells_only (cells_only HCB.out ho fun e => by omega) o4 fun e => by omega
    have k4 := cells_only (cells_only HCA.out ho fun e => by omega) o4 fun e => by omega
    have HK6 := Lib.hid k6
    have HK4 := Lib.hid k4
    have HBW : Hid (w.heap.size ≤ w4.heap.size) := Lib.hid (Nat.le_trans HBB.out.size (Nat.le_trans ho.size o4.size))
    clear hc3 o4 hst k4 k6 ho hrow hg hb1 hlen HD HNB HCA HK HH HBB HNL HN HCB HS HB
    go_upto_region 5 with (fail)
    rw [← hw4]
    clear hw4 c2 f2
    apply wp_region_lit
    refine wpList_load_cells rfl 39 _ rfl (w.heap.size + 1) #[.int .i64 p.src, .int .i64 p.dst, .string p.bytes, .bool p.spoilt] rfl rfl HK6.out Try.underlying39 rfl (by kernel_rfl) ?_
    refine wpList_store_cells rfl 39 _ _ rfl w.heap.size #[.int .i64 p.src, .int .i64 p.dst, .string p.bytes, .bool p.spoilt] p.vals rfl rfl rfl HK4.out rfl (by kernel_rfl) (by kernel_rfl) ?_
    intro w5 h5 o5
    have HP5 := Lib.hid h5
    have HST5 : Hid (NStep base b m (some ⟨g, 0, none⟩) w { N with fl := rm N.fl k } w5) := Lib.hid ⟨some ⟨g, 0, none⟩, c, HST.out.1.only o5 (fun k e e2 => by have := HFT.out k e; omega), HST.out.2.trans2 o5 (fun k e => by omega), fun k e => Or.inl e⟩
    clear h5 o5 HST HK6 HK4 HBW
    go_wp2_with fail
    refine bodyPost_ret (v := .tuple #[.agg #[.int .i64 p.src, .int .i64 p.dst, .string p.bytes, .bool p.spoilt], .int .i64 0]) ?_ rfl ?_
    · exact (ret_cell_tmp (p := 4) (q := 5) (ty := 39) (by rfl) _ HP5.out _ (by rfl) Try.underlying39 rfl (by kernel_rfl)).trans (by rfl)
    · exact ⟨rfl, HST5.out⟩
/-- A packet is sent once more. -/
def doubleN (N : Nt) (i : Int) : Int × Nt := if hasN N i then (if N.fl.length < 256 then (0, { N with fl := N.fl ++ [(N.fl[i.toNat]?).getD pk0] }) else (6, N)) else (8, N)
set_option maxHeartbeats 1000000 in
theorem Double_any {base b m c : Nat} {w : World} {N : Nt} {A : Option Addr} (h : NetAt base w b m N A c) (i : Int) (hbase : base ≤ w.heap.size) :
    Calls Try.prog 16 #[.pointer (some ⟨b, 0, none⟩), .int .i64 i] w fun e w' => e = .returned (.int .i64 (doubleN N i).1) ∧ NStep base b m A w (doubleN N i).2 w' := by
  have HC := Lib.hid (has_any h i)
  have HN := Lib.hid h
  unfold doubleN
  cases hh : hasN N i with
  | false =>
    rw [hh] at HC
    simp only [Bool.false_eq_true, if_false]
    clear h hbase hh
    go_enter Try.func16, Try.ntmps16
    go_wp2_with fail
    refine HC.out.mono ?_
    rintro e w2 ⟨rfl, rfl⟩
    go_wp2_with fail
    go_returns
    exact ⟨rfl, NStep.same HN.out (Below.refl _ _)⟩
  | true =>
    rw [hh] at HC
    simp only [if_true]
    obtain ⟨k, p, rfl, hk, hp⟩ := hasN_spec hh
    rw [Int.toNat_natCast, hp, Option.getD_some]
    obtain ⟨g, rfl⟩ := h.addr (by omega)
    have hr := h.at rfl hp
    have x0 := hr 0 _ rfl
    rw [Nat.add_zero] at x0
    have x1 := hr 1 _ rfl
    have x2 := hr 2 _ rfl
    have x3 := hr 3 _ rfl
    have c2 := h.cel.cell (j := 2) rfl
    have HP := Lib.hid (put_any h p (h.pks p (List.mem_of_getElem? hp)) hbase)
    obtain ⟨n, hn⟩ : ∃ n, N.fl.length = n := ⟨_, rfl⟩
    rw [hn] at c2 hk HP ⊢
    have hN2 : n ≤ 256 := by rw [← hn]; exact h.len
    obtain ⟨N2, hN2'⟩ : ∃ N2, (if n < 256 then { N with fl := N.fl ++ [p] } else N : Nt) = N2 := ⟨_, rfl⟩
    rw [hN2'] at HP
    obtain ⟨B, hB⟩ : ∃ B, decide (n < 256) = B := ⟨_, rfl⟩
    rw [hB] at HP
    have HR : Hid ((if n < 256 then ((0 : Int), ({ N with fl := N.fl ++ [p] } : Nt)) else (6, N)) = (if B then 0 else 6, N2)) := Lib.hid (by
      rw [← hN2', ← hB]
      by_cases h1 : n < 256
      · simp [h1]
      · simp [h1])
    rw [HR.out]
    unfold Pk.val at HP
    clear h hbase hh hp hr hn hN2' hB HR
    go_enter Try.func16, Try.ntmps16
    go_wp2_with fail
    refine HC.out.mono ?_
    rintro e w2 ⟨rfl, rfl⟩
    go_wp2_with fail
    refine HP.out.mono ?_
    rintro e w3 ⟨rfl, hst⟩
    have HST := Lib.hid hst
    clear hst x0 x1 x2 x3 c2
    cases B
    · go_wp2_with fail
      go_returns
      exact ⟨rfl, HST.out⟩
    · go_wp2_with fail
      go_returns
      exact ⟨rfl, HST.out⟩
theorem Spoil_nil (w : World) (i : Int) (x y : Value) : Calls Try.prog 22 #[.pointer none, .int .i64 i, x, y] w fun e w' => e = .returned (.int .i64 8) ∧ w' = w := by
  have HC := Lib.hid (has_nil w i)
  go_enter Try.func22, Try.ntmps22
  go_wp2_with fail
  refine HC.out.mono ?_
  rintro e w2 ⟨rfl, rfl⟩
  go_wp2_with fail
  go_returns
  exact ⟨rfl, rfl⟩
theorem All_nil (w : World) : Calls Try.prog 26 #[.pointer none] w fun e w' => e = .returned (.slice none 0 0) ∧ w' = w := by
  go_enter Try.func26, Try.ntmps26
  go_wp2_with fail
  go_returns
  exact ⟨rfl, rfl⟩
end Go.Proofs.Ytfhcfiebhagbeaa.Net
