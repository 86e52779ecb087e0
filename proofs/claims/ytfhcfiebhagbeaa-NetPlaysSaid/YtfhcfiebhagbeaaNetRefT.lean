/-
  Layer 11, the document's net: Take, Double. Conditions: none.
-/
import Derived.Test.YtfhcfiebhagbeaaNetAp
namespace Go.Proofs.Ytfhcfiebhagbeaa.Net
set_option maxRecDepth 100000
open Go.RowKit Go.Deep Go.Proofs.Ytfhcfiebhagbeaa.Mem

theorem sl_take {w : World} {A : Option Addr} {sz : Nat} {vs : List (List Value)} (h : Sl w A sz vs) (i : Nat) : Sl w A sz (vs.take i) := fun k hk => by
  rw [List.length_take] at hk
  obtain ⟨b, off, e, hr⟩ := h k (by omega)
  exact ⟨b, off, e, by rw [List.getElem_take]; exact hr⟩
theorem sl_drop {w : World} {g off sz : Nat} {vs : List (List Value)} (h : Sl w (some ⟨g, off, none⟩) sz vs) (i : Nat) : Sl w (some ⟨g, off + i * sz, none⟩) sz (vs.drop i) := fun k hk => by
  rw [List.length_drop] at hk
  obtain ⟨b, o2, e, hr⟩ := h (i + k) (by omega)
  simp only [Option.some.injEq, Addr.mk.injEq] at e
  obtain ⟨rfl, rfl, _⟩ := e
  refine ⟨g, off + i * sz, rfl, ?_⟩
  rw [List.getElem_drop, Nat.add_assoc, ← Nat.add_mul]
  exact hr
def hasR (R : Rf) (i : Int) : Bool := decide (0 ≤ i) && decide (i < (R.fl.length : Int))
theorem hasR_spec {R : Rf} {i : Int} (h : hasR R i = true) : ∃ (k : Nat) (p : Pk), i = (k : Int) ∧ k < R.fl.length ∧ R.fl[k]? = some p := by
  unfold hasR at h
  simp only [Bool.and_eq_true, decide_eq_true_eq] at h
  obtain ⟨k, rfl⟩ := Int.eq_ofNat_of_zero_le h.1
  have hk : k < R.fl.length := by omega
  exact ⟨k, R.fl[k], rfl, hk, List.getElem?_eq_getElem hk⟩
section
variable {B rb ac cc : Nat} {w : World} {R : Rf} {A C : Option Addr}
theorem RefAt.addr (h : RefAt B w rb R A ac C cc) (hk : 0 < R.fl.length) : ∃ g, A = some ⟨g, 0, none⟩ ∧ R.fl.length ≤ ac := by
  rcases h.rowL.2 with ⟨_, e⟩ | ⟨g, cap, cur, e, _, _, h4, _⟩
  · omega
  · simp only [Value.slice.injEq] at e
    exact ⟨g, e.1, by rw [e.2.2]; exact h4⟩
theorem RefAt.at (h : RefAt B w rb R A ac C cc) {g k : Nat} (hA : A = some ⟨g, 0, none⟩) {p : Pk} (hp : R.fl[k]? = some p) : w.rangeAt g (k * 4) p.vals := by
  subst hA
  obtain ⟨hc, _⟩ := cells_of_own h.rowL
  obtain ⟨hk, e⟩ := List.getElem?_eq_some_iff.1 hp
  intro j v hv
  refine hc.cell ?_
  have hj : j < 4 := (List.getElem?_eq_some_iff.1 hv).1
  rw [flatten_at (sz := 4) (fit_pks R.fl).len k (by rw [List.length_map]; exact hk) j hj, List.getElem_map, e]
  exact hv
/-- What lies behind the place i. -/
theorem RefAt.behind {g i : Nat} (h : RefAt B w rb R (some ⟨g, 0, none⟩) ac C cc) (hi : i < R.fl.length) (hac : R.fl.length ≤ ac) : ∃ AD : Addr, (if ac = i + 1 then some ⟨g, 0, none⟩ else some ⟨g, (i + 1) * 4, none⟩ : Option Addr) = some AD ∧ ∀ wi, Below w.heap.size w wi → Sl wi (some AD) 4 ((R.fl.drop (i + 1)).map Pk.vals) := by
  by_cases he : ac = i + 1
  · refine ⟨_, if_pos he, fun wi hb => ?_⟩
    have h0 : R.fl.drop (i + 1) = [] := List.drop_eq_nil_iff.2 (by omega)
    rw [h0]
    exact sl_nil _ _ _
  · refine ⟨_, if_neg he, fun wi hb => ?_⟩
    have := sl_drop (h.later hb).sl.1 (i + 1)
    rw [Nat.zero_add] at this
    rw [List.map_drop]
    exact this
end
/-- A packet is taken: it, the error's number, the document's net behind it. -/
def takeR (R : Rf) (i : Int) : Pk × Int × Rf := if hasR R i then ((R.fl[i.toNat]?).getD pk0, 0, { R with fl := rm R.fl i.toNat }) else (pk0, 8, R)
/-- A packet is sent once more. -/
def doubleR (R : Rf) (i : Int) : Int × Rf := if hasR R i then (if R.fl.length < 256 then (0, { R with fl := R.fl ++ [(R.fl[i.toNat]?).getD pk0] }) else (6, R)) else (8, R)
set_option maxHeartbeats 2000000 in
theorem RTake_any {B rb ac cc : Nat} {R : Rf} {A C : Option Addr} {w : World} (h : RefAt B w rb R A ac C cc) (i : Int) (hB : B ≤ w.heap.size) :
    Calls Try.prog 15 #[.pointer (some ⟨rb, 0, none⟩), .int .i64 i] w fun e w' => e = .returned (.tuple #[(takeR R i).1.val, .int .i64 (takeR R i).2.1]) ∧ RStep B rb A C w (takeR R i).2.2 w' := by
  obtain ⟨wa, hwa⟩ : ∃ W, W = w.alloc (.cells #[.int .i64 0, .int .i64 0, .string ⟨#[]⟩, .bool false] 42) := ⟨_, rfl⟩
  have hba : Below w.heap.size w wa := by rw [hwa]; exact below_alloc _ _
  have hca : Cells wa w.heap.size 42 pk0.vals := by rw [hwa]; exact cells_new _ _ _ _ rfl
  have hsa : wa.heap.size = w.heap.size + 1 := by rw [hwa]; exact World.size_alloc _ _
  have HRA := Lib.hid (h.later hba)
  have HB := Lib.hid hba
  have HBB := Lib.hid hB
  have HRB := Lib.hid h.cel.lt
  obtain ⟨n, hn⟩ : ∃ n, R.fl.length = n := ⟨_, rfl⟩
  have HN := Lib.hid hn
  have hn2 : n ≤ 256 := by rw [← hn]; exact h.len
  have c1 := HRA.out.cel.cell (j := 1) rfl
  rw [hn] at c1
  unfold takeR
  cases hh : hasR R i with
  | false =>
    simp only [Bool.false_eq_true, if_false]
    have hi : i < 0 ∨ (n : Int) ≤ i := by
      unfold hasR at hh
      rw [hn] at hh
      simp at hh
      omega
    have HWA := Lib.hid hwa
    clear h hB hba hca hsa hh hn
    unfold pk0 Pk.val
    by_cases h0 : i < 0
    · have e1 : decide (i < 0) = true := by simpa using h0
      go_enter Try.func15, Try.ntmps15
      clear hwa c1
      go_wp2_with fail
      go_returns
      exact ⟨rfl, by rw [← HWA.out]; exact RStep.before HB.out (RStep.same HRA.out (Below.refl _ _))⟩
    · have e1 : decide (i < 0) = false := by simpa using h0
      have e2 : decide (i ≥ (n : Int)) = true := by simp; omega
      rw [hwa] at c1
      go_enter Try.func15, Try.ntmps15
      clear hwa
      go_wp2_with fail
      go_returns
      exact ⟨rfl, by rw [← HWA.out]; exact RStep.before HB.out (RStep.same HRA.out (Below.refl _ _))⟩
  | true =>
    simp only [if_true]
    obtain ⟨ii, p, rfl, hi, hp⟩ := hasR_spec hh
    rw [Int.toNat_natCast, hp, Option.getD_some]
    obtain ⟨g, rfl, hac⟩ := h.addr (by omega)
    have hr := HRA.out.at rfl hp
    have x0 := hr 0 _ rfl
    rw [Nat.add_zero] at x0
    have x1 := hr 1 _ rfl
    have x2 := hr 2 _ rfl
    have x3 := hr 3 _ rfl
    obtain ⟨we, hwe⟩ : ∃ W, W = wa.alloc (.cells #[.int .i64 p.src, .int .i64 p.dst, .string p.bytes, .bool p.spoilt] 42) := ⟨_, rfl⟩
    have hbe : Below wa.heap.size wa we := by rw [hwe]; exact below_alloc _ _
    have hce : Cells we wa.heap.size 42 p.vals := by rw [hwe]; exact cells_new _ _ _ _ rfl
    rw [hsa] at hce
    have HCB := Lib.hid hce
    have HCA := Lib.hid (hca.later hbe)
    have HR := Lib.hid (HRA.out.later hbe)
    have HBE := Lib.hid (HB.out.trans (hbe.mono HB.out.size))
    have HSE := Lib.hid HBE.out.size
    have HRW : Hid (∀ k, rfoot rb (some ⟨g, 0, none⟩) C k → k < w.heap.size) := Lib.hid (fun k e => (h.lt e).2)
    have HBW := Lib.hid (Nat.le_trans hB HBE.out.size)
    obtain ⟨AD, hAD, hDS⟩ := HR.out.behind hi hac
    have HAD := Lib.hid hAD
    have HDS := Lib.hid hDS
    have HTS : Hid (∀ wi, Below we.heap.size we wi → Sl wi (some ⟨g, 0, none⟩) 4 ((R.fl.take ii).map Pk.vals)) := Lib.hid (fun wi hb => by rw [List.map_take]; exact sl_take (HR.out.later hb).sl.1 ii)
    have HI : Hid (ii < n ∧ n ≤ ac ∧ n ≤ 256 ∧ (R.fl.take ii).length = ii ∧ (R.fl.drop (ii + 1)).length = n - (ii + 1)) := Lib.hid ⟨by rw [← hn]; exact hi, by rw [← hn]; exact hac, hn2, by rw [List.length_take]; omega, by rw [List.length_drop, hn]⟩
    have HFL : Hid ((R.fl.take ii ++ R.fl.drop (ii + 1)).length ≤ 256) := Lib.hid (by have := HI.out; rw [List.length_append]; omega)
    have e1 : decide ((ii : Int) < 0) = false := by simp
    have e2 : decide ((ii : Int) ≥ (n : Int)) = false := by have := HI.out.1; simp; omega
    have e3 : ii < n := HI.out.1
    clear h hB hba hca hh hn hi hp hac hr hbe hce hAD hDS hsa
    go_enter Try.func15, Try.ntmps15
    rw [hwa] at c1 x0 x1 x2 x3 hwe
    clear hwa
    go_upto_region 4 with (fail)
    rw [← hwe]
    clear hwe c1 x0 x1 x2 x3
    refine Reg.region_inv (by kernel_rfl) (fun i => ([some (.pointer (some ⟨rb, 0, none⟩)), none, some (.pointer (some ⟨rb, 0, none⟩)), some (.pointer (some ⟨rb, 0, none⟩)), some (.pointer (some ⟨rb, 1, none⟩)), some (.slice (some ⟨g, 0, none⟩) n ac), some (.int .i64 (ii : Int)), some (.slice (some ⟨g, 0, none⟩) ii ac), none, some (.pointer (some ⟨rb, 0, none⟩)), some (.pointer (some ⟨rb, 0, none⟩)), some (.pointer (some ⟨rb, 1, none⟩)), some (.slice (some ⟨g, 0, none⟩) n ac), some (.int .i64 (ii : Int)), some (.int .i64 ((ii : Int) + 1)), some (.slice (some AD) (n - (ii + 1)) (ac - (ii + 1))), none, some (.pointer (some ⟨rb, 0, none⟩)), some (.pointer (some ⟨rb, 1, none⟩)), none] : List (Option Value)).getD i none) (fun D V W => (D 19 = false → Ap we (D 1) (cond (D 16) (V 16) (cond (D 8) (V 8) (V 1))) (cond (D 16) (R.fl.take ii ++ R.fl.drop (ii + 1)) (cond (D 8) (R.fl.take ii) ([]))) (false) (undef) p W) ∧ (D 19 = true → RStep B rb (some ⟨g, 0, none⟩) C we { R with fl := R.fl.take ii ++ R.fl.drop (ii + 1) } W)) (fun V => [(some 26, V 0), (some 27, V 1), (some 28, V 2), (some 29, V 3), (some 30, V 4), (some 31, V 5), (some 32, V 6), (some 33, V 7), (some 34, V 8), (some 35, V 9), (some 36, V 10), (some 37, V 11), (some 38, V 12), (some 39, V 13), (some 40, V 14), (some 41, V 15), (some 42, V 16), (some 43, V 17), (some 44, V 18), (none, V 19)]) (by kernel_rfl) (by kernel_rfl) (fun V => rfl) ?_ ?_ ?_
    · intro V
      exact ⟨fun _ => Ap.start (Below.refl _ _).drew _ _ _ _, fun e => (by cases e)⟩
    · intro i o ho
      have hi : i < 20 := (Array.getElem?_eq_some_iff.1 ho).1
      rcases i with _ | _ | _ | _ | _ | _ | _ | _ | _ | _ | _ | _ | _ | _ | _ | _ | _ | _ | _ | _ | i
      rotate_right
      · omega
      all_goals obtain rfl := Option.some.inj ho
      all_goals intro D V ρ wi hE hI hDi hT hF hs hd hk
      · have e0 : ρ (.tmp 0) = .pointer (some ⟨rb, 0, none⟩) := hs 0; clear hT hF hk
        exact Reg.Gives.value (v := .pointer (some ⟨rb, 0, none⟩)) (w' := wi) (by go_simp) ⟨fun x h => Option.some.inj h, hI⟩
      · have hD1 : D 1 = false := hDi; have hD8 : D 8 = false := hF 1 8; have hD16 : D 16 = false := hF 2 16; have hD19 : D 19 = false := hF 1 19; clear hT hF; have h1 := hI.1 hD19
        rw [hD1] at h1
        rw [hD8] at h1
        rw [hD16] at h1
        simp only [cond_false] at h1
        exact Reg.Gives.value (v := .slice (some ⟨wi.heap.size, 0, none⟩) 0 0) (w' := wi.alloc (.cells #[] 42)) (by go_simp) ⟨fun x h => (by cases h), by show ((D 19) = false → Ap we true (cond (D 16) (V 16) (cond (D 8) (V 8) (.slice (some ⟨wi.heap.size, 0, none⟩) 0 0))) (cond (D 16) (R.fl.take ii ++ R.fl.drop (ii + 1)) (cond (D 8) (R.fl.take ii) [])) false undef p (wi.alloc (.cells #[] 42))) ∧ ((D 19) = true → RStep B rb (some ⟨g, 0, none⟩) C we { R with fl := R.fl.take ii ++ R.fl.drop (ii + 1) } (wi.alloc (.cells #[] 42))); rw [hD8, hD16, hD19]; simp only [cond_false]; exact ⟨fun _ => h1.mkz, fun e => by cases e⟩⟩
      · have e0 : ρ (.tmp 0) = .pointer (some ⟨rb, 0, none⟩) := hs 0; clear hT hF hk
        exact Reg.Gives.value (v := .pointer (some ⟨rb, 0, none⟩)) (w' := wi) (by go_simp) ⟨fun x h => Option.some.inj h, hI⟩
      · have e28 : ρ (.tmp 28) = .pointer (some ⟨rb, 0, none⟩) := (hd 2 28).trans (hk 2 _ rfl); clear hT hF hk
        exact Reg.Gives.value (v := .pointer (some ⟨rb, 0, none⟩)) (w' := wi) (by go_simp) ⟨fun x h => Option.some.inj h, hI⟩
      · have e29 : ρ (.tmp 29) = .pointer (some ⟨rb, 0, none⟩) := (hd 3 29).trans (hk 3 _ rfl); clear hT hF hk
        exact Reg.Gives.value (v := .pointer (some ⟨rb, 1, none⟩)) (w' := wi) (by go_simp) ⟨fun x h => Option.some.inj h, hI⟩
      · have e30 : ρ (.tmp 30) = .pointer (some ⟨rb, 1, none⟩) := (hd 4 30).trans (hk 4 _ rfl); have hD19 : D 19 = false := hF 1 19; clear hT hF; have hL : Below we.heap.size we wi := (hI.1 hD19).low; have x0 := (HR.out.later hL).cel.cell (j := 1) rfl
        rw [HN.out] at x0
        exact Reg.Gives.value (v := .slice (some ⟨g, 0, none⟩) n ac) (w' := wi) (by go_simp) ⟨fun x h => Option.some.inj h, hI⟩
      · have e1 : ρ (.tmp 1) = .int .i64 (ii : Int) := hs 1; clear hT hF hk
        exact Reg.Gives.value (v := .int .i64 (ii : Int)) (w' := wi) (by go_simp) ⟨fun x h => Option.some.inj h, hI⟩
      · have e31 : ρ (.tmp 31) = .slice (some ⟨g, 0, none⟩) n ac := (hd 5 31).trans (hk 5 _ rfl); have e32 : ρ (.tmp 32) = .int .i64 (ii : Int) := (hd 6 32).trans (hk 6 _ rfl); have hD19 : D 19 = false := hF 1 19; clear hT hF; have hL : Below we.heap.size we wi := (hI.1 hD19).low; have z0 := HI.out.1
        have z1 : ii ≤ ac := by have := HI.out; omega
        have z2 : ii ≤ n := by have := HI.out; omega
        have z3 : (ii : Int) ≤ (ac : Int) := by omega
        exact Reg.Gives.value (v := .slice (some ⟨g, 0, none⟩) ii ac) (w' := wi) (by go_simp) ⟨fun x h => Option.some.inj h, hI⟩
      · have e27 : ρ (.tmp 27) = V 1 := hd 1 27; have e33 : ρ (.tmp 33) = .slice (some ⟨g, 0, none⟩) ii ac := (hd 7 33).trans (hk 7 _ rfl); have hD1 : D 1 = true := hT 1 1; have hD8 : D 8 = false := hDi; have hD16 : D 16 = false := hF 1 16; have hD19 : D 19 = false := hF 1 19; clear hT hF; have h1 := hI.1 hD19
        rw [hD1] at h1
        rw [hD8] at h1
        rw [hD16] at h1
        simp only [cond_false] at h1
        have hL := h1.low
        obtain ⟨A2, n2, c2, w2, hrun, hn⟩ := h1.app (m := R.fl.take ii) (HTS.out wi hL) (fun e => by cases e) (by have := HR.out.len; simp; omega)
        rw [HI.out.2.2.2.1] at hrun
        exact Reg.Gives.value (v := .slice A2 n2 c2) (w' := w2) (Reg.exec_append rfl e27 e33 hrun) ⟨fun x h => (by cases h), by show ((D 19) = false → Ap we (D 1) (cond (D 16) (V 16) (cond true (.slice A2 n2 c2) (V 1))) (cond (D 16) (R.fl.take ii ++ R.fl.drop (ii + 1)) (cond true (R.fl.take ii) [])) false undef p w2) ∧ ((D 19) = true → RStep B rb (some ⟨g, 0, none⟩) C we { R with fl := R.fl.take ii ++ R.fl.drop (ii + 1) } w2); rw [hD1, hD16, hD19]; simp only [cond_false, cond_true]; exact ⟨fun _ => hn, fun e => by cases e⟩⟩
      · have e0 : ρ (.tmp 0) = .pointer (some ⟨rb, 0, none⟩) := hs 0; clear hT hF hk
        exact Reg.Gives.value (v := .pointer (some ⟨rb, 0, none⟩)) (w' := wi) (by go_simp) ⟨fun x h => Option.some.inj h, hI⟩
      · have e35 : ρ (.tmp 35) = .pointer (some ⟨rb, 0, none⟩) := (hd 9 35).trans (hk 9 _ rfl); clear hT hF hk
        exact Reg.Gives.value (v := .pointer (some ⟨rb, 0, none⟩)) (w' := wi) (by go_simp) ⟨fun x h => Option.some.inj h, hI⟩
      · have e36 : ρ (.tmp 36) = .pointer (some ⟨rb, 0, none⟩) := (hd 10 36).trans (hk 10 _ rfl); clear hT hF hk
        exact Reg.Gives.value (v := .pointer (some ⟨rb, 1, none⟩)) (w' := wi) (by go_simp) ⟨fun x h => Option.some.inj h, hI⟩
      · have e37 : ρ (.tmp 37) = .pointer (some ⟨rb, 1, none⟩) := (hd 11 37).trans (hk 11 _ rfl); have hD19 : D 19 = false := hF 1 19; clear hT hF; have hL : Below we.heap.size we wi := (hI.1 hD19).low; have x0 := (HR.out.later hL).cel.cell (j := 1) rfl
        rw [HN.out] at x0
        exact Reg.Gives.value (v := .slice (some ⟨g, 0, none⟩) n ac) (w' := wi) (by go_simp) ⟨fun x h => Option.some.inj h, hI⟩
      · have e1 : ρ (.tmp 1) = .int .i64 (ii : Int) := hs 1; clear hT hF hk
        exact Reg.Gives.value (v := .int .i64 (ii : Int)) (w' := wi) (by go_simp) ⟨fun x h => Option.some.inj h, hI⟩
      · have e39 : ρ (.tmp 39) = .int .i64 (ii : Int) := (hd 13 39).trans (hk 13 _ rfl); have hc := hE.const; have hD19 : D 19 = false := hF 1 19; clear hT hF; have hL : Below we.heap.size we wi := (hI.1 hD19).low
        have z0 : IntKind.i64.wrap ((ii : Int) + 1) = (ii : Int) + 1 := IntWalk.i64_in _ (by have := HI.out; omega)
        exact Reg.Gives.value (v := .int .i64 ((ii : Int) + 1)) (w' := wi) (by go_simp) ⟨fun x h => Option.some.inj h, hI⟩
      · have e38 : ρ (.tmp 38) = .slice (some ⟨g, 0, none⟩) n ac := (hd 12 38).trans (hk 12 _ rfl); have e40 : ρ (.tmp 40) = .int .i64 ((ii : Int) + 1) := (hd 14 40).trans (hk 14 _ rfl); have hD19 : D 19 = false := hF 1 19; clear hT hF; have hL : Below we.heap.size we wi := (hI.1 hD19).low
        have z1 : ii + 1 ≤ n := by have := HI.out; omega
        have z2 : ii + 1 ≤ ac := by have := HI.out; omega
        have z3 : (0 : Int) ≤ (ii : Int) + 1 := by omega
        have z4 : (ii : Int) + 1 ≤ (n : Int) := by omega
        have z5 := HAD.out
        exact Reg.Gives.value (v := .slice (some AD) (n - (ii + 1)) (ac - (ii + 1))) (w' := wi) (by go_simp) ⟨fun x h => Option.some.inj h, hI⟩
      · have e34 : ρ (.tmp 34) = V 8 := hd 8 34; have e41 : ρ (.tmp 41) = .slice (some AD) (n - (ii + 1)) (ac - (ii + 1)) := (hd 15 41).trans (hk 15 _ rfl); have hD1 : D 1 = true := hT 2 1; have hD8 : D 8 = true := hT 1 8; have hD16 : D 16 = false := hDi; have hD19 : D 19 = false := hF 1 19; clear hT hF; have h1 := hI.1 hD19
        rw [hD1] at h1
        rw [hD8] at h1
        rw [hD16] at h1
        simp only [cond_false, cond_true] at h1
        have hL := h1.low
        obtain ⟨A2, n2, c2, w2, hrun, hn⟩ := h1.app (m := R.fl.drop (ii + 1)) (HDS.out wi hL) (fun e => by cases e) (by have := HR.out.len; simp; omega)
        rw [HI.out.2.2.2.2] at hrun
        exact Reg.Gives.value (v := .slice A2 n2 c2) (w' := w2) (Reg.exec_append rfl e34 e41 hrun) ⟨fun x h => (by cases h), by show ((D 19) = false → Ap we (D 1) (cond true (.slice A2 n2 c2) (cond (D 8) (V 8) (V 1))) (cond true (R.fl.take ii ++ R.fl.drop (ii + 1)) (cond (D 8) (R.fl.take ii) [])) false undef p w2) ∧ ((D 19) = true → RStep B rb (some ⟨g, 0, none⟩) C we { R with fl := R.fl.take ii ++ R.fl.drop (ii + 1) } w2); rw [hD1, hD8, hD19]; simp only [cond_true]; exact ⟨fun _ => hn, fun e => by cases e⟩⟩
      · have e26 : ρ (.tmp 26) = .pointer (some ⟨rb, 0, none⟩) := (hd 0 26).trans (hk 0 _ rfl); clear hT hF hk
        exact Reg.Gives.value (v := .pointer (some ⟨rb, 0, none⟩)) (w' := wi) (by go_simp) ⟨fun x h => Option.some.inj h, hI⟩
      · have e43 : ρ (.tmp 43) = .pointer (some ⟨rb, 0, none⟩) := (hd 17 43).trans (hk 17 _ rfl); clear hT hF hk
        exact Reg.Gives.value (v := .pointer (some ⟨rb, 1, none⟩)) (w' := wi) (by go_simp) ⟨fun x h => Option.some.inj h, hI⟩
      · have e44 : ρ (.tmp 44) = .pointer (some ⟨rb, 1, none⟩) := (hd 18 44).trans (hk 18 _ rfl); have e42 : ρ (.tmp 42) = V 16 := hd 16 42; have hD1 : D 1 = true := hT 1 1; have hD8 : D 8 = true := hT 1 8; have hD16 : D 16 = true := hT 1 16; have hD19 : D 19 = false := hDi; clear hT hF; have h1 := hI.1 hD19
        rw [hD1] at h1
        rw [hD8] at h1
        rw [hD16] at h1
        simp only [cond_true] at h1
        have hac := h1.acc rfl; have hrl := HR.out.later h1.low; have x0 := hrl.cel.cell (j := 1) rfl
        have x1 := hrl.cel.frozen (j := 1) (by simp)
        have hfin := HR.out.newL HBW.out h1.low hac (by exact HFL.out)
        obtain ⟨A2, c2, hv2⟩ := row_slice hac; obtain ⟨n3, hn3⟩ : ∃ n3, List.length (R.fl.take ii ++ R.fl.drop (ii + 1)) = n3 := ⟨_, rfl⟩
        rw [hn3] at hv2
        rw [hv2] at hfin
        have e9 := e42
        rw [hv2] at e9
        clear e42
        exact Reg.Gives.skip (w' := wi.setCell ⟨rb, 1, none⟩ (.slice A2 n3 c2)) (by go_simp) ⟨fun x h => (by cases h), by show (true = false → Ap we (D 1) (cond (D 16) (V 16) (cond (D 8) (V 8) (V 1))) (cond (D 16) (R.fl.take ii ++ R.fl.drop (ii + 1)) (cond (D 8) (R.fl.take ii) [])) false undef p (wi.setCell ⟨rb, 1, none⟩ (.slice A2 n3 c2))) ∧ (true = true → RStep B rb (some ⟨g, 0, none⟩) C we { R with fl := R.fl.take ii ++ R.fl.drop (ii + 1) } (wi.setCell ⟨rb, 1, none⟩ (.slice A2 n3 c2))); exact ⟨fun e => (by cases e), fun _ => hfin⟩⟩
    · intro V wf hk hI
      simp only [Reg.putsO, List.foldl_cons, List.foldl_nil, Act.put, List.setIfInBounds_toArray, List.set_cons_succ, List.set_cons_zero]
      replace hI : ((fun _ => true) 19 = false → Ap we true (cond true (V 16) (cond true (V 8) (V 1))) (cond true (R.fl.take ii ++ R.fl.drop (ii + 1)) (cond true (R.fl.take ii) ([]))) (false) (undef) p wf) ∧ ((fun _ => true) 19 = true → RStep B rb (some ⟨g, 0, none⟩) C we { R with fl := R.fl.take ii ++ R.fl.drop (ii + 1) } wf) := hI
      clear hk
      obtain ⟨A', ac', C', cc', k1, k2, k3⟩ := hI.2 rfl
      have hg := HRB.out
      have k6 := cells_only HCB.out k2 fun e => by have e2 : w.heap.size + 1 = rb := e; omega
      have k4 := cells_only HCA.out k2 fun e => by have e2 : w.heap.size = rb := e; omega
      have HK6 := Lib.hid k6
      have HK4 := Lib.hid k4
      have HK1 := Lib.hid k1
      have HK2 := Lib.hid (And.intro ((Only.of_below HBE.out).trans k2 fun _ _ e => e) k3)
      have HRF : Hid (∀ k, rfoot rb A' C' k → k ≠ w.heap.size) := Lib.hid (fun k e e2 => by
        rcases k3 k e with e1 | e1
        · have := (HRW.out k e1); omega
        · have := HCA.out.lt; omega)
      clear hI k1 k2 k3 k4 k6 hg HR HCB HCA HBE HBW HAD HDS HTS HFL
      go_upto_region 5 with (fail)
      apply wp_region_lit
      refine wpList_load_cells rfl 42 _ rfl (w.heap.size + 1) #[.int .i64 p.src, .int .i64 p.dst, .string p.bytes, .bool p.spoilt] rfl rfl HK6.out Try.underlying42 rfl (by kernel_rfl) ?_
      refine wpList_store_cells rfl 42 _ _ rfl w.heap.size #[.int .i64 p.src, .int .i64 p.dst, .string p.bytes, .bool p.spoilt] p.vals rfl rfl rfl HK4.out rfl (by kernel_rfl) (by kernel_rfl) ?_
      intro w5 h5 o5
      have HP5 := Lib.hid h5
      have HST5 : Hid (RStep B rb (some ⟨g, 0, none⟩) C w { R with fl := rm R.fl ii } w5) := Lib.hid ⟨A', ac', C', cc', HK1.out.only o5 (fun k e e2 => HRF.out k e e2), HK2.out.1.trans2 o5 (fun k e => by omega), fun k e => (HK2.out.2 k e).imp_right fun h => Nat.le_trans HSE.out h⟩
      clear h5 o5 HK1 HK2 HK4 HK6
      go_wp2_with fail
      refine bodyPost_ret (v := .tuple #[.agg #[.int .i64 p.src, .int .i64 p.dst, .string p.bytes, .bool p.spoilt], .int .i64 0]) ?_ rfl ?_
      · exact (ret_cell_tmp (p := 4) (q := 5) (ty := 42) (by rfl) _ HP5.out _ (by rfl) Try.underlying42 rfl (by kernel_rfl)).trans (by rfl)
      · exact ⟨rfl, HST5.out⟩
set_option maxHeartbeats 2000000 in
theorem RDouble_any {B rb ac cc : Nat} {R : Rf} {A C : Option Addr} {w : World} (h : RefAt B w rb R A ac C cc) (i : Int) (hB : B ≤ w.heap.size) :
    Calls Try.prog 17 #[.pointer (some ⟨rb, 0, none⟩), .int .i64 i] w fun e w' => e = .returned (.int .i64 (doubleR R i).1) ∧ RStep B rb A C w (doubleR R i).2 w' := by
  have HR := Lib.hid h
  obtain ⟨n, hn⟩ : ∃ n, R.fl.length = n := ⟨_, rfl⟩
  have HN := Lib.hid hn
  have hn2 : n ≤ 256 := by rw [← hn]; exact h.len
  have c1 := h.cel.cell (j := 1) rfl
  rw [hn] at c1
  have HBW := Lib.hid hB
  unfold doubleR
  cases hh : hasR R i with
  | false =>
    simp only [Bool.false_eq_true, if_false]
    have hi : i < 0 ∨ (n : Int) ≤ i := by
      unfold hasR at hh
      rw [hn] at hh
      simp at hh
      omega
    clear h hB hh hn
    by_cases h0 : i < 0
    · have e1 : decide (i < 0) = true := by simpa using h0
      go_enter Try.func17, Try.ntmps17
      go_wp2_with fail
      go_returns
      exact ⟨rfl, RStep.same HR.out (Below.refl _ _)⟩
    · have e1 : decide (i < 0) = false := by simpa using h0
      have e2 : decide (i ≥ (n : Int)) = true := by simp; omega
      go_enter Try.func17, Try.ntmps17
      go_wp2_with fail
      go_returns
      exact ⟨rfl, RStep.same HR.out (Below.refl _ _)⟩
  | true =>
    simp only [if_true]
    obtain ⟨ii, p, rfl, hi, hp⟩ := hasR_spec hh
    rw [Int.toNat_natCast, hp, Option.getD_some]
    obtain ⟨g, rfl, hac⟩ := h.addr (by omega)
    have HPK := Lib.hid (h.at rfl hp)
    have HI : Hid (ii < n ∧ n ≤ 256) := Lib.hid ⟨by rw [← hn]; exact hi, hn2⟩
    have e1 : decide ((ii : Int) < 0) = false := by simp
    have e2 : decide ((ii : Int) ≥ (n : Int)) = false := by have := HI.out.1; simp; omega
    have e3 : ii < n := HI.out.1
    rw [hn]
    clear h hB hh hn hi hp hac
    by_cases hful : n < 256
    · have e4 : decide ((n : Int) ≥ 256) = false := by simp; omega
      have HFL : Hid ((R.fl ++ [p]).length ≤ 256) := Lib.hid (by simp [HN.out]; omega)
      rw [if_pos hful]
      obtain ⟨we, hwe⟩ : ∃ W, W = w := ⟨_, rfl⟩
      subst hwe
      go_enter Try.func17, Try.ntmps17
      go_upto_region 5 with (fail)
      refine Reg.region_inv (by kernel_rfl) (fun i => ([some (.pointer (some ⟨rb, 0, none⟩)), none, some (.pointer (some ⟨rb, 0, none⟩)), some (.pointer (some ⟨rb, 0, none⟩)), some (.pointer (some ⟨rb, 1, none⟩)), some (.slice (some ⟨g, 0, none⟩) n ac), none, some (.pointer (some ⟨rb, 0, none⟩)), some (.pointer (some ⟨rb, 0, none⟩)), some (.pointer (some ⟨rb, 1, none⟩)), some (.slice (some ⟨g, 0, none⟩) n ac), some (.int .i64 (ii : Int)), some (.pointer (some ⟨g, ii * 4, none⟩)), some (.agg #[.int .i64 p.src, .int .i64 p.dst, .string p.bytes, .bool p.spoilt]), none, none, some (.pointer (some ⟨rb, 0, none⟩)), some (.pointer (some ⟨rb, 1, none⟩)), none] : List (Option Value)).getD i none) (fun D V W => (D 18 = false → Ap we (D 1) (cond (D 15) (V 15) (cond (D 6) (V 6) (V 1))) (cond (D 15) (R.fl ++ [p]) (cond (D 6) (R.fl) ([]))) (D 14) (V 14) p W) ∧ (D 18 = true → RStep B rb (some ⟨g, 0, none⟩) C we { R with fl := R.fl ++ [p] } W)) (fun V => [(some 22, V 0), (some 23, V 1), (some 24, V 2), (some 25, V 3), (some 26, V 4), (some 27, V 5), (some 28, V 6), (some 29, V 7), (some 30, V 8), (some 31, V 9), (some 32, V 10), (some 33, V 11), (some 34, V 12), (some 35, V 13), (some 36, V 14), (some 37, V 15), (some 38, V 16), (some 39, V 17), (none, V 18)]) (by kernel_rfl) (by kernel_rfl) (fun V => rfl) ?_ ?_ ?_
      · intro V
        exact ⟨fun _ => Ap.start (Below.refl _ _).drew _ _ _ _, fun e => (by cases e)⟩
      · intro i o ho
        have hi : i < 19 := (Array.getElem?_eq_some_iff.1 ho).1
        rcases i with _ | _ | _ | _ | _ | _ | _ | _ | _ | _ | _ | _ | _ | _ | _ | _ | _ | _ | _ | i
        rotate_right
        · omega
        all_goals obtain rfl := Option.some.inj ho
        all_goals intro D V ρ wi hE hI hDi hT hF hs hd hk
        · have e0 : ρ (.tmp 0) = .pointer (some ⟨rb, 0, none⟩) := hs 0; clear hT hF hk
          exact Reg.Gives.value (v := .pointer (some ⟨rb, 0, none⟩)) (w' := wi) (by go_simp) ⟨fun x h => Option.some.inj h, hI⟩
        · have hD1 : D 1 = false := hDi; have hD6 : D 6 = false := hF 1 6; have hD15 : D 15 = false := hF 2 15; have hD18 : D 18 = false := hF 1 18; clear hT hF; have h1 := hI.1 hD18
          rw [hD1] at h1
          rw [hD6] at h1
          rw [hD15] at h1
          simp only [cond_false] at h1
          exact Reg.Gives.value (v := .slice (some ⟨wi.heap.size, 0, none⟩) 0 0) (w' := wi.alloc (.cells #[] 42)) (by go_simp) ⟨fun x h => (by cases h), by show ((D 18) = false → Ap we true (cond (D 15) (V 15) (cond (D 6) (V 6) (.slice (some ⟨wi.heap.size, 0, none⟩) 0 0))) (cond (D 15) (R.fl ++ [p]) (cond (D 6) (R.fl) [])) (D 14) (V 14) p (wi.alloc (.cells #[] 42))) ∧ ((D 18) = true → RStep B rb (some ⟨g, 0, none⟩) C we { R with fl := R.fl ++ [p] } (wi.alloc (.cells #[] 42))); rw [hD6, hD15, hD18]; simp only [cond_false]; exact ⟨fun _ => h1.mkz, fun e => by cases e⟩⟩
        · have e0 : ρ (.tmp 0) = .pointer (some ⟨rb, 0, none⟩) := hs 0; clear hT hF hk
          exact Reg.Gives.value (v := .pointer (some ⟨rb, 0, none⟩)) (w' := wi) (by go_simp) ⟨fun x h => Option.some.inj h, hI⟩
        · have e24 : ρ (.tmp 24) = .pointer (some ⟨rb, 0, none⟩) := (hd 2 24).trans (hk 2 _ rfl); clear hT hF hk
          exact Reg.Gives.value (v := .pointer (some ⟨rb, 0, none⟩)) (w' := wi) (by go_simp) ⟨fun x h => Option.some.inj h, hI⟩
        · have e25 : ρ (.tmp 25) = .pointer (some ⟨rb, 0, none⟩) := (hd 3 25).trans (hk 3 _ rfl); clear hT hF hk
          exact Reg.Gives.value (v := .pointer (some ⟨rb, 1, none⟩)) (w' := wi) (by go_simp) ⟨fun x h => Option.some.inj h, hI⟩
        · have e26 : ρ (.tmp 26) = .pointer (some ⟨rb, 1, none⟩) := (hd 4 26).trans (hk 4 _ rfl); have hD18 : D 18 = false := hF 1 18; clear hT hF; have hL : Below we.heap.size we wi := (hI.1 hD18).low; have x0 := (HR.out.later hL).cel.cell (j := 1) rfl
          rw [HN.out] at x0
          exact Reg.Gives.value (v := .slice (some ⟨g, 0, none⟩) n ac) (w' := wi) (by go_simp) ⟨fun x h => Option.some.inj h, hI⟩
        · have e23 : ρ (.tmp 23) = V 1 := hd 1 23; have e27 : ρ (.tmp 27) = .slice (some ⟨g, 0, none⟩) n ac := (hd 5 27).trans (hk 5 _ rfl); have hD1 : D 1 = true := hT 1 1; have hD6 : D 6 = false := hDi; have hD15 : D 15 = false := hF 1 15; have hD18 : D 18 = false := hF 1 18; clear hT hF; have h1 := hI.1 hD18
          rw [hD1] at h1
          rw [hD6] at h1
          rw [hD15] at h1
          simp only [cond_false] at h1
          have hL := h1.low
          obtain ⟨A2, n2, c2, w2, hrun, hn⟩ := h1.app (m := R.fl) ((HR.out.later hL).sl.1) (fun e => by cases e) (by simp; have := HR.out.len; omega)
          rw [HN.out] at hrun
          exact Reg.Gives.value (v := .slice A2 n2 c2) (w' := w2) (Reg.exec_append rfl e23 e27 hrun) ⟨fun x h => (by cases h), by show ((D 18) = false → Ap we (D 1) (cond (D 15) (V 15) (cond true (.slice A2 n2 c2) (V 1))) (cond (D 15) (R.fl ++ [p]) (cond true (R.fl) [])) (D 14) (V 14) p w2) ∧ ((D 18) = true → RStep B rb (some ⟨g, 0, none⟩) C we { R with fl := R.fl ++ [p] } w2); rw [hD1, hD15, hD18]; simp only [cond_false, cond_true]; exact ⟨fun _ => hn, fun e => by cases e⟩⟩
        · have e0 : ρ (.tmp 0) = .pointer (some ⟨rb, 0, none⟩) := hs 0; clear hT hF hk
          exact Reg.Gives.value (v := .pointer (some ⟨rb, 0, none⟩)) (w' := wi) (by go_simp) ⟨fun x h => Option.some.inj h, hI⟩
        · have e29 : ρ (.tmp 29) = .pointer (some ⟨rb, 0, none⟩) := (hd 7 29).trans (hk 7 _ rfl); clear hT hF hk
          exact Reg.Gives.value (v := .pointer (some ⟨rb, 0, none⟩)) (w' := wi) (by go_simp) ⟨fun x h => Option.some.inj h, hI⟩
        · have e30 : ρ (.tmp 30) = .pointer (some ⟨rb, 0, none⟩) := (hd 8 30).trans (hk 8 _ rfl); clear hT hF hk
          exact Reg.Gives.value (v := .pointer (some ⟨rb, 1, none⟩)) (w' := wi) (by go_simp) ⟨fun x h => Option.some.inj h, hI⟩
        · have e31 : ρ (.tmp 31) = .pointer (some ⟨rb, 1, none⟩) := (hd 9 31).trans (hk 9 _ rfl); have hD18 : D 18 = false := hF 1 18; clear hT hF; have hL : Below we.heap.size we wi := (hI.1 hD18).low; have x0 := (HR.out.later hL).cel.cell (j := 1) rfl
          rw [HN.out] at x0
          exact Reg.Gives.value (v := .slice (some ⟨g, 0, none⟩) n ac) (w' := wi) (by go_simp) ⟨fun x h => Option.some.inj h, hI⟩
        · have e1 : ρ (.tmp 1) = .int .i64 (ii : Int) := hs 1; clear hT hF hk
          exact Reg.Gives.value (v := .int .i64 (ii : Int)) (w' := wi) (by go_simp) ⟨fun x h => Option.some.inj h, hI⟩
        · have e32 : ρ (.tmp 32) = .slice (some ⟨g, 0, none⟩) n ac := (hd 10 32).trans (hk 10 _ rfl); have e33 : ρ (.tmp 33) = .int .i64 (ii : Int) := (hd 11 33).trans (hk 11 _ rfl); have hD18 : D 18 = false := hF 1 18; clear hT hF; have hL : Below we.heap.size we wi := (hI.1 hD18).low; have z1 : ii < n := HI.out.1
          have z2 : (ii : Int) < (n : Int) := by omega
          exact Reg.Gives.value (v := .pointer (some ⟨g, ii * 4, none⟩)) (w' := wi) (by go_simp) ⟨fun x h => Option.some.inj h, hI⟩
        · have e34 : ρ (.tmp 34) = .pointer (some ⟨g, ii * 4, none⟩) := (hd 12 34).trans (hk 12 _ rfl); have hD18 : D 18 = false := hF 1 18; clear hT hF; have hL : Below we.heap.size we wi := (hI.1 hD18).low; have y0 := (range_later HPK.out hL) 0 _ rfl
          rw [Nat.add_zero] at y0
          have y1 := (range_later HPK.out hL) 1 _ rfl; have y2 := (range_later HPK.out hL) 2 _ rfl; have y3 := (range_later HPK.out hL) 3 _ rfl
          exact Reg.Gives.value (v := .agg #[.int .i64 p.src, .int .i64 p.dst, .string p.bytes, .bool p.spoilt]) (w' := wi) (by go_simp) ⟨fun x h => Option.some.inj h, hI⟩
        · have e35 : ρ (.tmp 35) = .agg #[.int .i64 p.src, .int .i64 p.dst, .string p.bytes, .bool p.spoilt] := (hd 13 35).trans (hk 13 _ rfl); have hD14 : D 14 = false := hDi; have hD18 : D 18 = false := hF 1 18; clear hT hF; have h1 := hI.1 hD18
          rw [hD14] at h1
          exact Reg.Gives.value (v := .slice (some ⟨wi.heap.size, 0, none⟩) 1 1) (w' := wi.alloc (.cells #[.int .i64 p.src, .int .i64 p.dst, .string p.bytes, .bool p.spoilt] 42)) (by go_simp) ⟨fun x h => (by cases h), by show ((D 18) = false → Ap we (D 1) (cond (D 15) (V 15) (cond (D 6) (V 6) (V 1))) (cond (D 15) (R.fl ++ [p]) (cond (D 6) (R.fl) [])) true (.slice (some ⟨wi.heap.size, 0, none⟩) 1 1) p (wi.alloc (.cells #[.int .i64 p.src, .int .i64 p.dst, .string p.bytes, .bool p.spoilt] 42))) ∧ ((D 18) = true → RStep B rb (some ⟨g, 0, none⟩) C we { R with fl := R.fl ++ [p] } (wi.alloc (.cells #[.int .i64 p.src, .int .i64 p.dst, .string p.bytes, .bool p.spoilt] 42))); rw [hD18]; exact ⟨fun _ => h1.mkx, fun e => by cases e⟩⟩
        · have e28 : ρ (.tmp 28) = V 6 := hd 6 28; have e36 : ρ (.tmp 36) = V 14 := hd 14 36; have hD1 : D 1 = true := hT 2 1; have hD6 : D 6 = true := hT 1 6; have hD14 : D 14 = true := hT 1 14; have hD15 : D 15 = false := hDi; have hD18 : D 18 = false := hF 1 18; clear hT hF; have h1 := hI.1 hD18
          rw [hD1] at h1
          rw [hD6] at h1
          rw [hD15] at h1
          simp only [cond_false, cond_true] at h1
          rw [hD14] at h1
          obtain ⟨g2, A2, n2, c2, w2, hx2, hrun, hn⟩ := h1.one (by have := HR.out.len; omega)
          rw [hx2] at e36
          exact Reg.Gives.value (v := .slice A2 n2 c2) (w' := w2) (Reg.exec_append rfl e28 e36 hrun) ⟨fun x h => (by cases h), by show ((D 18) = false → Ap we (D 1) (cond true (.slice A2 n2 c2) (cond (D 6) (V 6) (V 1))) (cond true (R.fl ++ [p]) (cond (D 6) (R.fl) [])) (D 14) (V 14) p w2) ∧ ((D 18) = true → RStep B rb (some ⟨g, 0, none⟩) C we { R with fl := R.fl ++ [p] } w2); rw [hD1, hD6, hD14, hD18]; simp only [cond_true]; exact ⟨fun _ => hn, fun e => by cases e⟩⟩
        · have e22 : ρ (.tmp 22) = .pointer (some ⟨rb, 0, none⟩) := (hd 0 22).trans (hk 0 _ rfl); clear hT hF hk
          exact Reg.Gives.value (v := .pointer (some ⟨rb, 0, none⟩)) (w' := wi) (by go_simp) ⟨fun x h => Option.some.inj h, hI⟩
        · have e38 : ρ (.tmp 38) = .pointer (some ⟨rb, 0, none⟩) := (hd 16 38).trans (hk 16 _ rfl); clear hT hF hk
          exact Reg.Gives.value (v := .pointer (some ⟨rb, 1, none⟩)) (w' := wi) (by go_simp) ⟨fun x h => Option.some.inj h, hI⟩
        · have e39 : ρ (.tmp 39) = .pointer (some ⟨rb, 1, none⟩) := (hd 17 39).trans (hk 17 _ rfl); have e37 : ρ (.tmp 37) = V 15 := hd 15 37; have hD1 : D 1 = true := hT 1 1; have hD6 : D 6 = true := hT 1 6; have hD15 : D 15 = true := hT 1 15; have hD18 : D 18 = false := hDi; clear hT hF; have h1 := hI.1 hD18
          rw [hD1] at h1
          rw [hD6] at h1
          rw [hD15] at h1
          simp only [cond_true] at h1
          have hac := h1.acc rfl; have hrl := HR.out.later h1.low; have x0 := hrl.cel.cell (j := 1) rfl
          have x1 := hrl.cel.frozen (j := 1) (by simp)
          have hfin := HR.out.newL HBW.out h1.low hac (by exact HFL.out)
          obtain ⟨A2, c2, hv2⟩ := row_slice hac; obtain ⟨n3, hn3⟩ : ∃ n3, List.length (R.fl ++ [p]) = n3 := ⟨_, rfl⟩
          rw [hn3] at hv2
          rw [hv2] at hfin
          have e9 := e37
          rw [hv2] at e9
          clear e37
          exact Reg.Gives.skip (w' := wi.setCell ⟨rb, 1, none⟩ (.slice A2 n3 c2)) (by go_simp) ⟨fun x h => (by cases h), by show (true = false → Ap we (D 1) (cond (D 15) (V 15) (cond (D 6) (V 6) (V 1))) (cond (D 15) (R.fl ++ [p]) (cond (D 6) (R.fl) [])) (D 14) (V 14) p (wi.setCell ⟨rb, 1, none⟩ (.slice A2 n3 c2))) ∧ (true = true → RStep B rb (some ⟨g, 0, none⟩) C we { R with fl := R.fl ++ [p] } (wi.setCell ⟨rb, 1, none⟩ (.slice A2 n3 c2))); exact ⟨fun e => (by cases e), fun _ => hfin⟩⟩
      · intro V wf hk hI
        simp only [Reg.putsO, List.foldl_cons, List.foldl_nil, Act.put, List.setIfInBounds_toArray, List.set_cons_succ, List.set_cons_zero]
        replace hI : ((fun _ => true) 18 = false → Ap we true (cond true (V 15) (cond true (V 6) (V 1))) (cond true (R.fl ++ [p]) (cond true (R.fl) ([]))) true (V 14) p wf) ∧ ((fun _ => true) 18 = true → RStep B rb (some ⟨g, 0, none⟩) C we { R with fl := R.fl ++ [p] } wf) := hI
        clear hk
        have HF := Lib.hid (hI.2 rfl)
        clear hI
        go_wp2_with fail
        go_returns
        exact ⟨rfl, HF.out⟩
    · have e4 : decide ((n : Int) ≥ 256) = true := by simp; omega
      rw [if_neg hful]
      go_enter Try.func17, Try.ntmps17
      go_wp2_with fail
      go_returns
      exact ⟨rfl, RStep.same HR.out (Below.refl _ _)⟩
end Go.Proofs.Ytfhcfiebhagbeaa.Net
