/-
  Layer 13, the document's window within another struct (its first field): what it is asked. Made from XWinRef by program. Conditions: none.
-/
import Derived.Test.YtjfejfhdohpfbaaSesRef1
namespace Go.Proofs.Ytjfejfhdohpfbaa.Ses
set_option maxRecDepth 100000
open Go.RowKit Go.Deep Go.Proofs.Ytjfejfhdohpfbaa.Mem Go.Proofs.Ytjfejfhdohpfbaa.Win

/-- The document's window: its struct lies in block rb, its numbers at A. -/
structure RfO (t : TypeId) (B : Nat) (w : World) (rb : Nat) (L : List Int) (A : Option Addr) (ac : Nat) : Prop where
  cel : Cells w rb t [.slice A L.length ac]
  row : OwnG 3 1 iv B w (.slice A L.length ac) L
  low : B ≤ rb
  nA : ∀ k, blk A = some k → k ≠ rb
section
variable {t : TypeId} {B rb ac : Nat} {w w' : World} {L : List Int} {A : Option Addr}
theorem RfO.only {S : Nat → Prop} (h : RfO t B w rb L A ac) (ho : Only S w w') (h1 : ¬ S rb) (h2 : ∀ k, blk A = some k → ¬ S k) : RfO t B w' rb L A ac :=
  ⟨cells_only h.cel ho h1, row_only h.row ho (fun k e => h2 k (by rw [own_blk] at e; exact e)), h.low, h.nA⟩
theorem RfO.later (h : RfO t B w rb L A ac) (hb : Below w.heap.size w w') : RfO t B w' rb L A ac := h.only (Only.of_below (S := fun _ => False) hb) (fun e => e) fun _ _ e => e
theorem RfO.at (h : RfO t B w rb L A ac) {k : Nat} (hk : k < L.length) : ∃ g off, A = some ⟨g, off, none⟩ ∧ w.cell? ⟨g, off + k, none⟩ = some (.int .i64 L[k]) := by
  obtain ⟨_, hs⟩ := OwnG.sl fit_iv h.row
  obtain ⟨g, off, e, hr⟩ := hs k (by rw [List.length_map]; exact hk)
  rw [List.getElem_map] at hr
  have h0 := hr 0 _ rfl
  rw [Nat.mul_one, Nat.add_zero] at h0
  exact ⟨g, off, e, h0⟩
end
theorem RGreatestO {t : TypeId} {B rb ac : Nat} {w : World} {L : List Int} {A : Option Addr} (h : RfO t B w rb L A ac) (hl : L.length ≤ 1000) :
    Calls Try.prog 80 #[.pointer (some ⟨rb, 0, none⟩)] w fun e w' => e = .returned (.int .i64 (maxL L)) ∧ Below w.heap.size w w' := by
  have HR := Lib.hid h
  obtain ⟨n, hn⟩ : ∃ n, L.length = n := ⟨_, rfl⟩
  have HN := Lib.hid hn
  rw [hn] at hl
  clear h hn
  go_enter Try.func80, Try.ntmps80
  go_wp2_with fail
  go_loopw [3, 4] (fun m i wr => ∃ (k : Nat), k ≤ n ∧ i = .int .i64 (k : Int) ∧ m = .int .i64 (maxL (L.take k)) ∧ Hid (Below w.heap.size w wr)) (fun _ i _ => n - (intOf i).toNat)
  case atStart => exact ⟨0, Nat.zero_le _, rfl, rfl, Lib.hid (Below.refl _ _)⟩
  case round =>
    obtain ⟨k, hkn, rfl, rfl, HB⟩ := hrel
    have hr := HR.out.later HB.out
    have c0 := hr.cel.cell (j := 0) rfl
    rw [HN.out] at c0
    by_cases hlt : k < n
    · have hkl : k < L.length := by rw [HN.out]; exact hlt
      obtain ⟨g, off, rfl, x0⟩ := hr.at hkl
      obtain ⟨p, hp⟩ : ∃ p, L[k] = p := ⟨_, rfl⟩
      rw [hp] at x0
      have htk : L.take (k + 1) = L.take k ++ [p] := by rw [List.take_add_one, List.getElem?_eq_getElem hkl, hp]; rfl
      have hmx := maxL_snoc (L.take k) p
      rw [← htk] at hmx
      obtain ⟨M, hM⟩ : ∃ M, maxL (L.take k) = M := ⟨_, rfl⟩
      rw [hM] at hmx ⊢
      have HMX := Lib.hid hmx
      clear hp htk hmx hkl hM hr
      by_cases hgt : M < p
      · have HE : Hid (maxL (L.take (k + 1)) = p) := Lib.hid (by rw [HMX.out, if_pos hgt])
        go_wp2_with fail
        go_roundw
        case rel => exact ⟨k + 1, by omega, by go_num, by rw [HE.out], HB⟩
        case measure => simp [intOf]; omega
      · have HE : Hid (maxL (L.take (k + 1)) = M) := Lib.hid (by rw [HMX.out, if_neg hgt])
        go_wp2_with fail
        go_roundw
        case rel => exact ⟨k + 1, by omega, by go_num, by rw [HE.out], HB⟩
        case measure => simp [intOf]; omega
    · obtain rfl : k = n := by omega
      have htk : L.take k = L := List.take_of_length_le (by rw [HN.out]; exact Nat.le_refl _)
      have HT := Lib.hid htk
      clear htk hr
      go_wp2_with fail
      go_returns
      exact ⟨ret_int (by rw [HT.out]), HB.out⟩
theorem RSeenO {t : TypeId} {B rb ac : Nat} {w : World} {L : List Int} {A : Option Addr} (h : RfO t B w rb L A ac) (hw : Wok L) (x : Int) (hl : L.length ≤ 1000) :
    Calls Try.prog 75 #[.pointer (some ⟨rb, 0, none⟩), .int .i64 x] w fun e w' => e = .returned (.bool (seenL L x)) ∧ Below w.heap.size w w' := by
  obtain ⟨v, hv⟩ : ∃ v, seenL L x = v := ⟨_, rfl⟩
  rw [hv]
  by_cases hx1 : x < 1
  · obtain rfl : v = true := hv ▸ decide_eq_true (Or.inl hx1)
    clear hv hw h
    go_enter Try.func75, Try.ntmps75
    go_wp2_with fail
    go_returns
    exact ⟨rfl, Below.refl _ _⟩
  by_cases hx2 : 1099511627776 < x
  · obtain rfl : v = true := hv ▸ decide_eq_true (Or.inr (Or.inl hx2))
    clear hv hw h
    go_enter Try.func75, Try.ntmps75
    go_wp2_with fail
    go_returns
    exact ⟨rfl, Below.refl _ _⟩
  have HC := Lib.hid (RGreatestO h hl)
  obtain ⟨hm0, hm1⟩ := hw.max
  obtain ⟨M, hM⟩ : ∃ M, maxL L = M := ⟨_, rfl⟩
  rw [hM] at HC hm0 hm1
  have hwr : IntKind.i64.wrap (M - 64) = M - 64 := by rw [IntKind.wrap_i64]; omega
  by_cases hx3 : x ≤ M - 64
  · obtain rfl : v = true := hv ▸ decide_eq_true (Or.inr (Or.inr (Or.inl (by omega))))
    clear hv hw h hM
    go_enter Try.func75, Try.ntmps75
    go_wp2_with fail
    refine HC.out.mono ?_
    rintro e w1 ⟨rfl, hb1⟩
    go_wp2_with fail
    go_returns
    exact ⟨rfl, hb1⟩
  have HV : Hid (v = decide (x ∈ L)) := Lib.hid (by
    rw [← hv]
    refine decide_eq_decide.2 ⟨fun e => ?_, fun e => Or.inr (Or.inr (Or.inr e))⟩
    rcases e with e | e | e | e
    · omega
    · omega
    · omega
    · exact e)
  have HR := Lib.hid h
  obtain ⟨n, hn⟩ : ∃ n, L.length = n := ⟨_, rfl⟩
  have HN := Lib.hid hn
  rw [hn] at hl
  clear h hn hv hM hw
  go_enter Try.func75, Try.ntmps75
  go_wp2_with fail
  refine HC.out.mono ?_
  rintro e w1 ⟨rfl, hb1⟩
  have HB1 := Lib.hid hb1
  clear hb1 HC
  go_wp2_with fail
  go_loopw [5] (fun i wr => ∃ (k : Nat), k ≤ n ∧ i = .int .i64 (k : Int) ∧ Hid (x ∉ L.take k) ∧ Hid (Below w.heap.size w wr)) (fun i _ => n - (intOf i).toNat)
  case atStart => exact ⟨0, Nat.zero_le _, rfl, Lib.hid (by simp), HB1⟩
  case round =>
    clear HB1
    obtain ⟨k, hkn, rfl, HX, HB⟩ := hrel
    have hr := HR.out.later HB.out
    have c0 := hr.cel.cell (j := 0) rfl
    rw [HN.out] at c0
    by_cases hlt : k < n
    · have hkl : k < L.length := by rw [HN.out]; exact hlt
      obtain ⟨g, off, rfl, x0⟩ := hr.at hkl
      obtain ⟨p, hp⟩ : ∃ p, L[k] = p := ⟨_, rfl⟩
      rw [hp] at x0
      have htk : L.take (k + 1) = L.take k ++ [p] := by rw [List.take_add_one, List.getElem?_eq_getElem hkl, hp]; rfl
      have HT := Lib.hid htk
      have HP : Hid (p ∈ L) := Lib.hid (by rw [← hp]; exact List.getElem_mem hkl)
      clear hp htk hkl hr
      by_cases hpx : p = x
      · subst hpx
        have HE : Hid (v = true) := Lib.hid (by rw [HV.out]; exact decide_eq_true HP.out)
        go_wp2_with fail
        go_returns
        exact ⟨ret_val (by rw [HE.out]; try rfl), HB.out⟩
      · have hpx2 : (p == x) = false := by simpa using hpx
        have HE : Hid (x ∉ L.take (k + 1)) := Lib.hid (by
          rw [HT.out, List.mem_append, List.mem_singleton]
          rintro (e | e)
          · exact HX.out e
          · exact hpx e.symm)
        clear hpx
        go_wp2_with fail
        go_roundw
        case rel => exact ⟨k + 1, by omega, by go_num, HE, HB⟩
        case measure => simp [intOf]; omega
    · obtain rfl : k = n := by omega
      have htk : L.take k = L := List.take_of_length_le (by rw [HN.out]; exact Nat.le_refl _)
      have HE : Hid (v = false) := Lib.hid (by rw [HV.out]; exact decide_eq_false (by rw [← htk]; exact HX.out))
      clear htk hr
      go_wp2_with fail
      go_returns
      exact ⟨ret_val (by rw [HE.out]; try rfl), HB.out⟩
end Go.Proofs.Ytjfejfhdohpfbaa.Ses
