/-
  Layer 8: slices.IndexFunc and slices.ContainsFunc at the ledger's lists: the first place whose test says yes.
  Conditions: none.
-/
import Derived.Test.YtalhbblmnahcdaaGreatPa10
namespace Go.Proofs.YtalhbblmnahcdaaGreat.Led
set_option maxRecDepth 100000
open Go.RowKit Go.Deep Go.Proofs.YtalhbblmnahcdaaGreat.Mem Go.Proofs.YtalhbblmnahcdaaGreat.Item Go.Proofs.YtalhbblmnahcdaaGreat.Rec
set_option maxHeartbeats 1000000 in
theorem idx_lock (A : Option Addr) (vs : List (List Value)) (bs : List Bool) (cap : Nat) (p : Value) (w : World) (h : Sl w A 5 vs) (hz : ∀ k (hk : k < vs.length), vs[k].length = 5) (hb : bs.length = vs.length) (hl : vs.length ≤ 1000000)
  (ht : ∀ k (hk : k < vs.length) (hk' : k < bs.length) w', Below w.heap.size w w' → Calls Tryz.prog 44 #[.agg vs[k].toArray, p] w' fun e w'' => e = .returned (.bool bs[k]) ∧ Below w'.heap.size w' w'') :
  Calls Tryz.prog 81 #[.slice A vs.length cap, .func (.func 44) #[] #[p]] w fun e w' => e = .returned (.int .i64 (idxB bs)) ∧ Below w.heap.size w w' := by
 have HH := Lib.hid h
 have HT := Lib.hid ht
 have HZ := Lib.hid hz
 obtain ⟨F, hF⟩ : ∃ F, idxB bs = F := ⟨_, rfl⟩
 have HF := Lib.hid hF
 rw [hF]
 obtain ⟨n, hn⟩ : ∃ n, vs.length = n := ⟨_, rfl⟩
 have HN := Lib.hid hn
 have HBL := Lib.hid hb
 rw [hn] at hl ⊢
 clear h hF hn hb ht hz
 go_enter Tryz.func81, Tryz.ntmps81
 go_wp2_with fail
 go_loopw [5, 8] (fun _ i wr => ∃ k : Nat, k ≤ n ∧ i = .int .i64 (k : Int) ∧ Hid (∀ j (hj : j < bs.length), j < k → bs[j] = false) ∧ Hid (Below w.heap.size w wr)) (fun _ i _ => n - (intOf i).toNat)
 case atStart => exact ⟨0, Nat.zero_le _, rfl, Lib.hid (fun j _ hj => absurd hj (by omega)), Lib.hid (Below.refl _ _)⟩
 case round =>
  obtain ⟨k, hk, rfl, hd, HB⟩ := hrel
  by_cases hlt : k < n
  ·have hlt' : k < vs.length := by have := HN.out; omega
   have hlb : k < bs.length := by have := HBL.out; omega
   obtain ⟨b, off, hA, hr0⟩ := HH.out k hlt'
   subst hA
   have HR := Lib.hid (range_later hr0 HB.out)
   have HZK := Lib.hid (HZ.out k hlt')
   have HD2 : Hid (bs[k] = false → ∀ j (hj : j < bs.length), j < k + 1 → bs[j] = false) := Lib.hid (fun h0 j hj hjk => by
    by_cases e : j = k
    ·subst e; exact h0
    ·exact hd.out j hj (by omega))
   have HE : Hid (bs[k] = true → F = (k : Int)) := Lib.hid (fun h1 => by rw [← HF.out]; exact idxB_at hlb (fun j hj => hd.out j (by omega) hj) h1)
   have HC := Lib.hid (HT.out k hlt' hlb wr HB.out)
   obtain ⟨y, hy⟩ : ∃ y, bs[k] = y := ⟨_, rfl⟩
   rw [hy] at HD2 HE HC
   obtain ⟨x, hx⟩ : ∃ x, vs[k] = x := ⟨_, rfl⟩
   rw [hx] at HR HC HZK
   clear hr0 hx hy hlt' hlb
   go_wp2_with (refine wpList_load_mid rfl 86 _ rfl b (off + k * 5) rfl x _ HR.out Tryz.underlying86 rfl (by rw [HZK.out]; kernel_rfl) ?_)
   refine HC.out.mono ?_
   rintro e w2 ⟨rfl, hb2⟩
   have HB2 := Lib.hid (HB.out.trans (hb2.mono HB.out.size))
   clear hb2
   cases y with
   | true =>
    have HE2 := Lib.hid (HE.out rfl)
    go_wp2_with fail
    go_returns
    exact ⟨ret_int HE2.out.symm, HB2.out⟩
   | false =>
    have HDD := Lib.hid (HD2.out rfl)
    go_wp2_with fail
    go_roundw
    case rel => exact ⟨k + 1, by omega, by go_num, HDD, HB2⟩
    case measure => simp [intOf]; omega
  ·have HE : Hid (F = -1) := Lib.hid (by rw [← HF.out]; exact idxB_none fun j hj => hd.out j hj (by have := HN.out; have := HBL.out; omega))
   clear hd
   go_wp2_with fail
   go_returns
   exact ⟨ret_int HE.out.symm, HB.out⟩
theorem con_lock (A : Option Addr) (vs : List (List Value)) (bs : List Bool) (cap : Nat) (p : Value) (w : World) (h : Sl w A 5 vs) (hz : ∀ k (hk : k < vs.length), vs[k].length = 5) (hb : bs.length = vs.length) (hl : vs.length ≤ 1000000)
  (ht : ∀ k (hk : k < vs.length) (hk' : k < bs.length) w', Below w.heap.size w w' → Calls Tryz.prog 44 #[.agg vs[k].toArray, p] w' fun e w'' => e = .returned (.bool bs[k]) ∧ Below w'.heap.size w' w'') :
  Calls Tryz.prog 43 #[.slice A vs.length cap, .func (.func 44) #[] #[p]] w fun e w' => e = .returned (.bool (bs.any (fun b => b))) ∧ Below w.heap.size w w' := by
 have HC := Lib.hid (idx_lock A vs bs cap p w h hz hb hl ht)
 have HB := Lib.hid (idxB_nonneg bs)
 obtain ⟨n, hn⟩ : ∃ n, vs.length = n := ⟨_, rfl⟩
 obtain ⟨F, hF⟩ : ∃ F, idxB bs = F := ⟨_, rfl⟩
 rw [hn, hF] at HC
 rw [hF] at HB
 rw [hn, ← HB.out]
 clear h hz hb hl ht hn hF HB
 go_enter Tryz.func43, Tryz.ntmps43
 go_wp2_with fail
 refine HC.out.mono ?_
 rintro e w2 ⟨rfl, hb2⟩
 have HB2 := Lib.hid hb2
 clear hb2
 go_wp2_with fail
 go_returns
 exact ⟨rfl, HB2.out⟩
set_option maxHeartbeats 1000000 in
theorem idx_prep (A : Option Addr) (vs : List (List Value)) (bs : List Bool) (cap : Nat) (p q : Value) (w : World) (h : Sl w A 5 vs) (hz : ∀ k (hk : k < vs.length), vs[k].length = 5) (hb : bs.length = vs.length) (hl : vs.length ≤ 1000000)
  (ht : ∀ k (hk : k < vs.length) (hk' : k < bs.length) w', Below w.heap.size w w' → Calls Tryz.prog 84 #[.agg vs[k].toArray, p, q] w' fun e w'' => e = .returned (.bool bs[k]) ∧ Below w'.heap.size w' w'') :
  Calls Tryz.prog 81 #[.slice A vs.length cap, .func (.func 84) #[] #[p, q]] w fun e w' => e = .returned (.int .i64 (idxB bs)) ∧ Below w.heap.size w w' := by
 have HH := Lib.hid h
 have HT := Lib.hid ht
 have HZ := Lib.hid hz
 obtain ⟨F, hF⟩ : ∃ F, idxB bs = F := ⟨_, rfl⟩
 have HF := Lib.hid hF
 rw [hF]
 obtain ⟨n, hn⟩ : ∃ n, vs.length = n := ⟨_, rfl⟩
 have HN := Lib.hid hn
 have HBL := Lib.hid hb
 rw [hn] at hl ⊢
 clear h hF hn hb ht hz
 go_enter Tryz.func81, Tryz.ntmps81
 go_wp2_with fail
 go_loopw [5, 8] (fun _ i wr => ∃ k : Nat, k ≤ n ∧ i = .int .i64 (k : Int) ∧ Hid (∀ j (hj : j < bs.length), j < k → bs[j] = false) ∧ Hid (Below w.heap.size w wr)) (fun _ i _ => n - (intOf i).toNat)
 case atStart => exact ⟨0, Nat.zero_le _, rfl, Lib.hid (fun j _ hj => absurd hj (by omega)), Lib.hid (Below.refl _ _)⟩
 case round =>
  obtain ⟨k, hk, rfl, hd, HB⟩ := hrel
  by_cases hlt : k < n
  ·have hlt' : k < vs.length := by have := HN.out; omega
   have hlb : k < bs.length := by have := HBL.out; omega
   obtain ⟨b, off, hA, hr0⟩ := HH.out k hlt'
   subst hA
   have HR := Lib.hid (range_later hr0 HB.out)
   have HZK := Lib.hid (HZ.out k hlt')
   have HD2 : Hid (bs[k] = false → ∀ j (hj : j < bs.length), j < k + 1 → bs[j] = false) := Lib.hid (fun h0 j hj hjk => by
    by_cases e : j = k
    ·subst e; exact h0
    ·exact hd.out j hj (by omega))
   have HE : Hid (bs[k] = true → F = (k : Int)) := Lib.hid (fun h1 => by rw [← HF.out]; exact idxB_at hlb (fun j hj => hd.out j (by omega) hj) h1)
   have HC := Lib.hid (HT.out k hlt' hlb wr HB.out)
   obtain ⟨y, hy⟩ : ∃ y, bs[k] = y := ⟨_, rfl⟩
   rw [hy] at HD2 HE HC
   obtain ⟨x, hx⟩ : ∃ x, vs[k] = x := ⟨_, rfl⟩
   rw [hx] at HR HC HZK
   clear hr0 hx hy hlt' hlb
   go_wp2_with (refine wpList_load_mid rfl 86 _ rfl b (off + k * 5) rfl x _ HR.out Tryz.underlying86 rfl (by rw [HZK.out]; kernel_rfl) ?_)
   refine HC.out.mono ?_
   rintro e w2 ⟨rfl, hb2⟩
   have HB2 := Lib.hid (HB.out.trans (hb2.mono HB.out.size))
   clear hb2
   cases y with
   | true =>
    have HE2 := Lib.hid (HE.out rfl)
    go_wp2_with fail
    go_returns
    exact ⟨ret_int HE2.out.symm, HB2.out⟩
   | false =>
    have HDD := Lib.hid (HD2.out rfl)
    go_wp2_with fail
    go_roundw
    case rel => exact ⟨k + 1, by omega, by go_num, HDD, HB2⟩
    case measure => simp [intOf]; omega
  ·have HE : Hid (F = -1) := Lib.hid (by rw [← HF.out]; exact idxB_none fun j hj => hd.out j hj (by have := HN.out; have := HBL.out; omega))
   clear hd
   go_wp2_with fail
   go_returns
   exact ⟨ret_int HE.out.symm, HB.out⟩
set_option maxHeartbeats 1000000 in
theorem idx_dec (A : Option Addr) (vs : List (List Value)) (bs : List Bool) (cap : Nat) (p q : Value) (w : World) (h : Sl w A 4 vs) (hz : ∀ k (hk : k < vs.length), vs[k].length = 4) (hb : bs.length = vs.length) (hl : vs.length ≤ 1000000)
  (ht : ∀ k (hk : k < vs.length) (hk' : k < bs.length) w', Below w.heap.size w w' → Calls Tryz.prog 86 #[.agg vs[k].toArray, p, q] w' fun e w'' => e = .returned (.bool bs[k]) ∧ Below w'.heap.size w' w'') :
  Calls Tryz.prog 85 #[.slice A vs.length cap, .func (.func 86) #[] #[p, q]] w fun e w' => e = .returned (.int .i64 (idxB bs)) ∧ Below w.heap.size w w' := by
 have HH := Lib.hid h
 have HT := Lib.hid ht
 have HZ := Lib.hid hz
 obtain ⟨F, hF⟩ : ∃ F, idxB bs = F := ⟨_, rfl⟩
 have HF := Lib.hid hF
 rw [hF]
 obtain ⟨n, hn⟩ : ∃ n, vs.length = n := ⟨_, rfl⟩
 have HN := Lib.hid hn
 have HBL := Lib.hid hb
 rw [hn] at hl ⊢
 clear h hF hn hb ht hz
 go_enter Tryz.func85, Tryz.ntmps85
 go_wp2_with fail
 go_loopw [5, 8] (fun _ i wr => ∃ k : Nat, k ≤ n ∧ i = .int .i64 (k : Int) ∧ Hid (∀ j (hj : j < bs.length), j < k → bs[j] = false) ∧ Hid (Below w.heap.size w wr)) (fun _ i _ => n - (intOf i).toNat)
 case atStart => exact ⟨0, Nat.zero_le _, rfl, Lib.hid (fun j _ hj => absurd hj (by omega)), Lib.hid (Below.refl _ _)⟩
 case round =>
  obtain ⟨k, hk, rfl, hd, HB⟩ := hrel
  by_cases hlt : k < n
  ·have hlt' : k < vs.length := by have := HN.out; omega
   have hlb : k < bs.length := by have := HBL.out; omega
   obtain ⟨b, off, hA, hr0⟩ := HH.out k hlt'
   subst hA
   have HR := Lib.hid (range_later hr0 HB.out)
   have HZK := Lib.hid (HZ.out k hlt')
   have HD2 : Hid (bs[k] = false → ∀ j (hj : j < bs.length), j < k + 1 → bs[j] = false) := Lib.hid (fun h0 j hj hjk => by
    by_cases e : j = k
    ·subst e; exact h0
    ·exact hd.out j hj (by omega))
   have HE : Hid (bs[k] = true → F = (k : Int)) := Lib.hid (fun h1 => by rw [← HF.out]; exact idxB_at hlb (fun j hj => hd.out j (by omega) hj) h1)
   have HC := Lib.hid (HT.out k hlt' hlb wr HB.out)
   obtain ⟨y, hy⟩ : ∃ y, bs[k] = y := ⟨_, rfl⟩
   rw [hy] at HD2 HE HC
   obtain ⟨x, hx⟩ : ∃ x, vs[k] = x := ⟨_, rfl⟩
   rw [hx] at HR HC HZK
   clear hr0 hx hy hlt' hlb
   go_wp2_with (refine wpList_load_mid rfl 87 _ rfl b (off + k * 4) rfl x _ HR.out Tryz.underlying87 rfl (by rw [HZK.out]; kernel_rfl) ?_)
   refine HC.out.mono ?_
   rintro e w2 ⟨rfl, hb2⟩
   have HB2 := Lib.hid (HB.out.trans (hb2.mono HB.out.size))
   clear hb2
   cases y with
   | true =>
    have HE2 := Lib.hid (HE.out rfl)
    go_wp2_with fail
    go_returns
    exact ⟨ret_int HE2.out.symm, HB2.out⟩
   | false =>
    have HDD := Lib.hid (HD2.out rfl)
    go_wp2_with fail
    go_roundw
    case rel => exact ⟨k + 1, by omega, by go_num, HDD, HB2⟩
    case measure => simp [intOf]; omega
  ·have HE : Hid (F = -1) := Lib.hid (by rw [← HF.out]; exact idxB_none fun j hj => hd.out j hj (by have := HN.out; have := HBL.out; omega))
   clear hd
   go_wp2_with fail
   go_returns
   exact ⟨ret_int HE.out.symm, HB.out⟩
set_option maxHeartbeats 1000000 in
theorem idx_com (A : Option Addr) (vs : List (List Value)) (bs : List Bool) (cap : Nat) (p q : Value) (w : World) (h : Sl w A 6 vs) (hz : ∀ k (hk : k < vs.length), vs[k].length = 6) (hb : bs.length = vs.length) (hl : vs.length ≤ 1000000)
  (ht : ∀ k (hk : k < vs.length) (hk' : k < bs.length) w', Below w.heap.size w w' → Calls Tryz.prog 88 #[.agg vs[k].toArray, p, q] w' fun e w'' => e = .returned (.bool bs[k]) ∧ Below w'.heap.size w' w'') :
  Calls Tryz.prog 87 #[.slice A vs.length cap, .func (.func 88) #[] #[p, q]] w fun e w' => e = .returned (.int .i64 (idxB bs)) ∧ Below w.heap.size w w' := by
 have HH := Lib.hid h
 have HT := Lib.hid ht
 have HZ := Lib.hid hz
 obtain ⟨F, hF⟩ : ∃ F, idxB bs = F := ⟨_, rfl⟩
 have HF := Lib.hid hF
 rw [hF]
 obtain ⟨n, hn⟩ : ∃ n, vs.length = n := ⟨_, rfl⟩
 have HN := Lib.hid hn
 have HBL := Lib.hid hb
 rw [hn] at hl ⊢
 clear h hF hn hb ht hz
 go_enter Tryz.func87, Tryz.ntmps87
 go_wp2_with fail
 go_loopw [5, 8] (fun _ i wr => ∃ k : Nat, k ≤ n ∧ i = .int .i64 (k : Int) ∧ Hid (∀ j (hj : j < bs.length), j < k → bs[j] = false) ∧ Hid (Below w.heap.size w wr)) (fun _ i _ => n - (intOf i).toNat)
 case atStart => exact ⟨0, Nat.zero_le _, rfl, Lib.hid (fun j _ hj => absurd hj (by omega)), Lib.hid (Below.refl _ _)⟩
 case round =>
  obtain ⟨k, hk, rfl, hd, HB⟩ := hrel
  by_cases hlt : k < n
  ·have hlt' : k < vs.length := by have := HN.out; omega
   have hlb : k < bs.length := by have := HBL.out; omega
   obtain ⟨b, off, hA, hr0⟩ := HH.out k hlt'
   subst hA
   have HR := Lib.hid (range_later hr0 HB.out)
   have HZK := Lib.hid (HZ.out k hlt')
   have HD2 : Hid (bs[k] = false → ∀ j (hj : j < bs.length), j < k + 1 → bs[j] = false) := Lib.hid (fun h0 j hj hjk => by
    by_cases e : j = k
    ·subst e; exact h0
    ·exact hd.out j hj (by omega))
   have HE : Hid (bs[k] = true → F = (k : Int)) := Lib.hid (fun h1 => by rw [← HF.out]; exact idxB_at hlb (fun j hj => hd.out j (by omega) hj) h1)
   have HC := Lib.hid (HT.out k hlt' hlb wr HB.out)
   obtain ⟨y, hy⟩ : ∃ y, bs[k] = y := ⟨_, rfl⟩
   rw [hy] at HD2 HE HC
   obtain ⟨x, hx⟩ : ∃ x, vs[k] = x := ⟨_, rfl⟩
   rw [hx] at HR HC HZK
   clear hr0 hx hy hlt' hlb
   go_wp2_with (refine wpList_load_mid rfl 88 _ rfl b (off + k * 6) rfl x _ HR.out Tryz.underlying88 rfl (by rw [HZK.out]; kernel_rfl) ?_)
   refine HC.out.mono ?_
   rintro e w2 ⟨rfl, hb2⟩
   have HB2 := Lib.hid (HB.out.trans (hb2.mono HB.out.size))
   clear hb2
   cases y with
   | true =>
    have HE2 := Lib.hid (HE.out rfl)
    go_wp2_with fail
    go_returns
    exact ⟨ret_int HE2.out.symm, HB2.out⟩
   | false =>
    have HDD := Lib.hid (HD2.out rfl)
    go_wp2_with fail
    go_roundw
    case rel => exact ⟨k + 1, by omega, by go_num, HDD, HB2⟩
    case measure => simp [intOf]; omega
  ·have HE : Hid (F = -1) := Lib.hid (by rw [← HF.out]; exact idxB_none fun j hj => hd.out j hj (by have := HN.out; have := HBL.out; omega))
   clear hd
   go_wp2_with fail
   go_returns
   exact ⟨ret_int HE.out.symm, HB.out⟩
set_option maxHeartbeats 1000000 in
theorem idx_above (A : Option Addr) (vs : List Int) (bs : List Bool) (cap : Nat) (p : Value) (w : World) (h : Nums w A vs) (hb : bs.length = vs.length) (hl : vs.length ≤ 1000000)
  (ht : ∀ k (hk : k < vs.length) (hk' : k < bs.length) w', Below w.heap.size w w' → Calls Tryz.prog 110 #[.int .i64 vs[k], p] w' fun e w'' => e = .returned (.bool bs[k]) ∧ Below w'.heap.size w' w'') :
  Calls Tryz.prog 120 #[.slice A vs.length cap, .func (.func 110) #[] #[p]] w fun e w' => e = .returned (.int .i64 (idxB bs)) ∧ Below w.heap.size w w' := by
 have HH := Lib.hid h
 have HT := Lib.hid ht
 obtain ⟨F, hF⟩ : ∃ F, idxB bs = F := ⟨_, rfl⟩
 have HF := Lib.hid hF
 rw [hF]
 obtain ⟨n, hn⟩ : ∃ n, vs.length = n := ⟨_, rfl⟩
 have HN := Lib.hid hn
 have HBL := Lib.hid hb
 rw [hn] at hl ⊢
 clear h hF hn hb ht
 go_enter Tryz.func120, Tryz.ntmps120
 go_wp2_with fail
 go_loopw [5, 8] (fun _ i wr => ∃ k : Nat, k ≤ n ∧ i = .int .i64 (k : Int) ∧ Hid (∀ j (hj : j < bs.length), j < k → bs[j] = false) ∧ Hid (Below w.heap.size w wr)) (fun _ i _ => n - (intOf i).toNat)
 case atStart => exact ⟨0, Nat.zero_le _, rfl, Lib.hid (fun j _ hj => absurd hj (by omega)), Lib.hid (Below.refl _ _)⟩
 case round =>
  obtain ⟨k, hk, rfl, hd, HB⟩ := hrel
  by_cases hlt : k < n
  ·have hlt' : k < vs.length := by have := HN.out; omega
   have hlb : k < bs.length := by have := HBL.out; omega
   obtain ⟨b, off, hA, hr0⟩ := HH.out k hlt'
   subst hA
   have c0 := (HB.out.cell (block_of_cell hr0)).trans hr0
   have HD2 : Hid (bs[k] = false → ∀ j (hj : j < bs.length), j < k + 1 → bs[j] = false) := Lib.hid (fun h0 j hj hjk => by
    by_cases e : j = k
    ·subst e; exact h0
    ·exact hd.out j hj (by omega))
   have HE : Hid (bs[k] = true → F = (k : Int)) := Lib.hid (fun h1 => by rw [← HF.out]; exact idxB_at hlb (fun j hj => hd.out j (by omega) hj) h1)
   have HC := Lib.hid (HT.out k hlt' hlb wr HB.out)
   obtain ⟨y, hy⟩ : ∃ y, bs[k] = y := ⟨_, rfl⟩
   rw [hy] at HD2 HE HC
   obtain ⟨x, hx⟩ : ∃ x, vs[k] = x := ⟨_, rfl⟩
   rw [hx] at HC c0
   clear hr0 hx hy hlt' hlb
   go_wp2_with fail
   refine HC.out.mono ?_
   rintro e w2 ⟨rfl, hb2⟩
   have HB2 := Lib.hid (HB.out.trans (hb2.mono HB.out.size))
   clear hb2
   cases y with
   | true =>
    have HE2 := Lib.hid (HE.out rfl)
    go_wp2_with fail
    go_returns
    exact ⟨ret_int HE2.out.symm, HB2.out⟩
   | false =>
    have HDD := Lib.hid (HD2.out rfl)
    go_wp2_with fail
    go_roundw
    case rel => exact ⟨k + 1, by omega, by go_num, HDD, HB2⟩
    case measure => simp [intOf]; omega
  ·have HE : Hid (F = -1) := Lib.hid (by rw [← HF.out]; exact idxB_none fun j hj => hd.out j hj (by have := HN.out; have := HBL.out; omega))
   clear hd
   go_wp2_with fail
   go_returns
   exact ⟨ret_int HE.out.symm, HB.out⟩
theorem con_above (A : Option Addr) (vs : List Int) (bs : List Bool) (cap : Nat) (p : Value) (w : World) (h : Nums w A vs) (hb : bs.length = vs.length) (hl : vs.length ≤ 1000000)
  (ht : ∀ k (hk : k < vs.length) (hk' : k < bs.length) w', Below w.heap.size w w' → Calls Tryz.prog 110 #[.int .i64 vs[k], p] w' fun e w'' => e = .returned (.bool bs[k]) ∧ Below w'.heap.size w' w'') :
  Calls Tryz.prog 109 #[.slice A vs.length cap, .func (.func 110) #[] #[p]] w fun e w' => e = .returned (.bool (bs.any (fun b => b))) ∧ Below w.heap.size w w' := by
 have HC := Lib.hid (idx_above A vs bs cap p w h hb hl ht)
 have HB := Lib.hid (idxB_nonneg bs)
 obtain ⟨n, hn⟩ : ∃ n, vs.length = n := ⟨_, rfl⟩
 obtain ⟨F, hF⟩ : ∃ F, idxB bs = F := ⟨_, rfl⟩
 rw [hn, hF] at HC
 rw [hF] at HB
 rw [hn, ← HB.out]
 clear h hb hl ht hn hF HB
 go_enter Tryz.func109, Tryz.ntmps109
 go_wp2_with fail
 refine HC.out.mono ?_
 rintro e w2 ⟨rfl, hb2⟩
 have HB2 := Lib.hid hb2
 clear hb2
 go_wp2_with fail
 go_returns
 exact ⟨rfl, HB2.out⟩
set_option maxHeartbeats 1000000 in
theorem idx_all (A : Option Addr) (vs : List (List Value)) (bs : List Bool) (cap : Nat) (p : Value) (w : World) (h : Sl w A 5 vs) (hz : ∀ k (hk : k < vs.length), vs[k].length = 5) (hb : bs.length = vs.length) (hl : vs.length ≤ 1000000)
  (ht : ∀ k (hk : k < vs.length) (hk' : k < bs.length) w', Below w.heap.size w w' → Calls Tryz.prog 112 #[.agg vs[k].toArray, p] w' fun e w'' => e = .returned (.bool bs[k]) ∧ Below w'.heap.size w' w'') :
  Calls Tryz.prog 82 #[.slice A vs.length cap, .func (.func 112) #[] #[p]] w fun e w' => e = .returned (.int .i64 (idxB bs)) ∧ Below w.heap.size w w' := by
 have HH := Lib.hid h
 have HT := Lib.hid ht
 have HZ := Lib.hid hz
 obtain ⟨F, hF⟩ : ∃ F, idxB bs = F := ⟨_, rfl⟩
 have HF := Lib.hid hF
 rw [hF]
 obtain ⟨n, hn⟩ : ∃ n, vs.length = n := ⟨_, rfl⟩
 have HN := Lib.hid hn
 have HBL := Lib.hid hb
 rw [hn] at hl ⊢
 clear h hF hn hb ht hz
 go_enter Tryz.func82, Tryz.ntmps82
 go_wp2_with fail
 go_loopw [5, 8] (fun _ i wr => ∃ k : Nat, k ≤ n ∧ i = .int .i64 (k : Int) ∧ Hid (∀ j (hj : j < bs.length), j < k → bs[j] = false) ∧ Hid (Below w.heap.size w wr)) (fun _ i _ => n - (intOf i).toNat)
 case atStart => exact ⟨0, Nat.zero_le _, rfl, Lib.hid (fun j _ hj => absurd hj (by omega)), Lib.hid (Below.refl _ _)⟩
 case round =>
  obtain ⟨k, hk, rfl, hd, HB⟩ := hrel
  by_cases hlt : k < n
  ·have hlt' : k < vs.length := by have := HN.out; omega
   have hlb : k < bs.length := by have := HBL.out; omega
   obtain ⟨b, off, hA, hr0⟩ := HH.out k hlt'
   subst hA
   have HR := Lib.hid (range_later hr0 HB.out)
   have HZK := Lib.hid (HZ.out k hlt')
   have HD2 : Hid (bs[k] = false → ∀ j (hj : j < bs.length), j < k + 1 → bs[j] = false) := Lib.hid (fun h0 j hj hjk => by
    by_cases e : j = k
    ·subst e; exact h0
    ·exact hd.out j hj (by omega))
   have HE : Hid (bs[k] = true → F = (k : Int)) := Lib.hid (fun h1 => by rw [← HF.out]; exact idxB_at hlb (fun j hj => hd.out j (by omega) hj) h1)
   have HC := Lib.hid (HT.out k hlt' hlb wr HB.out)
   obtain ⟨y, hy⟩ : ∃ y, bs[k] = y := ⟨_, rfl⟩
   rw [hy] at HD2 HE HC
   obtain ⟨x, hx⟩ : ∃ x, vs[k] = x := ⟨_, rfl⟩
   rw [hx] at HR HC HZK
   clear hr0 hx hy hlt' hlb
   go_wp2_with (refine wpList_load_mid rfl 72 _ rfl b (off + k * 5) rfl x _ HR.out Tryz.underlying72 rfl (by rw [HZK.out]; kernel_rfl) ?_)
   refine HC.out.mono ?_
   rintro e w2 ⟨rfl, hb2⟩
   have HB2 := Lib.hid (HB.out.trans (hb2.mono HB.out.size))
   clear hb2
   cases y with
   | true =>
    have HE2 := Lib.hid (HE.out rfl)
    go_wp2_with fail
    go_returns
    exact ⟨ret_int HE2.out.symm, HB2.out⟩
   | false =>
    have HDD := Lib.hid (HD2.out rfl)
    go_wp2_with fail
    go_roundw
    case rel => exact ⟨k + 1, by omega, by go_num, HDD, HB2⟩
    case measure => simp [intOf]; omega
  ·have HE : Hid (F = -1) := Lib.hid (by rw [← HF.out]; exact idxB_none fun j hj => hd.out j hj (by have := HN.out; have := HBL.out; omega))
   clear hd
   go_wp2_with fail
   go_returns
   exact ⟨ret_int HE.out.symm, HB.out⟩
theorem con_all (A : Option Addr) (vs : List (List Value)) (bs : List Bool) (cap : Nat) (p : Value) (w : World) (h : Sl w A 5 vs) (hz : ∀ k (hk : k < vs.length), vs[k].length = 5) (hb : bs.length = vs.length) (hl : vs.length ≤ 1000000)
  (ht : ∀ k (hk : k < vs.length) (hk' : k < bs.length) w', Below w.heap.size w w' → Calls Tryz.prog 112 #[.agg vs[k].toArray, p] w' fun e w'' => e = .returned (.bool bs[k]) ∧ Below w'.heap.size w' w'') :
  Calls Tryz.prog 111 #[.slice A vs.length cap, .func (.func 112) #[] #[p]] w fun e w' => e = .returned (.bool (bs.any (fun b => b))) ∧ Below w.heap.size w w' := by
 have HC := Lib.hid (idx_all A vs bs cap p w h hz hb hl ht)
 have HB := Lib.hid (idxB_nonneg bs)
 obtain ⟨n, hn⟩ : ∃ n, vs.length = n := ⟨_, rfl⟩
 obtain ⟨F, hF⟩ : ∃ F, idxB bs = F := ⟨_, rfl⟩
 rw [hn, hF] at HC
 rw [hF] at HB
 rw [hn, ← HB.out]
 clear h hz hb hl ht hn hF HB
 go_enter Tryz.func111, Tryz.ntmps111
 go_wp2_with fail
 refine HC.out.mono ?_
 rintro e w2 ⟨rfl, hb2⟩
 have HB2 := Lib.hid hb2
 clear hb2
 go_wp2_with fail
 go_returns
 exact ⟨rfl, HB2.out⟩
end Go.Proofs.YtalhbblmnahcdaaGreat.Led
