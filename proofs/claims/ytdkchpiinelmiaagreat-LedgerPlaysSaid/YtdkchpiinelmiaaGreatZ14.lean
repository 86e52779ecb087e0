/- Part 14 of the proof. Conditions: none. -/
import Derived.Test.YtdkchpiinelmiaaGreatZ5
namespace Go.Proofs.YtdkchpiinelmiaaGreat.Led
set_option maxRecDepth 100000
open Go.RowKit Go.Deep Mem fN Rec
set_option maxHeartbeats 1000000 in
theorem Ir (A : Option Addr) (vs : List (List Value)) (bs : List Bool) (cap : Nat) (p : Value) (w : World) (h : Sl w A 5 vs) (hz : ∀ k (hk : k < vs.length), vs[k].length = 5) (hb : bs.length = vs.length) (hl : vs.length <= 1000000)
  (ht : ∀ k (hk : k < vs.length) (hk' : k < bs.length) w', Below w.heap.size w w' -> Calls Tryz.prog 38 #[.agg vs[k].toArray, p] w' fun e w'' => e = .returned (.bool bs[k]) /\ Below w'.heap.size w' w'') :
  Calls Tryz.prog 73 #[.slice A vs.length cap, .func (.func 38) #[] #[p]] w fun e w' => e = .returned (iv (dV bs)) /\ Below w.heap.size w w' := by
 have HH := ak h; have HT := ak ht; have HZ := ak hz; obtain ⟨F, hF⟩ := ah (dV bs); have HF := ak hF; rw [hF]; obtain ⟨n, hn⟩ := ah vs.length; have HN := ak hn; have kd := ak hb; rw [hn] at hl ⊢; clear h hF hn hb ht hz
 go_enter Tryz.func73, Tryz.ntmps73
 go_wp2_with fail
 go_loopw [5, 8] (fun _ i wr => ∃ k : Nat, k <= n /\ i = iv (k : Int) /\ Hid (∀ j (hj : j < bs.length), j < k -> bs[j] = false) /\ Hid (Below w.heap.size w wr)) (fun _ i _ => n - (intOf i).toNat)
 case atStart => exact ⟨0, Nat.zero_le _, rfl, ak (fun j _ hj => absurd hj (by omega)), ak (Below.refl _ _)⟩
 case round =>
  obtain ⟨k, hk, rfl, hd, HB⟩ := hrel
  by_cases hlt : k < n
  ·have hlt' : k < vs.length := by have := HN.o; omega
   have hlb : k < bs.length := by have := kd.o; omega
   obtain ⟨b, off, hA, bS⟩ := HH.o k hlt'; subst hA; have HR := ak (aM bS HB.o); have qV := ak (HZ.o k hlt'); have jL : Hid (bs[k] = false -> ∀ j (hj : j < bs.length), j < k + 1 -> bs[j] = false) := ak (fun h0 j hj hjk => by
    by_cases e : j = k
    ·subst e; exact h0
    exact hd.o j hj (by omega))
   have HE : Hid (bs[k] = true -> F = (k : Int)) := ak (fun h1 => by rw [<- HF.o]; exact gW hlb (fun j hj => hd.o j (by omega) hj) h1); have HC := ak (HT.o k hlt' hlb wr HB.o); obtain ⟨y, hy⟩ := ah (bs[k]); rw [hy] at jL HE HC; obtain ⟨x, hx⟩ := ah (vs[k]); rw [hx] at HR HC qV; clear bS hx hy hlt' hlb
   go_wp2_with (refine wpList_load_mid rfl 78 _ rfl b (off + k * 5) rfl x _ HR.o Tryz.underlying78 rfl (by rw [qV.o]; kernel_rfl) ?_)
   refine HC.o.mono ?_; rintro e w2 ⟨rfl, hb2⟩; have bZ := ak (HB.o.trans (hb2.mono HB.o.size)); clear hb2
   cases y with
   | true =>
    have rJ := ak (HE.o rfl)
    go_wp2_with fail
    go_returns
    exact ⟨aL rJ.o.symm, bZ.o⟩
   | false =>
    have rK := ak (jL.o rfl)
    go_wp2_with fail
    go_roundw
    case rel => exact ⟨k + 1, by omega, by go_num, rK, bZ⟩
    case measure => simp [intOf]; omega
  have HE : Hid (F = -1) := ak (by rw [<- HF.o]; exact eP fun j hj => hd.o j hj (by have := HN.o; have := kd.o; omega))
  clear hd
  go_wp2_with fail
  go_returns
  exact ⟨aL HE.o.symm, HB.o⟩
theorem IE (A : Option Addr) (vs : List (List Value)) (bs : List Bool) (cap : Nat) (p : Value) (w : World) (h : Sl w A 5 vs) (hz : ∀ k (hk : k < vs.length), vs[k].length = 5) (hb : bs.length = vs.length) (hl : vs.length <= 1000000)
  (ht : ∀ k (hk : k < vs.length) (hk' : k < bs.length) w', Below w.heap.size w w' -> Calls Tryz.prog 38 #[.agg vs[k].toArray, p] w' fun e w'' => e = .returned (.bool bs[k]) /\ Below w'.heap.size w' w'') :
  Calls Tryz.prog 37 #[.slice A vs.length cap, .func (.func 38) #[] #[p]] w fun e w' => e = .returned (.bool (bs.any (fun b => b))) /\ Below w.heap.size w w' := by
 have HC := ak (Ir A vs bs cap p w h hz hb hl ht); have HB := ak (ij bs); obtain ⟨n, hn⟩ := ah vs.length; obtain ⟨F, hF⟩ := ah (dV bs); rw [hn, hF] at HC; rw [hF] at HB; rw [hn, <- HB.o]; clear h hz hb hl ht hn hF HB
 go_enter Tryz.func37, Tryz.ntmps37
 go_wp2_with fail
 refine HC.o.mono ?_; rintro e w2 ⟨rfl, hb2⟩; have bZ := ak hb2; clear hb2
 go_wp2_with fail
 go_returns
 exact ⟨rfl, bZ.o⟩
set_option maxHeartbeats 1000000 in
theorem Iq (A : Option Addr) (vs : List (List Value)) (bs : List Bool) (cap : Nat) (p q : Value) (w : World) (h : Sl w A 5 vs) (hz : ∀ k (hk : k < vs.length), vs[k].length = 5) (hb : bs.length = vs.length) (hl : vs.length <= 1000000)
  (ht : ∀ k (hk : k < vs.length) (hk' : k < bs.length) w', Below w.heap.size w w' -> Calls Tryz.prog 76 #[.agg vs[k].toArray, p, q] w' fun e w'' => e = .returned (.bool bs[k]) /\ Below w'.heap.size w' w'') :
  Calls Tryz.prog 73 #[.slice A vs.length cap, .func (.func 76) #[] #[p, q]] w fun e w' => e = .returned (iv (dV bs)) /\ Below w.heap.size w w' := by
 have HH := ak h; have HT := ak ht; have HZ := ak hz; obtain ⟨F, hF⟩ := ah (dV bs); have HF := ak hF; rw [hF]; obtain ⟨n, hn⟩ := ah vs.length; have HN := ak hn; have kd := ak hb; rw [hn] at hl ⊢; clear h hF hn hb ht hz
 go_enter Tryz.func73, Tryz.ntmps73
 go_wp2_with fail
 go_loopw [5, 8] (fun _ i wr => ∃ k : Nat, k <= n /\ i = iv (k : Int) /\ Hid (∀ j (hj : j < bs.length), j < k -> bs[j] = false) /\ Hid (Below w.heap.size w wr)) (fun _ i _ => n - (intOf i).toNat)
 case atStart => exact ⟨0, Nat.zero_le _, rfl, ak (fun j _ hj => absurd hj (by omega)), ak (Below.refl _ _)⟩
 case round =>
  obtain ⟨k, hk, rfl, hd, HB⟩ := hrel
  by_cases hlt : k < n
  ·have hlt' : k < vs.length := by have := HN.o; omega
   have hlb : k < bs.length := by have := kd.o; omega
   obtain ⟨b, off, hA, bS⟩ := HH.o k hlt'; subst hA; have HR := ak (aM bS HB.o); have qV := ak (HZ.o k hlt'); have jL : Hid (bs[k] = false -> ∀ j (hj : j < bs.length), j < k + 1 -> bs[j] = false) := ak (fun h0 j hj hjk => by
    by_cases e : j = k
    ·subst e; exact h0
    exact hd.o j hj (by omega))
   have HE : Hid (bs[k] = true -> F = (k : Int)) := ak (fun h1 => by rw [<- HF.o]; exact gW hlb (fun j hj => hd.o j (by omega) hj) h1); have HC := ak (HT.o k hlt' hlb wr HB.o); obtain ⟨y, hy⟩ := ah (bs[k]); rw [hy] at jL HE HC; obtain ⟨x, hx⟩ := ah (vs[k]); rw [hx] at HR HC qV; clear bS hx hy hlt' hlb
   go_wp2_with (refine wpList_load_mid rfl 78 _ rfl b (off + k * 5) rfl x _ HR.o Tryz.underlying78 rfl (by rw [qV.o]; kernel_rfl) ?_)
   refine HC.o.mono ?_; rintro e w2 ⟨rfl, hb2⟩; have bZ := ak (HB.o.trans (hb2.mono HB.o.size)); clear hb2
   cases y with
   | true =>
    have rJ := ak (HE.o rfl)
    go_wp2_with fail
    go_returns
    exact ⟨aL rJ.o.symm, bZ.o⟩
   | false =>
    have rK := ak (jL.o rfl)
    go_wp2_with fail
    go_roundw
    case rel => exact ⟨k + 1, by omega, by go_num, rK, bZ⟩
    case measure => simp [intOf]; omega
  have HE : Hid (F = -1) := ak (by rw [<- HF.o]; exact eP fun j hj => hd.o j hj (by have := HN.o; have := kd.o; omega))
  clear hd
  go_wp2_with fail
  go_returns
  exact ⟨aL HE.o.symm, HB.o⟩
set_option maxHeartbeats 1000000 in
theorem Kg (A : Option Addr) (vs : List (List Value)) (bs : List Bool) (cap : Nat) (p q : Value) (w : World) (h : Sl w A 4 vs) (hz : ∀ k (hk : k < vs.length), vs[k].length = 4) (hb : bs.length = vs.length) (hl : vs.length <= 1000000)
  (ht : ∀ k (hk : k < vs.length) (hk' : k < bs.length) w', Below w.heap.size w w' -> Calls Tryz.prog 78 #[.agg vs[k].toArray, p, q] w' fun e w'' => e = .returned (.bool bs[k]) /\ Below w'.heap.size w' w'') :
  Calls Tryz.prog 77 #[.slice A vs.length cap, .func (.func 78) #[] #[p, q]] w fun e w' => e = .returned (iv (dV bs)) /\ Below w.heap.size w w' := by
 have HH := ak h; have HT := ak ht; have HZ := ak hz; obtain ⟨F, hF⟩ := ah (dV bs); have HF := ak hF; rw [hF]; obtain ⟨n, hn⟩ := ah vs.length; have HN := ak hn; have kd := ak hb; rw [hn] at hl ⊢; clear h hF hn hb ht hz
 go_enter Tryz.func77, Tryz.ntmps77
 go_wp2_with fail
 go_loopw [5, 8] (fun _ i wr => ∃ k : Nat, k <= n /\ i = iv (k : Int) /\ Hid (∀ j (hj : j < bs.length), j < k -> bs[j] = false) /\ Hid (Below w.heap.size w wr)) (fun _ i _ => n - (intOf i).toNat)
 case atStart => exact ⟨0, Nat.zero_le _, rfl, ak (fun j _ hj => absurd hj (by omega)), ak (Below.refl _ _)⟩
 case round =>
  obtain ⟨k, hk, rfl, hd, HB⟩ := hrel
  by_cases hlt : k < n
  ·have hlt' : k < vs.length := by have := HN.o; omega
   have hlb : k < bs.length := by have := kd.o; omega
   obtain ⟨b, off, hA, bS⟩ := HH.o k hlt'; subst hA; have HR := ak (aM bS HB.o); have qV := ak (HZ.o k hlt'); have jL : Hid (bs[k] = false -> ∀ j (hj : j < bs.length), j < k + 1 -> bs[j] = false) := ak (fun h0 j hj hjk => by
    by_cases e : j = k
    ·subst e; exact h0
    exact hd.o j hj (by omega))
   have HE : Hid (bs[k] = true -> F = (k : Int)) := ak (fun h1 => by rw [<- HF.o]; exact gW hlb (fun j hj => hd.o j (by omega) hj) h1); have HC := ak (HT.o k hlt' hlb wr HB.o); obtain ⟨y, hy⟩ := ah (bs[k]); rw [hy] at jL HE HC; obtain ⟨x, hx⟩ := ah (vs[k]); rw [hx] at HR HC qV; clear bS hx hy hlt' hlb
   go_wp2_with (refine wpList_load_mid rfl 79 _ rfl b (off + k * 4) rfl x _ HR.o Tryz.underlying79 rfl (by rw [qV.o]; kernel_rfl) ?_)
   refine HC.o.mono ?_; rintro e w2 ⟨rfl, hb2⟩; have bZ := ak (HB.o.trans (hb2.mono HB.o.size)); clear hb2
   cases y with
   | true =>
    have rJ := ak (HE.o rfl)
    go_wp2_with fail
    go_returns
    exact ⟨aL rJ.o.symm, bZ.o⟩
   | false =>
    have rK := ak (jL.o rfl)
    go_wp2_with fail
    go_roundw
    case rel => exact ⟨k + 1, by omega, by go_num, rK, bZ⟩
    case measure => simp [intOf]; omega
  have HE : Hid (F = -1) := ak (by rw [<- HF.o]; exact eP fun j hj => hd.o j hj (by have := HN.o; have := kd.o; omega))
  clear hd
  go_wp2_with fail
  go_returns
  exact ⟨aL HE.o.symm, HB.o⟩
set_option maxHeartbeats 1000000 in
theorem Kh (A : Option Addr) (vs : List (List Value)) (bs : List Bool) (cap : Nat) (p q : Value) (w : World) (h : Sl w A 6 vs) (hz : ∀ k (hk : k < vs.length), vs[k].length = 6) (hb : bs.length = vs.length) (hl : vs.length <= 1000000)
  (ht : ∀ k (hk : k < vs.length) (hk' : k < bs.length) w', Below w.heap.size w w' -> Calls Tryz.prog 80 #[.agg vs[k].toArray, p, q] w' fun e w'' => e = .returned (.bool bs[k]) /\ Below w'.heap.size w' w'') :
  Calls Tryz.prog 79 #[.slice A vs.length cap, .func (.func 80) #[] #[p, q]] w fun e w' => e = .returned (iv (dV bs)) /\ Below w.heap.size w w' := by
 have HH := ak h; have HT := ak ht; have HZ := ak hz; obtain ⟨F, hF⟩ := ah (dV bs); have HF := ak hF; rw [hF]; obtain ⟨n, hn⟩ := ah vs.length; have HN := ak hn; have kd := ak hb; rw [hn] at hl ⊢; clear h hF hn hb ht hz
 go_enter Tryz.func79, Tryz.ntmps79
 go_wp2_with fail
 go_loopw [5, 8] (fun _ i wr => ∃ k : Nat, k <= n /\ i = iv (k : Int) /\ Hid (∀ j (hj : j < bs.length), j < k -> bs[j] = false) /\ Hid (Below w.heap.size w wr)) (fun _ i _ => n - (intOf i).toNat)
 case atStart => exact ⟨0, Nat.zero_le _, rfl, ak (fun j _ hj => absurd hj (by omega)), ak (Below.refl _ _)⟩
 case round =>
  obtain ⟨k, hk, rfl, hd, HB⟩ := hrel
  by_cases hlt : k < n
  ·have hlt' : k < vs.length := by have := HN.o; omega
   have hlb : k < bs.length := by have := kd.o; omega
   obtain ⟨b, off, hA, bS⟩ := HH.o k hlt'; subst hA; have HR := ak (aM bS HB.o); have qV := ak (HZ.o k hlt'); have jL : Hid (bs[k] = false -> ∀ j (hj : j < bs.length), j < k + 1 -> bs[j] = false) := ak (fun h0 j hj hjk => by
    by_cases e : j = k
    ·subst e; exact h0
    exact hd.o j hj (by omega))
   have HE : Hid (bs[k] = true -> F = (k : Int)) := ak (fun h1 => by rw [<- HF.o]; exact gW hlb (fun j hj => hd.o j (by omega) hj) h1); have HC := ak (HT.o k hlt' hlb wr HB.o); obtain ⟨y, hy⟩ := ah (bs[k]); rw [hy] at jL HE HC; obtain ⟨x, hx⟩ := ah (vs[k]); rw [hx] at HR HC qV; clear bS hx hy hlt' hlb
   go_wp2_with (refine wpList_load_mid rfl 80 _ rfl b (off + k * 6) rfl x _ HR.o Tryz.underlying80 rfl (by rw [qV.o]; kernel_rfl) ?_)
   refine HC.o.mono ?_; rintro e w2 ⟨rfl, hb2⟩; have bZ := ak (HB.o.trans (hb2.mono HB.o.size)); clear hb2
   cases y with
   | true =>
    have rJ := ak (HE.o rfl)
    go_wp2_with fail
    go_returns
    exact ⟨aL rJ.o.symm, bZ.o⟩
   | false =>
    have rK := ak (jL.o rfl)
    go_wp2_with fail
    go_roundw
    case rel => exact ⟨k + 1, by omega, by go_num, rK, bZ⟩
    case measure => simp [intOf]; omega
  have HE : Hid (F = -1) := ak (by rw [<- HF.o]; exact eP fun j hj => hd.o j hj (by have := HN.o; have := kd.o; omega))
  clear hd
  go_wp2_with fail
  go_returns
  exact ⟨aL HE.o.symm, HB.o⟩
set_option maxHeartbeats 1000000 in
theorem ES (A : Option Addr) (vs : List Int) (bs : List Bool) (cap : Nat) (p : Value) (w : World) (h : gZ w A vs) (hb : bs.length = vs.length) (hl : vs.length <= 1000000)
  (ht : ∀ k (hk : k < vs.length) (hk' : k < bs.length) w', Below w.heap.size w w' -> Calls Tryz.prog 104 #[iv vs[k], p] w' fun e w'' => e = .returned (.bool bs[k]) /\ Below w'.heap.size w' w'') :
  Calls Tryz.prog 114 #[.slice A vs.length cap, .func (.func 104) #[] #[p]] w fun e w' => e = .returned (iv (dV bs)) /\ Below w.heap.size w w' := by
 have HH := ak h; have HT := ak ht; obtain ⟨F, hF⟩ := ah (dV bs); have HF := ak hF; rw [hF]; obtain ⟨n, hn⟩ := ah vs.length; have HN := ak hn; have kd := ak hb; rw [hn] at hl ⊢; clear h hF hn hb ht
 go_enter Tryz.func114, Tryz.ntmps114
 go_wp2_with fail
 go_loopw [5, 8] (fun _ i wr => ∃ k : Nat, k <= n /\ i = iv (k : Int) /\ Hid (∀ j (hj : j < bs.length), j < k -> bs[j] = false) /\ Hid (Below w.heap.size w wr)) (fun _ i _ => n - (intOf i).toNat)
 case atStart => exact ⟨0, Nat.zero_le _, rfl, ak (fun j _ hj => absurd hj (by omega)), ak (Below.refl _ _)⟩
 case round =>
  obtain ⟨k, hk, rfl, hd, HB⟩ := hrel
  by_cases hlt : k < n
  ·have hlt' : k < vs.length := by have := HN.o; omega
   have hlb : k < bs.length := by have := kd.o; omega
   obtain ⟨b, off, hA, bS⟩ := HH.o k hlt'; subst hA; have c0 := (HB.o.cell (aH bS)).trans bS; have jL : Hid (bs[k] = false -> ∀ j (hj : j < bs.length), j < k + 1 -> bs[j] = false) := ak (fun h0 j hj hjk => by
    by_cases e : j = k
    ·subst e; exact h0
    exact hd.o j hj (by omega))
   have HE : Hid (bs[k] = true -> F = (k : Int)) := ak (fun h1 => by rw [<- HF.o]; exact gW hlb (fun j hj => hd.o j (by omega) hj) h1); have HC := ak (HT.o k hlt' hlb wr HB.o); obtain ⟨y, hy⟩ := ah (bs[k]); rw [hy] at jL HE HC; obtain ⟨x, hx⟩ := ah (vs[k]); rw [hx] at HC c0; clear bS hx hy hlt' hlb
   go_wp2_with fail
   refine HC.o.mono ?_; rintro e w2 ⟨rfl, hb2⟩; have bZ := ak (HB.o.trans (hb2.mono HB.o.size)); clear hb2
   cases y with
   | true =>
    have rJ := ak (HE.o rfl)
    go_wp2_with fail
    go_returns
    exact ⟨aL rJ.o.symm, bZ.o⟩
   | false =>
    have rK := ak (jL.o rfl)
    go_wp2_with fail
    go_roundw
    case rel => exact ⟨k + 1, by omega, by go_num, rK, bZ⟩
    case measure => simp [intOf]; omega
  have HE : Hid (F = -1) := ak (by rw [<- HF.o]; exact eP fun j hj => hd.o j hj (by have := HN.o; have := kd.o; omega))
  clear hd
  go_wp2_with fail
  go_returns
  exact ⟨aL HE.o.symm, HB.o⟩
theorem E8 (A : Option Addr) (vs : List Int) (bs : List Bool) (cap : Nat) (p : Value) (w : World) (h : gZ w A vs) (hb : bs.length = vs.length) (hl : vs.length <= 1000000)
  (ht : ∀ k (hk : k < vs.length) (hk' : k < bs.length) w', Below w.heap.size w w' -> Calls Tryz.prog 104 #[iv vs[k], p] w' fun e w'' => e = .returned (.bool bs[k]) /\ Below w'.heap.size w' w'') :
  Calls Tryz.prog 103 #[.slice A vs.length cap, .func (.func 104) #[] #[p]] w fun e w' => e = .returned (.bool (bs.any (fun b => b))) /\ Below w.heap.size w w' := by
 have HC := ak (ES A vs bs cap p w h hb hl ht); have HB := ak (ij bs); obtain ⟨n, hn⟩ := ah vs.length; obtain ⟨F, hF⟩ := ah (dV bs); rw [hn, hF] at HC; rw [hF] at HB; rw [hn, <- HB.o]; clear h hb hl ht hn hF HB
 go_enter Tryz.func103, Tryz.ntmps103
 go_wp2_with fail
 refine HC.o.mono ?_; rintro e w2 ⟨rfl, hb2⟩; have bZ := ak hb2; clear hb2
 go_wp2_with fail
 go_returns
 exact ⟨rfl, bZ.o⟩
set_option maxHeartbeats 1000000 in
theorem Ki (A : Option Addr) (vs : List (List Value)) (bs : List Bool) (cap : Nat) (p : Value) (w : World) (h : Sl w A 5 vs) (hz : ∀ k (hk : k < vs.length), vs[k].length = 5) (hb : bs.length = vs.length) (hl : vs.length <= 1000000)
  (ht : ∀ k (hk : k < vs.length) (hk' : k < bs.length) w', Below w.heap.size w w' -> Calls Tryz.prog 106 #[.agg vs[k].toArray, p] w' fun e w'' => e = .returned (.bool bs[k]) /\ Below w'.heap.size w' w'') :
  Calls Tryz.prog 74 #[.slice A vs.length cap, .func (.func 106) #[] #[p]] w fun e w' => e = .returned (iv (dV bs)) /\ Below w.heap.size w w' := by
 have HH := ak h; have HT := ak ht; have HZ := ak hz; obtain ⟨F, hF⟩ := ah (dV bs); have HF := ak hF; rw [hF]; obtain ⟨n, hn⟩ := ah vs.length; have HN := ak hn; have kd := ak hb; rw [hn] at hl ⊢; clear h hF hn hb ht hz
 go_enter Tryz.func74, Tryz.ntmps74
 go_wp2_with fail
 go_loopw [5, 8] (fun _ i wr => ∃ k : Nat, k <= n /\ i = iv (k : Int) /\ Hid (∀ j (hj : j < bs.length), j < k -> bs[j] = false) /\ Hid (Below w.heap.size w wr)) (fun _ i _ => n - (intOf i).toNat)
 case atStart => exact ⟨0, Nat.zero_le _, rfl, ak (fun j _ hj => absurd hj (by omega)), ak (Below.refl _ _)⟩
 case round =>
  obtain ⟨k, hk, rfl, hd, HB⟩ := hrel
  by_cases hlt : k < n
  ·have hlt' : k < vs.length := by have := HN.o; omega
   have hlb : k < bs.length := by have := kd.o; omega
   obtain ⟨b, off, hA, bS⟩ := HH.o k hlt'; subst hA; have HR := ak (aM bS HB.o); have qV := ak (HZ.o k hlt'); have jL : Hid (bs[k] = false -> ∀ j (hj : j < bs.length), j < k + 1 -> bs[j] = false) := ak (fun h0 j hj hjk => by
    by_cases e : j = k
    ·subst e; exact h0
    exact hd.o j hj (by omega))
   have HE : Hid (bs[k] = true -> F = (k : Int)) := ak (fun h1 => by rw [<- HF.o]; exact gW hlb (fun j hj => hd.o j (by omega) hj) h1); have HC := ak (HT.o k hlt' hlb wr HB.o); obtain ⟨y, hy⟩ := ah (bs[k]); rw [hy] at jL HE HC; obtain ⟨x, hx⟩ := ah (vs[k]); rw [hx] at HR HC qV; clear bS hx hy hlt' hlb
   go_wp2_with (refine wpList_load_mid rfl 64 _ rfl b (off + k * 5) rfl x _ HR.o Tryz.underlying64 rfl (by rw [qV.o]; kernel_rfl) ?_)
   refine HC.o.mono ?_; rintro e w2 ⟨rfl, hb2⟩; have bZ := ak (HB.o.trans (hb2.mono HB.o.size)); clear hb2
   cases y with
   | true =>
    have rJ := ak (HE.o rfl)
    go_wp2_with fail
    go_returns
    exact ⟨aL rJ.o.symm, bZ.o⟩
   | false =>
    have rK := ak (jL.o rfl)
    go_wp2_with fail
    go_roundw
    case rel => exact ⟨k + 1, by omega, by go_num, rK, bZ⟩
    case measure => simp [intOf]; omega
  have HE : Hid (F = -1) := ak (by rw [<- HF.o]; exact eP fun j hj => hd.o j hj (by have := HN.o; have := kd.o; omega))
  clear hd
  go_wp2_with fail
  go_returns
  exact ⟨aL HE.o.symm, HB.o⟩
theorem Kl (A : Option Addr) (vs : List (List Value)) (bs : List Bool) (cap : Nat) (p : Value) (w : World) (h : Sl w A 5 vs) (hz : ∀ k (hk : k < vs.length), vs[k].length = 5) (hb : bs.length = vs.length) (hl : vs.length <= 1000000)
  (ht : ∀ k (hk : k < vs.length) (hk' : k < bs.length) w', Below w.heap.size w w' -> Calls Tryz.prog 106 #[.agg vs[k].toArray, p] w' fun e w'' => e = .returned (.bool bs[k]) /\ Below w'.heap.size w' w'') :
  Calls Tryz.prog 105 #[.slice A vs.length cap, .func (.func 106) #[] #[p]] w fun e w' => e = .returned (.bool (bs.any (fun b => b))) /\ Below w.heap.size w w' := by
 have HC := ak (Ki A vs bs cap p w h hz hb hl ht); have HB := ak (ij bs); obtain ⟨n, hn⟩ := ah vs.length; obtain ⟨F, hF⟩ := ah (dV bs); rw [hn, hF] at HC; rw [hF] at HB; rw [hn, <- HB.o]; clear h hz hb hl ht hn hF HB
 go_enter Tryz.func105, Tryz.ntmps105
 go_wp2_with fail
 refine HC.o.mono ?_; rintro e w2 ⟨rfl, hb2⟩; have bZ := ak hb2; clear hb2
 go_wp2_with fail
 go_returns
 exact ⟨rfl, bZ.o⟩
