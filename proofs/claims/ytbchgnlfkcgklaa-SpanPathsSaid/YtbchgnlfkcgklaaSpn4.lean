/-
  Layer 15: Toward, Far; the document's Edge, Same. Conditions: none.
-/
import Derived.Test.YtbchgnlfkcgklaaSpn3
namespace Go.Proofs.Ytbchgnlfkcgklaa.Spn
set_option maxRecDepth 100000
open Go.RowKit Go.Deep Go.Proofs.Ytbchgnlfkcgklaa.Mem

def towI (f : Int) : List Nat → Int
  | [] => 0
  | [_] => f
  | _ :: y :: _ => (y : Int)
theorem Toward_any (f t m : Int) (w : World) : Calls Try.prog 18 #[.int .i64 f, .int .i64 t, .int .i64 m] w fun e w' => e = .returned (.int .i64 (towI f (pathI f t m))) ∧ Below w.heap.size w w' := by
  have HP := Lib.hid (Path_any f t m w)
  obtain ⟨l, hl⟩ : ∃ l, pathI f t m = l := ⟨_, rfl⟩
  rw [hl] at HP ⊢
  clear hl
  match l, HP with
  | [], HP =>
    go_enter Try.func18, Try.ntmps18
    go_wp2_with fail
    refine HP.out.mono ?_
    rintro e w1 ⟨v, rfl, hrow, hb⟩
    obtain ⟨A, c, rfl, _⟩ := hrow.islice
    have HB := Lib.hid hb
    clear hrow hb HP
    go_wp2_with fail
    go_returns
    exact ⟨rfl, HB.out⟩
  | [x], HP =>
    go_enter Try.func18, Try.ntmps18
    go_wp2_with fail
    refine HP.out.mono ?_
    rintro e w1 ⟨v, rfl, hrow, hb⟩
    obtain ⟨A, c, rfl, _⟩ := hrow.islice
    have HB := Lib.hid hb
    clear hrow hb HP
    go_wp2_with fail
    go_returns
    exact ⟨rfl, HB.out⟩
  | x :: y :: r, HP =>
    go_enter Try.func18, Try.ntmps18
    go_wp2_with fail
    refine HP.out.mono ?_
    rintro e w1 ⟨v, rfl, hrow, hb⟩
    obtain ⟨A, c, rfl, hi, _⟩ := hrow.islice
    obtain ⟨g, off, rfl, hc⟩ := hi 1 (by simp)
    have HB := Lib.hid hb
    obtain ⟨n, hn⟩ : ∃ n, (x :: y :: r).length = n := ⟨_, rfl⟩
    have hn2 : 2 ≤ n := by rw [← hn]; simp
    rw [hn]
    have hc2 : w1.cell? ⟨g, off + 1, none⟩ = some (.int .i64 (y : Int)) := hc
    have e1 : ((n : Int) == 0) = false := by simp; omega
    have e2 : ((n : Int) == 1) = false := by simp; omega
    clear hrow hb HP hi hc hn
    go_wp2_with fail
    go_returns
    exact ⟨rfl, HB.out⟩
theorem mx_snoc (l : List Nat) (x : Nat) : mx (l ++ [x]) = max (mx l) x := by unfold mx; rw [List.foldl_append]; rfl
def farI (m : Int) : Nat := if hasB m m then farL m.toNat else 0
set_option maxHeartbeats 1000000 in
theorem Far_any (m : Int) (w : World) : Calls Try.prog 14 #[.int .i64 m] w fun e w' => e = .returned (.int .i64 (farI m : Int)) ∧ Below w.heap.size w w' := by
  have HH := Lib.hid (has_any m m w)
  unfold farI
  cases hb : hasB m m with
  | false =>
    rw [hb] at HH
    rw [if_neg Bool.false_ne_true]
    clear hb
    go_enter Try.func14, Try.ntmps14
    go_wp2_with fail
    refine HH.out.mono ?_
    rintro e w1 ⟨rfl, rfl⟩
    go_wp2_with fail
    go_returns
    exact ⟨rfl, Below.refl _ _⟩
  | true =>
    rw [hb] at HH
    rw [if_pos rfl]
    obtain ⟨b, b2, rfl, hbb, h1, hb1, h2⟩ := has_nat hb
    have h3 : b ≤ 16 := by omega
    clear hbb hb1
    simp only [Int.toNat_natCast]
    obtain ⟨F, hF⟩ : ∃ F, farL b = F := ⟨_, rfl⟩
    rw [hF]
    have HF := Lib.hid hF
    clear hb hF h2
    go_enter Try.func14, Try.ntmps14
    go_wp2_with fail
    refine HH.out.mono ?_
    rintro e w1 ⟨rfl, rfl⟩
    clear HH
    go_wp2_with fail
    go_loopw [3, 4] (fun x n wr => ∃ (k q : Nat), k ≤ b ∧ x = .int .i64 (q : Int) ∧ n = .int .i64 ((k + 1 : Nat) : Int) ∧ q ≤ 40 ∧ Hid (q = mx ((List.range' 1 k).map fun n => dst b n)) ∧ Hid (Below w1.heap.size w1 wr)) (fun _ n _ => b + 1 - (intOf n).toNat)
    case atStart => exact ⟨0, 0, Nat.zero_le _, rfl, rfl, by omega, Lib.hid rfl, Lib.hid (Below.refl _ _)⟩
    case round =>
      obtain ⟨k, q, hk, rfl, rfl, hq40, HQ, HB⟩ := hrel
      by_cases hlt : k < b
      · have hAB := AB.of h1 h3 (b := k + 1) (by omega) (by omega)
        have hlen := hAB.len
        have hd := hAB.few
        have HP := Lib.hid (Path_any (b : Int) ((k + 1 : Nat) : Int) (b : Int) wr)
        have hpi : pathI (b : Int) ((k + 1 : Nat) : Int) (b : Int) = pathL b (k + 1) := by
          unfold pathI
          rw [if_pos (by simp [hasB]; omega), Int.toNat_natCast, Int.toNat_natCast]
        rw [hpi] at HP
        have HM : Hid (mx ((List.range' 1 (k + 1)).map fun n => dst b n) = max q (dst b (k + 1))) := Lib.hid (by
          rw [List.range'_concat, List.map_append, List.map_singleton, mx_snoc, ← HQ.out, Nat.one_mul, Nat.add_comm 1 k])
        obtain ⟨l, hl⟩ : ∃ l, pathL b (k + 1) = l := ⟨_, rfl⟩
        obtain ⟨d, hdd⟩ : ∃ d, dst b (k + 1) = d := ⟨_, rfl⟩
        rw [hl] at HP hlen
        rw [hdd] at HM hlen hd
        have hd16 : d ≤ 16 := by omega
        have HLN := Lib.hid hlen
        clear hpi hl hdd hAB hd HQ hlen
        have hk1 : ((k + 1 : Nat) : Int) = (k : Int) + 1 := by omega
        rw [hk1] at HP ⊢
        clear hk1
        go_wp2_with fail
        refine HP.out.mono ?_
        rintro e w2 ⟨v, rfl, hrow, hb2⟩
        obtain ⟨A, c, rfl, _⟩ := hrow.islice
        have HB2 := Lib.hid (HB.out.trans (hb2.mono HB.out.size))
        rw [HLN.out]
        clear hrow hb2 HP
        by_cases hqd : (q : Int) < d
        · have HM2 : Hid (d = mx ((List.range' 1 (k + 1)).map fun n => dst b n)) := Lib.hid (by rw [HM.out]; omega)
          go_wp2_with fail
          go_roundw
          case rel => exact ⟨k + 1, d, by omega, by go_num, by go_num, by omega, HM2, HB2⟩
          case measure => simp [intOf]; omega
        · have HM2 : Hid (q = mx ((List.range' 1 (k + 1)).map fun n => dst b n)) := Lib.hid (by rw [HM.out]; omega)
          go_wp2_with fail
          go_roundw
          case rel => exact ⟨k + 1, q, by omega, by go_num, by go_num, by omega, HM2, HB2⟩
          case measure => simp [intOf]; omega
      · obtain rfl : k = b := by omega
        have HE : Hid (q = F) := Lib.hid (by rw [HQ.out, ← HF.out]; rfl)
        go_wp2_with fail
        go_returns
        exact ⟨ret_int (by rw [HE.out]), HB.out⟩
end Go.Proofs.Ytbchgnlfkcgklaa.Spn
