/-
  Layer 14, SessionOnce: the name of a payload.
  Conditions: none.
-/
import Derived.Test.YtccdpgbmkiapdaaO32
import Derived.BigQuiet
namespace Go.Proofs.Ytccdpgbmkiapdaa.Ses
set_option maxRecDepth 100000
open Go.ChangeShapes Go.WideShapes Go.ChangeAt Go.RowKit Go.Deep Go.Proofs.Ytccdpgbmkiapdaa.Mem Go.Proofs.Ytccdpgbmkiapdaa.Win
theorem name_run (n : Nat) (w : World) : (convert 90 9 (.slice (some ⟨w.heap.size, 0, none⟩) 2 2)).run Try.prog (w.alloc (.cells #[.int .u8 ((UInt8.ofNat (n / 256)).toNat : Int), .int .u8 ((UInt8.ofNat n).toNat : Int)] 5)) =
  .ok (.string (nameB n)) (w.alloc (.cells #[.int .u8 ((UInt8.ofNat (n / 256)).toNat : Int), .int .u8 ((UInt8.ofNat n).toNat : Int)] 5)) := by
 refine run_convert_bytes_back _ 90 9 5 ⟨w.heap.size, 0, none⟩ 2 [UInt8.ofNat (n / 256), UInt8.ofNat n] Try.underlying90 Try.underlying5 Try.underlying9 ?_
 intro j hj
 have hc : Cells (w.alloc (.cells #[.int .u8 ((UInt8.ofNat (n / 256)).toNat : Int), .int .u8 ((UInt8.ofNat n).toNat : Int)] 5)) w.heap.size 5 [.int .u8 ((UInt8.ofNat (n / 256)).toNat : Int), .int .u8 ((UInt8.ofNat n).toNat : Int)] := cells_new _ _ _ _ rfl
 match j, hj with
 | 0, _ => exact hc.cell (j := 0) rfl
 | 1, _ => exact hc.cell (j := 1) rfl
theorem name_any (n : Nat) (hn : n < 65536) (w : World) : Calls Try.prog 60 #[.int .i64 (n : Int)] w fun e w' => e = .returned (.string (nameB n)) ∧ Below w.heap.size w w' := by
 have h0 : ((UInt8.ofNat (n / 256)).toNat : Int) = (n : Int) / 256 := by rw [UInt8.toNat_ofNat']; omega
 have h1 : ((UInt8.ofNat n).toNat : Int) = (n : Int) % 256 := by rw [UInt8.toNat_ofNat']; omega
 have hcv := name_run n w
 rw [h0, h1] at hcv
 obtain ⟨t, ht⟩ : ∃ t, nameB n = t := ⟨_, rfl⟩
 rw [ht] at hcv ⊢
 have HB := Lib.hid (below_alloc w (.cells #[.int .u8 ((n : Int) / 256), .int .u8 ((n : Int) % 256)] 5))
 clear h0 h1 ht
 go_enter Try.func60, Try.ntmps60
 go_wp2_with fail
 go_returns
 exact ⟨rfl, HB.out⟩
end Go.Proofs.Ytccdpgbmkiapdaa.Ses
