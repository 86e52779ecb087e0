/-
  Layer 14, SessionPlays: what went out, in the document's words; is the script too great? Conditions: none.
-/
import Derived.Test.YtjfejfhdohpfbaaSesRef4
namespace Go.Proofs.Ytjfejfhdohpfbaa.Ses
set_option maxRecDepth 100000
open Go.RowKit Go.Deep Go.Proofs.Ytjfejfhdohpfbaa.Mem Go.Proofs.Ytjfejfhdohpfbaa.Win

set_option maxHeartbeats 2000000 in
theorem plain_any (l : List Ot) (A : Option Addr) (c : Nat) (w : World) (h : Sl w A 6 (l.map Ot.vals)) (hl : l.length ≤ 90000) :
    Calls Try.prog 20 #[.slice A l.length c] w fun e w' => ∃ V vn vc, e = .returned (.slice V vn vc) ∧ OwnG 121 6 Ot.vals w.heap.size w' (.slice V vn vc) l ∧ Below w.heap.size w w' := by
  obtain ⟨n, hn⟩ : ∃ n, l.length = n := ⟨_, rfl⟩
  have HN := Lib.hid hn
  have HS := Lib.hid h
  rw [hn] at hl ⊢
  clear hn h
  go_enter Try.func20, Try.ntmps20
  go_wp2_with fail
  go_loopw [3, 5, 8] (fun a _ j wr => ∃ (k : Nat) (V : Option Addr) (vn vc : Nat), k ≤ n ∧ j = .int .i64 (k : Int) ∧ a = .slice V vn vc ∧ Hid (OwnG 121 6 Ot.vals w.heap.size wr (.slice V vn vc) (l.take k)) ∧ Hid (Below w.heap.size w wr)) (fun _ _ j _ => n - (intOf j).toNat)
  case atStart => exact ⟨0, none, 0, 0, Nat.zero_le _, rfl, rfl, Lib.hid (OwnG.nil _ _ _ _ _), Lib.hid (Below.refl _ _)⟩
  case round =>
    obtain ⟨k, V, vn, vc, hkn, rfl, rfl, HV, HB⟩ := hrel
    by_cases hlt : k < n
    · have hkl : k < l.length := by rw [HN.out]; exact hlt
      obtain ⟨g, off, rfl, hr⟩ := (HS.out.later HB.out) k (by rw [List.length_map]; exact hkl)
      obtain ⟨o, ho⟩ : ∃ o, l[k] = o := ⟨_, rfl⟩
      rw [List.getElem_map, ho] at hr
      have z0 := hr 0 _ rfl
      rw [Nat.add_zero] at z0
      have z1 := hr 1 _ rfl
      have z2 := hr 2 _ rfl
      have z3 := hr 3 _ rfl
      have z4 := hr 4 _ rfl
      have z5 := hr 5 _ rfl
      obtain ⟨wb, hwb⟩ : ∃ W, W = wr.alloc (.cells #[.int .i64 o.dst, .int .i64 o.e.kind, .int .i64 o.e.epoch, .int .i64 o.e.peer, .int .i64 o.e.seq, .string o.e.pay] 89) := ⟨_, rfl⟩
      have hbb : Below wr.heap.size wr wb := by rw [hwb]; exact below_alloc _ _
      have hcb : Cells wb wr.heap.size 89 o.vals := by rw [hwb]; exact cells_new _ _ _ _ rfl
      have HBB : Hid (Below w.heap.size w wb) := Lib.hid (HB.out.trans (hbb.mono HB.out.size))
      have htk : l.take (k + 1) = l.take k ++ [o] := by rw [List.take_succ_eq_append_getElem hkl, ho]
      obtain ⟨wd, hwd⟩ : ∃ W, W = wb.alloc (.cells #[.int .i64 o.dst, .int .i64 o.e.kind, .int .i64 o.e.epoch, .int .i64 o.e.peer, .int .i64 o.e.seq, .string o.e.pay] 121) := ⟨_, rfl⟩
      have hbd : Below wb.heap.size wb wd := by rw [hwd]; exact below_alloc _ _
      have hcd : Cells wd wb.heap.size 121 o.vals := by rw [hwd]; exact cells_new _ _ _ _ rfl
      have hsl1 : Sl wd (some ⟨wb.heap.size, 0, none⟩) 6 ([o].map Ot.vals) := cells_sl (by simpa using hcd) (fun v hv => (fit_ot [_]).len v hv)
      obtain ⟨V', n', c', w5, hrun, hrow, hn', hon, hnb⟩ := OwnG.appS el_rot fit_ot ((HV.out.later hbb).later hbd) (m := [o]) (c := 1) hsl1 (fun e => by cases e) (Nat.le_trans HBB.out.size hbd.size) (by simp only [List.length_singleton, List.length_take]; omega)
      have HV5 : Hid (OwnG 121 6 Ot.vals w.heap.size w5 (.slice V' n' c') (l.take (k + 1))) := Lib.hid (by rw [htk]; exact hrow)
      have HB5 : Hid (Below w.heap.size w w5) := Lib.hid ((HBB.out.trans (hbd.mono HBB.out.size)).trans (hon.below (Nat.le_trans HBB.out.size hbd.size) fun i e => (HV.out.lt i e).1))
      rw [hwd] at hrun
      have HRUN := Lib.hid hrun
      have x0 := hcb.cell (j := 0) rfl
      have x1 := hcb.cell (j := 1) rfl
      have x2 := hcb.cell (j := 2) rfl
      have x3 := hcb.cell (j := 3) rfl
      have x4 := hcb.cell (j := 4) rfl
      have x5 := hcb.cell (j := 5) rfl
      clear hr ho hkl hbb hcb htk hbd hcd hsl1 hrun hrow hn' hon hnb hwd
      go_upto_region 5 with (fail)
      rw [← hwb]
      clear hwb z0 z1 z2 z3 z4 z5
      go_wp2_with (at_builtin
                   refine Lib.wpList_append_run (wb.alloc (.cells #[.int .i64 o.dst, .int .i64 o.e.kind, .int .i64 o.e.epoch, .int .i64 o.e.peer, .int .i64 o.e.seq, .string o.e.pay] 121)) rfl (.tmp 12) (.tmp 18) 47 47 rfl (.slice V vn vc) (.slice (some ⟨wb.heap.size, 0, none⟩) 1 1) rfl rfl _ _ HRUN.out ?_)
      go_roundw
      case rel => exact ⟨k + 1, V', n', c', by omega, by go_num, rfl, HV5, HB5⟩
      case measure => simp [intOf]; omega
    · obtain rfl : k = n := by omega
      have HF : Hid (OwnG 121 6 Ot.vals w.heap.size wr (.slice V vn vc) l) := Lib.hid (by
        have h1 := HV.out
        rw [List.take_of_length_le (by rw [HN.out]; exact Nat.le_refl _)] at h1
        exact h1)
      go_wp2_with fail
      go_returns
      exact ⟨_, _, _, rfl, HF.out, HB.out⟩
end Go.Proofs.Ytjfejfhdohpfbaa.Ses
