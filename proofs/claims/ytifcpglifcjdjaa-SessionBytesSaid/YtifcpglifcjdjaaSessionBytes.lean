/-
  Layer 14: SessionBytes. Conditions: none.
-/
import Derived.Test.YtifcpglifcjdjaaSesAwake
import Derived.Test.YtifcpglifcjdjaaSesEnc
import Derived.Test.YtifcpglifcjdjaaSesDec
import Derived.Test.YtifcpglifcjdjaaSesRR
import Derived.Laws.StructEq
import Derived.ChangeMaps5
import Derived.Lib.LaidTab
import Derived.Deep.DeepHandedRow
namespace Go.Proofs.Ytifcpglifcjdjaa.SessionBytes
set_option maxRecDepth 100000
open Go.ChangeShapes Go.WideShapes Go.ChangeAt Go.RowKit Go.Deep Go.Proofs.Ytifcpglifcjdjaa.Mem Go.Proofs.Ytifcpglifcjdjaa.Win Go.Proofs.Ytifcpglifcjdjaa.Ses
open Go.Proofs.Ytifcpglifcjdjaa.Wire (bs big big_length)

theorem ev_same (T : TypeId) (hT : Try.prog.underlying T = some (.struct (Try.prog.fieldsOf T))) (hT2 : Try.prog.stoodInHeld T = false)
    (hf : ∃ f0 f1 f2 f3 f4 : Field, (Try.prog.fieldsOf T).toList = [f0, f1, f2, f3, f4] ∧ f0.type = 3 ∧ f1.type = 3 ∧ f2.type = 3 ∧ f3.type = 3 ∧ f4.type = 9 ∧ f0.offset = 0 ∧ f1.offset = 1 ∧ f2.offset = 2 ∧ f3.offset = 3 ∧ f4.offset = 4)
    (e : Ev) (w : World) : (Op.equalIn 10000 T (.agg e.cells) (.agg e.cells)).run Try.prog w = .ok true w := by
  obtain ⟨a, b, c, d, s⟩ := e
  dsimp only [Ev.cells]
  rw [run_equalIn_agg w _ _ _ _ hT hT2]
  obtain ⟨f0, f1, f2, f3, f4, hf, t0, t1, t2, t3, t4, o0, o1, o2, o3, o4⟩ := hf
  rw [hf]
  have hu := Try.underlying3
  have hs := Try.underlying9
  simp [Op.eqFields, t0, t1, t2, t3, t4, o0, o1, o2, o3, o4, go_sem, hu, hs]
theorem ev_neq (a b c d : Int) (s : ByteArray) (w : World) : (binOp .neq 23 (.agg #[.int .i64 a, .int .i64 b, .int .i64 c, .int .i64 d, .string s]) (.agg #[.int .i64 a, .int .i64 b, .int .i64 c, .int .i64 d, .string s])).run Try.prog w = .ok (.bool false) w := by
  rw [run_neq_struct, ev_same 23 (by kernel_rfl) (by kernel_rfl) ⟨_, _, _, _, _, rfl, rfl, rfl, rfl, rfl, rfl, rfl, rfl, rfl, rfl, rfl⟩ ⟨a, b, c, d, s⟩ w]
  rfl
theorem ev_eql (a b c d : Int) (s : ByteArray) (w : World) : (binOp .eql 25 (.agg #[.int .i64 a, .int .i64 b, .int .i64 c, .int .i64 d, .string s]) (.agg #[.int .i64 a, .int .i64 b, .int .i64 c, .int .i64 d, .string s])).run Try.prog w = .ok (.bool true) w := by
  rw [run_eql_struct, ev_same 25 (by kernel_rfl) (by kernel_rfl) ⟨_, _, _, _, _, rfl, rfl, rfl, rfl, rfl, rfl, rfl, rfl, rfl, rfl, rfl⟩ ⟨a, b, c, d, s⟩ w]
  rfl
theorem both (s : ByteArray) : ∃ (x : Ev) (g : Int) (b : Bool), decR s = (x, g) ∧ readR s = (x, b) ∧ (g = 0 ∧ b = true ∨ g = 2 ∧ b = false) := by
  unfold decR readR
  rw [dec_read s]
  cases readM s with
  | some e => exact ⟨e, 0, true, rfl, rfl, Or.inl ⟨rfl, rfl⟩⟩
  | none => exact ⟨zeroE, 2, false, rfl, rfl, Or.inr ⟨rfl, rfl⟩⟩
theorem dec_own {e : Ev} (h : rightE e = true) : decR (bs (bytesE e)) = (e, 0) := by
  unfold decR
  rw [dec_enc h]

theorem own_size {e : Ev} (h : rightE e = true) : (bs (bytesE e)).size ≤ 140737488355328 := by
  rw [Wire.bs_size]
  unfold bytesE
  rw [nums3]
  have hk : e.pay.data.size ≤ 4032 ∨ e.kind = 2 := by
    rcases right_kind h with ⟨_, h⟩ | ⟨h, _⟩
    · exact Or.inl h
    · exact Or.inr h
  simp only [List.length_append, big_length]
  split
  · rcases hk with h | h
    · simp only [List.length_append, big_length, Array.length_toList]
      omega
    · omega
  · simp only [List.length_nil]
    omega
set_option maxHeartbeats 4000000 in
theorem walk (e : Ev) (s : ByteArray) (w : World) (hz1 : s.size ≤ 9223372036854775807) (hz2 : e.pay.size ≤ 9223372036854775807) :
    Calls Try.prog 3 #[e.val, .string s] w fun r w' => r = .returned (.bool true) ∧ Below w.heap.size w w' := by
  obtain ⟨wb, hwb⟩ : ∃ W, W = w.alloc (.cells #[.int .i64 e.kind, .int .i64 e.epoch, .int .i64 e.peer, .int .i64 e.seq, .string e.pay] 23) := ⟨_, rfl⟩
  have hb : Below w.heap.size w wb := by rw [hwb]; exact below_alloc _ _
  have hc : Cells wb w.heap.size 23 e.vals := by rw [hwb]; exact cells_new _ _ _ _ rfl
  have HA := Lib.hid (awake_any wb)
  have HB := Lib.hid hb
  have HK := Lib.hid hc
  unfold Ev.val
  clear hb hc
  go_enter Try.func3, Try.ntmps3
  go_upto_region 1 with (fail)
  rw [← hwb]
  clear hwb
  go_wp2_with fail
  refine HA.out.mono ?_
  rintro r w1 ⟨rfl, hb1⟩
  have HB1 := Lib.hid (HB.out.trans (hb1.mono HB.out.size))
  have HK1 := Lib.hid (HK.out.later hb1)
  clear hb1 HA HB HK
  have x0 := HK1.out.cell (j := 0) rfl
  have x1 := HK1.out.cell (j := 1) rfl
  have x2 := HK1.out.cell (j := 2) rfl
  have x3 := HK1.out.cell (j := 3) rfl
  have x4 := HK1.out.cell (j := 4) rfl
  go_upto_region 5 with (fail)
  all_goals first | (go_returns; exact ⟨rfl, HB1.out⟩) | skip
  have h9 : e.pay.size ≤ 9000 ∧ s.size ≤ 9000 := by omega
  have hle : e.pay.size ≤ 140737488355328 := by omega
  have hls : s.size ≤ 140737488355328 := by omega
  obtain ⟨w2, hw2⟩ : ∃ W, W = w1.alloc (.cells #[.int .i64 e.kind, .int .i64 e.epoch, .int .i64 e.peer, .int .i64 e.seq, .string e.pay] 25) := ⟨_, rfl⟩
  have hb_w2 : Below w1.heap.size w1 w2 := by rw [hw2]; exact below_alloc _ _
  have hc_w2 : Cells w2 w1.heap.size 25 e.vals := by rw [hw2]; exact cells_new _ _ _ _ rfl
  have HC_w2 := Lib.hid hc_w2
  have HBw2 := Lib.hid (HB1.out.trans (hb_w2.mono HB1.out.size))
  have HK_w2 := Lib.hid (HK1.out.later hb_w2)
  have HR := Lib.hid (rright_any e hle w2)
  clear hb_w2 hc_w2 HB1
  go_upto_region 6 with (fail)
  rw [← hw2]
  clear hw2 HK1
  clear x0 x1 x2 x3 x4
  have y0 := HC_w2.out.cell (j := 0) rfl
  have y1 := HC_w2.out.cell (j := 1) rfl
  have y2 := HC_w2.out.cell (j := 2) rfl
  have y3 := HC_w2.out.cell (j := 3) rfl
  have y4 := HC_w2.out.cell (j := 4) rfl
  go_wp2_with fail
  refine HR.out.mono ?_
  rintro r w3 ⟨rfl, hb_w3⟩
  have HBw3 := Lib.hid (HBw2.out.trans (hb_w3.mono HBw2.out.size))
  have HK_w3 := Lib.hid (HK_w2.out.later hb_w3)
  have HC_w3 := Lib.hid (HC_w2.out.later hb_w3)
  clear hb_w3 HR HBw2 HK_w2 HC_w2
  clear y0 y1 y2 y3 y4
  have x0 := HK_w3.out.cell (j := 0) rfl
  have x1 := HK_w3.out.cell (j := 1) rfl
  have x2 := HK_w3.out.cell (j := 2) rfl
  have x3 := HK_w3.out.cell (j := 3) rfl
  have x4 := HK_w3.out.cell (j := 4) rfl
  cases hr : rightE e
  case false =>
    have HE := Lib.hid (Encode_bad e hle hr w3)
    go_wp2_with fail
    refine HE.out.mono ?_
    rintro r w4 ⟨rfl, hb_w4⟩
    have HBw4 := Lib.hid (HBw3.out.trans (hb_w4.mono HBw3.out.size))
    have HK_w4 := Lib.hid (HK_w3.out.later hb_w4)
    have HC_w4 := Lib.hid (HC_w3.out.later hb_w4)
    clear hb_w4 HE HBw3 HK_w3 HC_w3
    clear x0 x1 x2 x3 x4
    have x0 := HK_w4.out.cell (j := 0) rfl
    have x1 := HK_w4.out.cell (j := 1) rfl
    have x2 := HK_w4.out.cell (j := 2) rfl
    have x3 := HK_w4.out.cell (j := 3) rfl
    have x4 := HK_w4.out.cell (j := 4) rfl
    have HR := Lib.hid (right_any e hle w4)
    rw [hr] at HR
    go_wp2_with fail
    refine HR.out.mono ?_
    rintro r w5 ⟨rfl, hb_w5⟩
    have HBw5 := Lib.hid (HBw4.out.trans (hb_w5.mono HBw4.out.size))
    have HK_w5 := Lib.hid (HK_w4.out.later hb_w5)
    have HC_w5 := Lib.hid (HC_w4.out.later hb_w5)
    clear hb_w5 HR HBw4 HK_w4 HC_w4
    clear x0 x1 x2 x3 x4
    go_upto_region 14 with (fail)
    obtain ⟨x, g, b, hd, hy, hg⟩ := both s
    have HD := Lib.hid (Decode_any s hls w5)
    have hyy := Lib.hid (And.intro hy hg)
    rw [hd] at HD
    clear hd hy hg
    go_wp2_with fail
    refine HD.out.mono ?_
    rintro r v1 ⟨rfl, hb_v1⟩
    have HBv1 := Lib.hid (HBw5.out.trans (hb_v1.mono HBw5.out.size))
    clear hb_v1 HD HBw5
    obtain ⟨v2, hv2⟩ : ∃ W, W = v1.alloc (.cells #[.int .i64 x.kind, .int .i64 x.epoch, .int .i64 x.peer, .int .i64 x.seq, .string x.pay] 23) := ⟨_, rfl⟩
    have hb_v2 : Below v1.heap.size v1 v2 := by rw [hv2]; exact below_alloc _ _
    have hc_v2 : Cells v2 v1.heap.size 23 x.vals := by rw [hv2]; exact cells_new _ _ _ _ rfl
    have ZK_v2 := Lib.hid hc_v2
    have HBv2 := Lib.hid (HBv1.out.trans (hb_v2.mono HBv1.out.size))
    have HY := Lib.hid (RRead_any s (Nat.le_trans h9.2 (by decide)) v2)
    rw [hyy.out.1] at HY
    clear hb_v2 hc_v2 HBv1
    go_upto_region 15 with (fail)
    rw [← hv2]
    clear hv2
    go_wp2_with fail
    refine HY.out.mono ?_
    rintro r v3 ⟨rfl, hb_v3⟩
    have HBv3 := Lib.hid (HBv2.out.trans (hb_v3.mono HBv2.out.size))
    have ZK_v3 := Lib.hid (ZK_v2.out.later hb_v3)
    clear hb_v3 HY HBv2 ZK_v2
    obtain ⟨v4, hv4⟩ : ∃ W, W = v3.alloc (.cells #[.int .i64 x.kind, .int .i64 x.epoch, .int .i64 x.peer, .int .i64 x.seq, .string x.pay] 25) := ⟨_, rfl⟩
    have hb_v4 : Below v3.heap.size v3 v4 := by rw [hv4]; exact below_alloc _ _
    have hc_v4 : Cells v4 v3.heap.size 25 x.vals := by rw [hv4]; exact cells_new _ _ _ _ rfl
    have YK_v4 := Lib.hid hc_v4
    have HBv4 := Lib.hid (HBv3.out.trans (hb_v4.mono HBv3.out.size))
    have ZK_v4 := Lib.hid (ZK_v3.out.later hb_v4)
    clear hb_v4 hc_v4 HBv3 ZK_v3
    have z0 := ZK_v4.out.cell (j := 0) rfl
    have z1 := ZK_v4.out.cell (j := 1) rfl
    have z2 := ZK_v4.out.cell (j := 2) rfl
    have z3 := ZK_v4.out.cell (j := 3) rfl
    have z4 := ZK_v4.out.cell (j := 4) rfl
    have y0 := YK_v4.out.cell (j := 0) rfl
    have y1 := YK_v4.out.cell (j := 1) rfl
    have y2 := YK_v4.out.cell (j := 2) rfl
    have y3 := YK_v4.out.cell (j := 3) rfl
    have y4 := YK_v4.out.cell (j := 4) rfl
    go_upto_region 16 with (fail)
    rw [← hv4]
    clear hv4
    have HE := Lib.hid (ev_eql x.kind x.epoch x.peer x.seq x.pay)
    rcases hyy.out.2 with ⟨rfl, rfl⟩ | ⟨rfl, rfl⟩ <;>
    ·
      go_wp2_with (rw [HE.out])
      go_returns
      exact ⟨rfl, HBv4.out⟩
  case true =>
    have HE := Lib.hid (Encode_good e hr w3)
    go_wp2_with fail
    refine HE.out.mono ?_
    rintro r w4 ⟨rfl, hb_w4⟩
    have HBw4 := Lib.hid (HBw3.out.trans (hb_w4.mono HBw3.out.size))
    have HK_w4 := Lib.hid (HK_w3.out.later hb_w4)
    have HC_w4 := Lib.hid (HC_w3.out.later hb_w4)
    clear hb_w4 HE HBw3 HK_w3 HC_w3
    clear x0 x1 x2 x3 x4
    have x0 := HK_w4.out.cell (j := 0) rfl
    have x1 := HK_w4.out.cell (j := 1) rfl
    have x2 := HK_w4.out.cell (j := 2) rfl
    have x3 := HK_w4.out.cell (j := 3) rfl
    have x4 := HK_w4.out.cell (j := 4) rfl
    have HR := Lib.hid (right_any e hle w4)
    rw [hr] at HR
    go_wp2_with fail
    refine HR.out.mono ?_
    rintro r w5 ⟨rfl, hb_w5⟩
    have HBw5 := Lib.hid (HBw4.out.trans (hb_w5.mono HBw4.out.size))
    have HK_w5 := Lib.hid (HK_w4.out.later hb_w5)
    have HC_w5 := Lib.hid (HC_w4.out.later hb_w5)
    clear hb_w5 HR HBw4 HK_w4 HC_w4
    clear x0 x1 x2 x3 x4
    go_upto_region 11 with (fail)
    have HD := Lib.hid (Decode_any (bs (bytesE e)) (own_size hr) w5)
    rw [dec_own hr] at HD
    go_wp2_with fail
    refine HD.out.mono ?_
    rintro r w6 ⟨rfl, hb_w6⟩
    have HBw6 := Lib.hid (HBw5.out.trans (hb_w6.mono HBw5.out.size))
    have HK_w6 := Lib.hid (HK_w5.out.later hb_w6)
    have HC_w6 := Lib.hid (HC_w5.out.later hb_w6)
    clear hb_w6 HD HBw5 HK_w5 HC_w5
    obtain ⟨w7, hw7⟩ : ∃ W, W = w6.alloc (.cells #[.int .i64 e.kind, .int .i64 e.epoch, .int .i64 e.peer, .int .i64 e.seq, .string e.pay] 23) := ⟨_, rfl⟩
    have hb_w7 : Below w6.heap.size w6 w7 := by rw [hw7]; exact below_alloc _ _
    have hc_w7 : Cells w7 w6.heap.size 23 e.vals := by rw [hw7]; exact cells_new _ _ _ _ rfl
    have XK_w7 := Lib.hid hc_w7
    have HBw7 := Lib.hid (HBw6.out.trans (hb_w7.mono HBw6.out.size))
    have HK_w7 := Lib.hid (HK_w6.out.later hb_w7)
    have HC_w7 := Lib.hid (HC_w6.out.later hb_w7)
    clear hb_w7 hc_w7 HBw6 HK_w6 HC_w6
    go_upto_region 12 with (fail)
    rw [← hw7]
    clear hw7
    have HG := Lib.hid (rbytes_any e hr w7)
    have y0 := HC_w7.out.cell (j := 0) rfl
    have y1 := HC_w7.out.cell (j := 1) rfl
    have y2 := HC_w7.out.cell (j := 2) rfl
    have y3 := HC_w7.out.cell (j := 3) rfl
    have y4 := HC_w7.out.cell (j := 4) rfl
    go_wp2_with fail
    refine HG.out.mono ?_
    rintro r w8 ⟨rfl, hb_w8⟩
    have HBw8 := Lib.hid (HBw7.out.trans (hb_w8.mono HBw7.out.size))
    have HK_w8 := Lib.hid (HK_w7.out.later hb_w8)
    have HC_w8 := Lib.hid (HC_w7.out.later hb_w8)
    have XK_w8 := Lib.hid (XK_w7.out.later hb_w8)
    clear hb_w8 HG HBw7 HK_w7 HC_w7 XK_w7
    clear y0 y1 y2 y3 y4
    have x0 := HK_w8.out.cell (j := 0) rfl
    have x1 := HK_w8.out.cell (j := 1) rfl
    have x2 := HK_w8.out.cell (j := 2) rfl
    have x3 := HK_w8.out.cell (j := 3) rfl
    have x4 := HK_w8.out.cell (j := 4) rfl
    have z0 := XK_w8.out.cell (j := 0) rfl
    have z1 := XK_w8.out.cell (j := 1) rfl
    have z2 := XK_w8.out.cell (j := 2) rfl
    have z3 := XK_w8.out.cell (j := 3) rfl
    have z4 := XK_w8.out.cell (j := 4) rfl
    have HN := Lib.hid (ev_neq e.kind e.epoch e.peer e.seq e.pay)
    go_upto_region 14 with (rw [HN.out])
    clear x0 x1 x2 x3 x4 z0 z1 z2 z3 z4
    obtain ⟨x, g, b, hd, hy, hg⟩ := both s
    have HD := Lib.hid (Decode_any s hls w8)
    have hyy := Lib.hid (And.intro hy hg)
    rw [hd] at HD
    clear hd hy hg
    go_wp2_with fail
    refine HD.out.mono ?_
    rintro r v1 ⟨rfl, hb_v1⟩
    have HBv1 := Lib.hid (HBw8.out.trans (hb_v1.mono HBw8.out.size))
    clear hb_v1 HD HBw8
    obtain ⟨v2, hv2⟩ : ∃ W, W = v1.alloc (.cells #[.int .i64 x.kind, .int .i64 x.epoch, .int .i64 x.peer, .int .i64 x.seq, .string x.pay] 23) := ⟨_, rfl⟩
    have hb_v2 : Below v1.heap.size v1 v2 := by rw [hv2]; exact below_alloc _ _
    have hc_v2 : Cells v2 v1.heap.size 23 x.vals := by rw [hv2]; exact cells_new _ _ _ _ rfl
    have ZK_v2 := Lib.hid hc_v2
    have HBv2 := Lib.hid (HBv1.out.trans (hb_v2.mono HBv1.out.size))
    have HY := Lib.hid (RRead_any s (Nat.le_trans h9.2 (by decide)) v2)
    rw [hyy.out.1] at HY
    clear hb_v2 hc_v2 HBv1
    go_upto_region 15 with (fail)
    rw [← hv2]
    clear hv2
    go_wp2_with fail
    refine HY.out.mono ?_
    rintro r v3 ⟨rfl, hb_v3⟩
    have HBv3 := Lib.hid (HBv2.out.trans (hb_v3.mono HBv2.out.size))
    have ZK_v3 := Lib.hid (ZK_v2.out.later hb_v3)
    clear hb_v3 HY HBv2 ZK_v2
    obtain ⟨v4, hv4⟩ : ∃ W, W = v3.alloc (.cells #[.int .i64 x.kind, .int .i64 x.epoch, .int .i64 x.peer, .int .i64 x.seq, .string x.pay] 25) := ⟨_, rfl⟩
    have hb_v4 : Below v3.heap.size v3 v4 := by rw [hv4]; exact below_alloc _ _
    have hc_v4 : Cells v4 v3.heap.size 25 x.vals := by rw [hv4]; exact cells_new _ _ _ _ rfl
    have YK_v4 := Lib.hid hc_v4
    have HBv4 := Lib.hid (HBv3.out.trans (hb_v4.mono HBv3.out.size))
    have ZK_v4 := Lib.hid (ZK_v3.out.later hb_v4)
    clear hb_v4 hc_v4 HBv3 ZK_v3
    have z0 := ZK_v4.out.cell (j := 0) rfl
    have z1 := ZK_v4.out.cell (j := 1) rfl
    have z2 := ZK_v4.out.cell (j := 2) rfl
    have z3 := ZK_v4.out.cell (j := 3) rfl
    have z4 := ZK_v4.out.cell (j := 4) rfl
    have y0 := YK_v4.out.cell (j := 0) rfl
    have y1 := YK_v4.out.cell (j := 1) rfl
    have y2 := YK_v4.out.cell (j := 2) rfl
    have y3 := YK_v4.out.cell (j := 3) rfl
    have y4 := YK_v4.out.cell (j := 4) rfl
    go_upto_region 16 with (fail)
    rw [← hv4]
    clear hv4
    have HE := Lib.hid (ev_eql x.kind x.epoch x.peer x.seq x.pay)
    rcases hyy.out.2 with ⟨rfl, rfl⟩ | ⟨rfl, rfl⟩ <;>
    ·
      go_wp2_with (rw [HE.out])
      go_returns
      exact ⟨rfl, HBv4.out⟩
-- after the walk
theorem int_cell {H : Type} {enc : TypeId × Value → H} {W : World} {m : Nat} {c : Value} {y : DataW H × List MemPlace} (h : DataW.trod enc Try.prog W 0 (fun _ => true) true m 3 [c] = some y) : ∃ x, c = .int .i64 x := by
  obtain ⟨x, q, _, _⟩ := DataW.trod_int Try.underlying3 h
  simp at q
  exact ⟨x, q⟩
theorem str_cell {H : Type} {enc : TypeId × Value → H} {W : World} {m : Nat} {c : Value} {y : DataW H × List MemPlace} (h : DataW.trod enc Try.prog W 0 (fun _ => true) true m 9 [c] = some y) : ∃ x : ByteArray, c = .string x ∧ x.size ≤ maxLen := by
  obtain ⟨s', q, _, hs⟩ := DataW.trod_string Try.underlying9 h
  simp at q
  exact ⟨s', q, hs⟩
theorem open_ev {H : Type} {enc : TypeId × Value → H} {W : World} {base : Nat} {v : Value} {d : DataW H} {p : List MemPlace}
    (hv : Value.okWide Try.prog W .any base 23 v) (h : DataW.Trod enc Try.prog W 0 (fun _ => true) true 23 v d p) : ∃ e : Ev, v = e.val ∧ e.pay.size ≤ maxLen := by
  obtain ⟨f0, f1, f2, f3, f4, hst, ⟨e0, e1, e2, e3, e4⟩, o0, o1, o2, o3, o4⟩ : ∃ f0 f1 f2 f3 f4 : Field, Try.prog.underlying 23 = some (.struct #[f0, f1, f2, f3, f4]) ∧
    (f0.type = 3 ∧ f1.type = 3 ∧ f2.type = 3 ∧ f3.type = 3 ∧ f4.type = 9) ∧ f0.offset = 0 ∧ f1.offset = 1 ∧ f2.offset = 2 ∧ f3.offset = 3 ∧ f4.offset = 4 := ⟨_, _, _, _, _, Try.underlying23, ⟨rfl, rfl, rfl, rfl, rfl⟩, rfl, rfl, rfl, rfl, rfl⟩
  have cI : Try.prog.cellsOf 3 = 1 := by kernel_rfl
  have cS : Try.prog.cellsOf 9 = 1 := by kernel_rfl
  obtain ⟨cs, rfl, hsz⟩ := okWide_struct hst hv
  have hsz5 : cs.size = 5 := hsz.trans (by kernel_rfl)
  obtain ⟨l⟩ := cs
  match l, hsz5 with
  | [c0, c1, c2, c3, c4], _ =>
    obtain ⟨fuel, hf⟩ := h
    obtain ⟨xs, n, _, _, hlen, hxl, hg⟩ := DataW.trod_struct hst hf
    have hx5 : xs.length = 5 := hxl
    match xs, hx5 with
    | [y0, y1, y2, y3, y4], _ =>
      have g0 := hg 0 f0 rfl
      have g1 := hg 1 f1 rfl
      have g2 := hg 2 f2 rfl
      have g3 := hg 3 f3 rfl
      have g4 := hg 4 f4 rfl
      rw [e0, o0, cI] at g0
      rw [e1, o1, cI] at g1
      rw [e2, o2, cI] at g2
      rw [e3, o3, cI] at g3
      rw [e4, o4, cS] at g4
      obtain ⟨x0, rfl⟩ := int_cell (c := c0) g0
      obtain ⟨x1, rfl⟩ := int_cell (c := c1) g1
      obtain ⟨x2, rfl⟩ := int_cell (c := c2) g2
      obtain ⟨x3, rfl⟩ := int_cell (c := c3) g3
      obtain ⟨x4, rfl, hz⟩ := str_cell (c := c4) g4
      exact ⟨⟨x0, x1, x2, x3, x4⟩, rfl, hz⟩
theorem opened {H : Type} {enc : TypeId × Value → H} {W : World} {base : Nat} {gs : List (DataW H)} (v0 : Value) (d0 : DataW H) (p0 : List MemPlace) (v1 : Value) (d1 : DataW H) (p1 : List MemPlace)
    (o0 : Value.okWide Try.prog W .any base 23 v0) (t0 : DataW.Trod enc Try.prog W 0 (fun _ => true) true 23 v0 d0 p0)
    (o1 : Value.okWide Try.prog W .any base 9 v1) (t1 : DataW.Trod enc Try.prog W 0 (fun _ => true) true 9 v1 d1 p1)
    (_hsz : (DataW.weightsEach Try.prog ([23, 9] ++ []) ([d0, d1] ++ gs)).all (· ≤ reachBytes) = true) :
    Calls Try.prog 3 #[v0, v1] W fun e W' => e = .returned (.bool true) ∧ Below W.heap.size W W' := by
  obtain ⟨e, rfl, he⟩ := open_ev o0 t0
  obtain ⟨s, rfl, rfl, rfl, hs⟩ := Go.ChangeMaps.open_string Try.underlying9 o1 t1
  exact walk e s W (Nat.le_trans hs (by decide)) (Nat.le_trans he (by decide))

theorem contract (H : Type) (enc : TypeId × Value → H) (W : World) (base : Nat) (args : Array Value) (ds gs : List (DataW H)) (before : List MemPlace)
    (hval : ∀ (j : Nat) t v, Try.f3.params[j]? = some t → args[j]? = some v → Value.okWide Try.prog W .any base t v)
    (hW : DataW.Whole enc Try.prog Try.f3.params.toList Rows.sessionBytesSpec.vars false W args.toList ds gs before)
    (hsz : (DataW.weightsEach Try.prog (Try.f3.params.toList ++ []) (ds ++ gs)).all (· ≤ reachBytes) = true) :
    Calls Try.prog 3 args W fun e W' => ∃ v, e = .returned v ∧ Rows.sessionBytesSpec.post enc Try.prog Try.f3 false true false false W args v W' := by
  have hW0 := hW
  obtain ⟨p, q, hA0, hV, rfl, _, _⟩ := hW
  have hA : DataW.TrodAll enc Try.prog W 0 (fun _ => true) true Try.f3.params.toList args.toList ds p := hA0
  rw [Try.params3] at hA hval hsz
  obtain ⟨v0, vs0, d0, ds0, p0, q0, hargs, rfl, rfl, h0, r0⟩ := trodAll_cons hA
  obtain ⟨v1, vs1, d1, ds1, p1, q1, rfl, rfl, rfl, h1, r1⟩ := trodAll_cons r0
  obtain ⟨rfl, rfl, rfl⟩ := trodAll_nil r1
  obtain rfl : args = #[v0, v1] := by cases args; simp_all
  refine (opened v0 d0 p0 v1 d1 p1 (hval 0 23 v0 rfl rfl) h0 (hval 1 9 v1 rfl rfl) h1 hsz).mono fun e W' ⟨he, hb⟩ => ⟨_, he, ?_⟩
  exact Base.law_post (tb := 4) Base.laidOut (by kernel_rfl) rfl Try.underlying4 rfl (fun l hl => by
    rw [Try.params3] at hl
    match l, hl with
    | [_, _], _ => rfl) (by rw [Try.params3]; rfl) hW0 hb

theorem laid_met (os : Os) : laidMet Try.prog Rows.sessionBytesRow.laid ((Base.plainWorld os).forCall (fun _ _ => 0) ⟨#[], #[.agg #[.int .i64 0, .int .i64 0, .int .i64 0, .int .i64 0, .string ⟨#[]⟩], .string ⟨#[]⟩], []⟩).memory := laidMet_nil _ _
theorem reads (os : Os) {H : Type} (enc : TypeId × Value → H) : ∃ places, DataW.whole enc Try.prog ((Base.plainWorld os).forCall (fun _ _ => 0) ⟨#[], #[.agg #[.int .i64 0, .int .i64 0, .int .i64 0, .int .i64 0, .string ⟨#[]⟩], .string ⟨#[]⟩], []⟩).memory Try.f3.params.toList Rows.sessionBytesSpec.vars false (#[.agg #[.int .i64 0, .int .i64 0, .int .i64 0, .int .i64 0, .string ⟨#[]⟩], .string ⟨#[]⟩] : Array Value).toList 8 = some ([.agg [.lit (.int .i64 0), .lit (.int .i64 0), .lit (.int .i64 0), .lit (.int .i64 0), .lit (.string [])], .lit (.string [])], [], places) :=
  ⟨[], by kernel_rfl⟩

set_option maxRecDepth 100000 in
theorem lifted (os : Os) (started : os.Started) (H : Type) (enc : TypeId × Value → H) (F : Stop.Interp) :
    ReturnsInHanded {} Try.checked os 3 .any ((OpenSpec.ofChange Rows.sessionBytesSpec).preRow enc Try.prog Try.f3 Rows.sessionBytesRow.domain false Rows.sessionBytesRow.laid) (((OpenSpec.ofChange Rows.sessionBytesSpec).at F).post enc Try.prog Try.f3 false true false false) := by
  obtain ⟨places, hx⟩ := reads os enc
  refine returnsInHanded_of_row (C := Try.checked) (s := OpenSpec.ofChange Rows.sessionBytesSpec) Base.own started (by kernel_rfl) Try.func3
    (witness_row_at (enc := enc) (C := Try.checked) false (Base.plainWorld os) #[.agg #[.int .i64 0, .int .i64 0, .int .i64 0, .int .i64 0, .string ⟨#[]⟩], .string ⟨#[]⟩] rfl (by kernel_rfl) (by kernel_rfl) (by kernel_rfl)
      (OpenSpec.preRow_of_cond 8 hx (by kernel_rfl) (fun k hk => by cases hk) (by kernel_rfl) (laid_met os))) ?_
  intro W base args ds gs before hval hW _ _ hsz _ _ _
  exact contract H enc W base args ds gs before hval hW hsz

theorem said : Rows.SessionBytesSaid :=
  OpenClaim.holds_of_cond 3 Try.f3 rfl rfl rfl rfl rfl rfl rfl ⟨rfl, rfl, rfl, rfl, rfl⟩ rfl rfl rfl rfl rfl (by kernel_rfl) Try.func3 (by kernel_rfl)
    (of_decide_eq_true (by kernel_rfl)) (by unfold Func.isWrapper; rw [if_neg (of_decide_eq_false (by kernel_rfl))]; exact ⟨rfl, rfl⟩)
    (fun os started H enc _ F => by rw [OpenClaim.pre_eq_preRow]; exact lifted os started H enc F)
#print axioms said
end Go.Proofs.Ytifcpglifcjdjaa.SessionBytes
