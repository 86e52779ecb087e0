/-
  P18.2: A cell is held by one alone: whoever holds it does till it frees it, or till its time has come. Conditions: none.
-/
import Derived.Test.YtiobblmagjbhjaaLeaRow
namespace Go.Proofs.Ytiobblmagjbhjaa.LeaseAlone
set_option maxRecDepth 100000
open Go.ChangeShapes Go.WideShapes Go.ChangeAt Go.RowKit Go.Deep Go.Proofs.Ytiobblmagjbhjaa.Mem Go.Proofs.Ytiobblmagjbhjaa.Lea

def leaAl31a (ob jj n oc : Nat) : Nat → Value → World → Prop
  | 0, v, _ => v = .slice (some ⟨ob, 0, none⟩) n oc
  | 1, v, _ => v = .int .i64 (jj : Int)
  | 2, v, _ => v = .pointer (some ⟨ob, jj, none⟩)
  | 3, v, _ => v = .bool true
  | 4, v, _ => v = .bool true
  | 5, v, _ => v = .bool true
  | 6, v, _ => v = .bool false
  | 7, v, _ => v = .bool false
  | 8, v, _ => v = .bool false
  | 9, v, _ => v = undef
  | 10, v, _ => v = undef
  | 11, v, _ => v = undef
  | 12, v, _ => v = undef
  | 13, v, _ => v = undef
  | 14, v, _ => v = undef
  | 15, v, _ => v = undef
  | 16, v, _ => v = undef
  | 17, v, _ => v = undef
  | 18, v, _ => v = undef
  | 19, v, _ => v = undef
  | 20, v, _ => v = undef
  | 21, v, _ => v = undef
  | 22, v, _ => v = undef
  | 23, v, _ => v = undef
  | 24, v, _ => v = undef
  | 25, v, _ => v = undef
  | 26, v, _ => v = undef
  | 27, v, _ => v = undef
  | 28, v, _ => v = undef
  | 29, v, _ => v = undef
  | 30, v, _ => v = undef
  | 31, v, _ => v = .bool false
  | 32, v, _ => v = .bool false
  | 33, v, _ => v = .slice (some ⟨ob, 0, none⟩) n oc
  | 34, v, _ => v = .int .i64 (jj : Int)
  | 35, v, _ => v = .pointer (some ⟨ob, jj, none⟩)
  | 36, v, _ => v = .bool true
  | 37, v, _ => v = .bool true
  | 38, v, _ => v = .bool true
  | 39, v, _ => v = .bool true
  | 40, v, _ => v = .bool true
  | 41, v, _ => v = .bool false
  | 42, v, _ => v = .bool false
  | 43, v, _ => v = .bool false
  | 44, v, _ => v = .bool false
  | 45, v, _ => v = .slice (some ⟨ob, 0, none⟩) n oc
  | 46, v, _ => v = .int .i64 (jj : Int)
  | 47, v, _ => v = .pointer (some ⟨ob, jj, none⟩)
  | 48, v, _ => v = .bool true
  | 49, v, _ => v = .bool false
  | 50, v, _ => v = .bool false
  | 51, v, _ => v = undef
  | 52, v, _ => v = .bool false
  | 53, v, _ => v = .bool false
  | 54, v, _ => v = undef
  | 55, v, _ => v = undef
  | 56, v, _ => v = undef
  | 57, v, _ => v = undef
  | 58, v, _ => v = undef
  | 59, v, _ => v = undef
  | 60, v, _ => v = undef
  | 61, v, _ => v = undef
  | 62, v, _ => v = undef
  | 63, v, _ => v = undef
  | 64, v, _ => v = .bool false
  | 65, v, _ => v = .bool false
  | _, _, _ => True
def leaAl31b (hb ob xb jj n vc oc : Nat) (s z : Sv) : Nat → Value → World → Prop
  | 0, v, _ => v = .slice (some ⟨ob, 0, none⟩) n oc
  | 1, v, _ => v = .int .i64 (jj : Int)
  | 2, v, _ => v = .pointer (some ⟨ob, jj, none⟩)
  | 3, v, _ => v = .bool true
  | 4, v, _ => v = .bool true
  | 5, v, _ => v = .bool false
  | 6, v, _ => v = .bool true
  | 7, v, _ => v = .bool true
  | 8, v, _ => v = .bool true
  | 9, v, _ => v = .bool true
  | 10, v, _ => v = .bool false
  | 11, v, _ => v = .bool false
  | 12, v, _ => v = .pointer (some ⟨xb, 0, none⟩)
  | 13, v, _ => v = .agg #[.int .i64 z.tid.node, .int .i64 z.tid.epoch, .int .i64 z.tid.seq]
  | 14, v, _ => v = .slice (some ⟨hb, 0, none⟩) n vc
  | 15, v, _ => v = .int .i64 (jj : Int)
  | 16, v, _ => v = .pointer (some ⟨hb, jj * 4, none⟩)
  | 17, v, _ => v = .pointer (some ⟨hb, jj * 4, none⟩)
  | 18, v, _ => v = .agg #[.int .i64 s.tid.node, .int .i64 s.tid.epoch, .int .i64 s.tid.seq]
  | 19, v, _ => v = .bool false
  | 20, v, _ => v = .bool false
  | 21, v, _ => v = .bool false
  | 22, v, _ => v = .pointer (some ⟨xb, 3, none⟩)
  | 23, v, _ => v = .int .i64 z.til
  | 24, v, _ => v = .slice (some ⟨hb, 0, none⟩) n vc
  | 25, v, _ => v = .int .i64 (jj : Int)
  | 26, v, _ => v = .pointer (some ⟨hb, jj * 4, none⟩)
  | 27, v, _ => v = .pointer (some ⟨hb, jj * 4 + 3, none⟩)
  | 28, v, _ => v = .int .i64 s.til
  | 29, v, _ => v = .bool false
  | 30, v, _ => v = .bool false
  | 31, v, _ => v = .bool false
  | 32, v, _ => v = .bool false
  | 33, v, _ => v = .slice (some ⟨ob, 0, none⟩) n oc
  | 34, v, _ => v = .int .i64 (jj : Int)
  | 35, v, _ => v = .pointer (some ⟨ob, jj, none⟩)
  | 36, v, _ => v = .bool true
  | 37, v, _ => v = .bool true
  | 38, v, _ => v = .bool false
  | 39, v, _ => v = .bool false
  | 40, v, _ => v = .bool false
  | 41, v, _ => v = undef
  | 42, v, _ => v = .bool false
  | 43, v, _ => v = .bool false
  | 44, v, _ => v = .bool false
  | 45, v, _ => v = .slice (some ⟨ob, 0, none⟩) n oc
  | 46, v, _ => v = .int .i64 (jj : Int)
  | 47, v, _ => v = .pointer (some ⟨ob, jj, none⟩)
  | 48, v, _ => v = .bool true
  | 49, v, _ => v = .bool false
  | 50, v, _ => v = .bool false
  | 51, v, _ => v = undef
  | 52, v, _ => v = .bool false
  | 53, v, _ => v = .bool false
  | 54, v, _ => v = undef
  | 55, v, _ => v = undef
  | 56, v, _ => v = undef
  | 57, v, _ => v = undef
  | 58, v, _ => v = undef
  | 59, v, _ => v = undef
  | 60, v, _ => v = undef
  | 61, v, _ => v = undef
  | 62, v, _ => v = undef
  | 63, v, _ => v = undef
  | 64, v, _ => v = .bool false
  | 65, v, _ => v = .bool false
  | _, _, _ => True
def leaAl31c (ob jj n oc : Nat) : Nat → Value → World → Prop
  | 0, v, _ => v = .slice (some ⟨ob, 0, none⟩) n oc
  | 1, v, _ => v = .int .i64 (jj : Int)
  | 2, v, _ => v = .pointer (some ⟨ob, jj, none⟩)
  | 3, v, _ => v = .bool false
  | 4, v, _ => v = .bool false
  | 5, v, _ => v = undef
  | 6, v, _ => v = undef
  | 7, v, _ => v = .bool false
  | 8, v, _ => v = .bool false
  | 9, v, _ => v = undef
  | 10, v, _ => v = undef
  | 11, v, _ => v = undef
  | 12, v, _ => v = undef
  | 13, v, _ => v = undef
  | 14, v, _ => v = undef
  | 15, v, _ => v = undef
  | 16, v, _ => v = undef
  | 17, v, _ => v = undef
  | 18, v, _ => v = undef
  | 19, v, _ => v = undef
  | 20, v, _ => v = undef
  | 21, v, _ => v = undef
  | 22, v, _ => v = undef
  | 23, v, _ => v = undef
  | 24, v, _ => v = undef
  | 25, v, _ => v = undef
  | 26, v, _ => v = undef
  | 27, v, _ => v = undef
  | 28, v, _ => v = undef
  | 29, v, _ => v = undef
  | 30, v, _ => v = undef
  | 31, v, _ => v = .bool false
  | 32, v, _ => v = .bool false
  | 33, v, _ => v = .slice (some ⟨ob, 0, none⟩) n oc
  | 34, v, _ => v = .int .i64 (jj : Int)
  | 35, v, _ => v = .pointer (some ⟨ob, jj, none⟩)
  | 36, v, _ => v = .bool false
  | 37, v, _ => v = .bool false
  | 38, v, _ => v = undef
  | 39, v, _ => v = .bool false
  | 40, v, _ => v = .bool false
  | 41, v, _ => v = undef
  | 42, v, _ => v = .bool false
  | 43, v, _ => v = .bool false
  | 44, v, _ => v = .bool false
  | 45, v, _ => v = .slice (some ⟨ob, 0, none⟩) n oc
  | 46, v, _ => v = .int .i64 (jj : Int)
  | 47, v, _ => v = .pointer (some ⟨ob, jj, none⟩)
  | 48, v, _ => v = .bool false
  | 49, v, _ => v = .bool true
  | 50, v, _ => v = .bool true
  | 51, v, _ => v = .bool false
  | 52, v, _ => v = .bool false
  | 53, v, _ => v = .bool false
  | 54, v, _ => v = undef
  | 55, v, _ => v = undef
  | 56, v, _ => v = undef
  | 57, v, _ => v = undef
  | 58, v, _ => v = undef
  | 59, v, _ => v = undef
  | 60, v, _ => v = undef
  | 61, v, _ => v = undef
  | 62, v, _ => v = undef
  | 63, v, _ => v = undef
  | 64, v, _ => v = .bool false
  | 65, v, _ => v = .bool false
  | _, _, _ => True
def leaAl31d (ob xb gb jj n oc : Nat) (z : Sv) (tid : Lt) : Nat → Value → World → Prop
  | 0, v, _ => v = .slice (some ⟨ob, 0, none⟩) n oc
  | 1, v, _ => v = .int .i64 (jj : Int)
  | 2, v, _ => v = .pointer (some ⟨ob, jj, none⟩)
  | 3, v, _ => v = .bool false
  | 4, v, _ => v = .bool false
  | 5, v, _ => v = undef
  | 6, v, _ => v = undef
  | 7, v, _ => v = .bool false
  | 8, v, _ => v = .bool false
  | 9, v, _ => v = undef
  | 10, v, _ => v = undef
  | 11, v, _ => v = undef
  | 12, v, _ => v = undef
  | 13, v, _ => v = undef
  | 14, v, _ => v = undef
  | 15, v, _ => v = undef
  | 16, v, _ => v = undef
  | 17, v, _ => v = undef
  | 18, v, _ => v = undef
  | 19, v, _ => v = undef
  | 20, v, _ => v = undef
  | 21, v, _ => v = undef
  | 22, v, _ => v = undef
  | 23, v, _ => v = undef
  | 24, v, _ => v = undef
  | 25, v, _ => v = undef
  | 26, v, _ => v = undef
  | 27, v, _ => v = undef
  | 28, v, _ => v = undef
  | 29, v, _ => v = undef
  | 30, v, _ => v = undef
  | 31, v, _ => v = .bool false
  | 32, v, _ => v = .bool false
  | 33, v, _ => v = .slice (some ⟨ob, 0, none⟩) n oc
  | 34, v, _ => v = .int .i64 (jj : Int)
  | 35, v, _ => v = .pointer (some ⟨ob, jj, none⟩)
  | 36, v, _ => v = .bool false
  | 37, v, _ => v = .bool false
  | 38, v, _ => v = undef
  | 39, v, _ => v = .bool false
  | 40, v, _ => v = .bool false
  | 41, v, _ => v = undef
  | 42, v, _ => v = .bool false
  | 43, v, _ => v = .bool false
  | 44, v, _ => v = .bool false
  | 45, v, _ => v = .slice (some ⟨ob, 0, none⟩) n oc
  | 46, v, _ => v = .int .i64 (jj : Int)
  | 47, v, _ => v = .pointer (some ⟨ob, jj, none⟩)
  | 48, v, _ => v = .bool false
  | 49, v, _ => v = .bool true
  | 50, v, _ => v = .bool true
  | 51, v, _ => v = .bool true
  | 52, v, _ => v = .bool true
  | 53, v, _ => v = .bool true
  | 54, v, _ => v = .pointer (some ⟨gb, 0, none⟩)
  | 55, v, _ => v = .int .i64 0
  | 56, v, _ => v = .bool false
  | 57, v, _ => v = .bool false
  | 58, v, _ => v = .pointer (some ⟨xb, 0, none⟩)
  | 59, v, _ => v = .agg #[.int .i64 z.tid.node, .int .i64 z.tid.epoch, .int .i64 z.tid.seq]
  | 60, v, _ => v = .pointer (some ⟨gb, 2, none⟩)
  | 61, v, _ => v = .agg #[.int .i64 tid.node, .int .i64 tid.epoch, .int .i64 tid.seq]
  | 62, v, _ => v = .bool false
  | 63, v, _ => v = .bool false
  | 64, v, _ => v = .bool false
  | 65, v, _ => v = .bool false
  | _, _, _ => True
set_option maxHeartbeats 4000000 in
theorem walk (r : Nat) (A : Option Addr) (os : List Opl) (cap : Nat) (w : World) (hr : r ≤ 255) (h : Opls w A os) (hl : os.length ≤ 140737488351232) :
    Calls Try.prog 4 #[.int .u8 (r : Int), .slice A os.length cap] w fun e w' => e = .returned (.bool true) ∧ Below w.heap.size w w' := by
  have HA := Lib.hid (awake_any w)
  have HH := Lib.hid h
  have HGR := Lib.hid (fun (wi : World) (hb : Below w.heap.size w wi) => great_any A os cap wi (h.later hb) hl)
  obtain ⟨N, hN⟩ : ∃ n, os.length = n := ⟨_, rfl⟩
  have HN := Lib.hid hN
  obtain ⟨gr, hgr⟩ : ∃ b, greatN os = b := ⟨_, rfl⟩
  have HG := Lib.hid hgr
  rw [hN] at hl HGR ⊢
  rw [hgr] at HGR
  obtain ⟨n, hn⟩ : ∃ n : Nat, n = 1 + r % 16 := ⟨_, rfl⟩
  have hn1 : 1 ≤ n := by omega
  have hn2 : n ≤ 16 := by omega
  have hw1 : IntKind.i64.wrap (r : Int) = (r : Int) := IntWalk.i64_in _ (by omega)
  have hw2 : IntKind.i64.wrap (1 + (r : Int) % 16) = (n : Int) := by rw [IntWalk.i64_in _ (by omega)]; omega
  clear h hN hn hgr
  cases gr with
  | true =>
    go_enter Try.func4, Try.ntmps4
    go_wp2_with fail
    refine HA.out.mono ?_
    rintro e w1 ⟨rfl, hb1⟩
    have HB1 := Lib.hid hb1
    clear hb1
    go_wp2_with fail
    refine (HGR.out w1 HB1.out).mono ?_
    rintro e w2 ⟨rfl, hb2⟩
    have HB2 := Lib.hid (HB1.out.trans (hb2.mono HB1.out.size))
    clear hb2
    go_wp2_with fail
    go_returns
    exact ⟨rfl, HB2.out⟩
  | false =>
    have HSM := Lib.hid (great_no HG.out)
    go_enter Try.func4, Try.ntmps4
    go_wp2_with fail
    refine HA.out.mono ?_
    rintro e w0 ⟨rfl, hb0⟩
    have HB0 := Lib.hid hb0
    clear hb0 HA
    go_wp2_with fail
    refine (HGR.out w0 HB0.out).mono ?_
    rintro e w1 ⟨rfl, hb1⟩
    have HB1 := Lib.hid (HB0.out.trans (hb1.mono HB0.out.size))
    clear hb1 HGR HB0
    have HNW := Lib.hid (New_any w1 n hn1 hn2)
    obtain ⟨B, hB⟩ : ∃ B, w1.heap.size = B := ⟨_, rfl⟩
    have HBE := Lib.hid hB
    rw [hB] at HNW
    clear hB
    go_wp2_with fail
    refine HNW.out.mono ?_
    rintro e w2 ⟨tb, g, rfl, h2, hb2⟩
    have HT2 : Hid (Tb B w2 tb g (List.replicate n sv0) ∧ (List.replicate n sv0).length = n) := Lib.hid ⟨h2, List.length_replicate⟩
    have HB2 := Lib.hid hb2
    have HS2 : Hid (B ≤ w2.heap.size) := Lib.hid (Nat.le_trans (Nat.le_of_eq HBE.out.symm) hb2.size)
    have HOS : Hid (∀ k, k < N → ∃ b off o, A = some ⟨b, off, none⟩ ∧ os[k]? = some o ∧ o.l.length ≤ 40 ∧ (∀ i, o.l ≠ [] → blk o.A = some i → i < B) ∧ ∀ wi, Below B w1 wi → wi.rangeAt b (off + k * 6) o.vals ∧ o.Ok wi) := Lib.hid fun k hk => by
      have hlt : k < os.length := by rw [HN.out]; exact hk
      obtain ⟨b, off, e1, e2, e3⟩ := (HH.out.later HB1.out).at hlt
      refine ⟨b, off, os[k], e1, List.getElem?_eq_getElem hlt, HSM.out.2 _ (List.getElem_mem hlt), fun i hne hb => ?_, fun wi hb => ?_⟩
      · rw [← HBE.out]
        exact irow_lt e3.is hne hb
      · have hb' : Below w1.heap.size w1 wi := by rw [HBE.out]; exact hb
        exact ⟨range_later e2 hb', e3.later hb'⟩
    clear h2 hb2 HNW hn1
    go_wp2_with fail
    go_loopw [36] (fun i wr => ∃ (k : Nat) (T : List Sv), k ≤ N ∧ i = .int .i64 (k : Int) ∧ Hid (Tb B wr tb g T ∧ T.length = n) ∧ Hid (Below B w1 wr) ∧ Hid (B ≤ wr.heap.size)) (fun i _ => N - (intOf i).toNat)
    case atStart => exact ⟨0, _, Nat.zero_le _, rfl, HT2, HB2, HS2⟩
    case round =>
      clear HT2 HB2 HS2
      obtain ⟨k, T, hk, rfl, HT, HB, HS⟩ := hrel
      by_cases hkn : k < N
      · obtain ⟨b, off, o, rfl, hok, hl40, hlow, hin⟩ := HOS.out k hkn
        have HIN := Lib.hid hin
        have HLW := Lib.hid hlow
        have hrg := (hin wr HB.out).1
        obtain ⟨ok, on, tid, oA, oac, ol⟩ := o
        dsimp only at hl40
        obtain ⟨lq, hlq⟩ : ∃ q, ol.length = q := ⟨_, rfl⟩
        have HLQ := Lib.hid hlq
        unfold Opl.vals at hrg
        dsimp only at hrg
        rw [hlq] at hrg hl40
        have x0 := hrg 0 _ rfl
        rw [Nat.add_zero] at x0
        have x1 := hrg 1 _ rfl
        have x2 := hrg 2 _ rfl
        have x3 := hrg 3 _ rfl
        have x4 := hrg 4 _ rfl
        have x5 := hrg 5 _ rfl
        obtain ⟨we, hwe⟩ : ∃ W, W = wr.alloc (.cells #[.int .i64 ok, .int .i64 on, .int .i64 tid.node, .int .i64 tid.epoch, .int .i64 tid.seq, .slice oA lq oac] 37) := ⟨_, rfl⟩
        have hbe : Below wr.heap.size wr we := by rw [hwe]; exact below_alloc _ _
        have hce : Cells we wr.heap.size 37 [.int .i64 ok, .int .i64 on, .int .i64 tid.node, .int .i64 tid.epoch, .int .i64 tid.seq, .slice oA lq oac] := by rw [hwe]; exact cells_new _ _ _ _ rfl
        obtain ⟨gb, hgb⟩ : ∃ gb, wr.heap.size = gb := ⟨_, rfl⟩
        have HFG : Hid (gb ≠ g) := Lib.hid (by have := HT.out.1.glt.2; omega)
        rw [hgb] at hce
        have HCE := Lib.hid hce
        have HTE : Hid (Tb B we tb g T ∧ T.length = n) := Lib.hid ⟨HT.out.1.later hbe, HT.out.2⟩
        have HBE1 := Lib.hid (HB.out.trans (hbe.mono HS.out))
        have HSE := Lib.hid (Nat.le_trans HS.out hbe.size)
        clear hin hrg hok hlq hbe hce HT HB HS hlow
        go_upto_region 12 with (fail)
        rw [← hwe]
        clear hwe x0 x1 x2 x3 x4 x5
        try rw [hgb]
        clear hgb
        go_wp2_with fail
        go_loopw [10, 11, 12, 13, 14] (fun a b c _ _ wr => ∃ (j : Nat) (V O : Option Addr) (vn vc on oc : Nat), j ≤ n ∧ c = .int .i64 (j : Int) ∧ a = .slice V vn vc ∧ b = .slice O on oc ∧ Hid (Was we.heap.size wr V vn vc O on oc (T.take j)) ∧ Hid (Below we.heap.size we wr)) (fun _ _ c _ _ _ => n - (intOf c).toNat)
        case atStart => exact ⟨0, none, none, 0, 0, 0, 0, Nat.zero_le _, rfl, rfl, rfl, Lib.hid (was_new _ _), Lib.hid (Below.refl _ _)⟩
        case round =>
          obtain ⟨j, V, O, vn, vc, on1, oc, hj, rfl, rfl, rfl, HWS, HBW⟩ := hrel
          by_cases hjn : j < n
          · have hjT : j < T.length := by rw [HTE.out.2]; exact hjn
            have HOF := Lib.hid (Of_any (HTE.out.1.later HBW.out) (j : Int))
            rw [ofT_nat hjT] at HOF
            have htk : T.take (j + 1) = T.take j ++ [T[j]] := List.take_succ_eq_append_getElem hjT
            obtain ⟨s, hs⟩ : ∃ s, T[j] = s := ⟨_, rfl⟩
            rw [hs] at HOF htk
            unfold ofV at HOF
            have HTK := Lib.hid htk
            clear hjT htk hs
            go_wp2_with fail
            refine HOF.out.mono ?_
            rintro e w3 ⟨rfl, hb3⟩
            obtain ⟨w4, hw4⟩ : ∃ W, W = w3.alloc (.cells #[.int .i64 s.tid.node, .int .i64 s.tid.epoch, .int .i64 s.tid.seq, .int .i64 s.til] 48) := ⟨_, rfl⟩
            have hb4 : Below w3.heap.size w3 w4 := by rw [hw4]; exact below_alloc _ _
            have hc4 : Cells w4 w3.heap.size 48 (hvals s) := by rw [hw4]; exact cells_new _ _ _ _ rfl
            have hb34 := hb3.trans (hb4.mono hb3.size)
            have y0 := hc4.cell (j := 0) rfl
            have y1 := hc4.cell (j := 1) rfl
            have y2 := hc4.cell (j := 2) rfl
            have y3 := hc4.cell (j := 3) rfl
            obtain ⟨V2, vn2, vc2, w5, r1, O2, on2, oc2, w6, r2, hws, hb6⟩ := (HWS.out.later hb34).more s (Nat.le_trans HBW.out.size hb34.size) (by rw [List.length_take]; omega)
            have HWS2 : Hid (Was we.heap.size w6 V2 vn2 vc2 O2 on2 oc2 (T.take (j + 1))) := Lib.hid (by rw [HTK.out]; exact hws)
            have HBW2 : Hid (Below we.heap.size we w6) := Lib.hid ((HBW.out.trans (hb34.mono HBW.out.size)).trans hb6)
            have HR1 := Lib.hid r1
            have HR2 := Lib.hid r2
            clear hb3 hb4 hc4 hb34 r1 r2 hws hb6 HOF HWS HBW
            go_upto_region 18 with (fail)
            rw [← hw4]
            clear hw4
            go_wp2_with (first
              | (at_builtin
                 refine Lib.wpList_append_run (w4.alloc (.cells #[.int .i64 s.tid.node, .int .i64 s.tid.epoch, .int .i64 s.tid.seq, .int .i64 s.til] 48)) rfl (.tmp 51) (.tmp 53) 55 55 rfl (.slice V vn vc) (.slice (some ⟨w4.heap.size, 0, none⟩) 1 1) rfl rfl _ _ HR1.out ?_)
              | (at_builtin
                 refine Lib.wpList_append_run (w5.alloc (.cells #[.bool s.held] 4)) rfl (.tmp 55) (.tmp 57) 56 56 rfl (.slice O on1 oc) (.slice (some ⟨w5.heap.size, 0, none⟩) 1 1) rfl rfl _ _ HR2.out ?_))
            go_roundw
            case rel => exact ⟨j + 1, V2, O2, vn2, vc2, on2, oc2, by omega, by go_num, rfl, rfl, HWS2, HBW2⟩
            case measure => simp [intOf]; omega
          · obtain rfl : n = j := by omega
            have HWT : Hid (Was we.heap.size wr V vn vc O on1 oc T) := Lib.hid (by have h1 := HWS.out; rwa [List.take_of_length_le (by rw [HTE.out.2]; omega)] at h1)
            have HT0 : Hid (Tb B wr tb g T ∧ T.length = n) := Lib.hid ⟨HTE.out.1.later HBW.out, HTE.out.2⟩
            have HBX : Hid (∀ wx, Only (fun j => j = g) wr wx → Cells wx gb 37 [.int .i64 ok, .int .i64 on, .int .i64 tid.node, .int .i64 tid.epoch, .int .i64 tid.seq, .slice oA lq oac]) := Lib.hid fun wx ho => cells_only (HCE.out.later HBW.out) ho HFG.out
            have HBY : Hid (∀ wx, Only (fun j => j = g) wr wx → Below B w1 wx ∧ B ≤ wx.heap.size) := Lib.hid fun wx ho => ⟨(HBE1.out.trans (HBW.out.mono HSE.out)).trans (ho.below (Nat.le_trans HSE.out HBW.out.size) fun i e => by rw [e]; exact HTE.out.1.glt.1), Nat.le_trans (Nat.le_trans HSE.out HBW.out.size) ho.size⟩
            have HWX : Hid (∀ wx, Only (fun j => j = g) wr wx → Was we.heap.size wx V vn vc O on1 oc T) := Lib.hid fun wx ho => HWT.out.only ho fun i e => by rw [e]; exact HTE.out.1.glt.2
            have y0 := (HBX.out wr (Only.of_below (Below.refl _ _))).cell (j := 0) rfl
            clear HWS HBW HWT HCE HTE HBE1 HSE hj
            obtain ⟨wv, hwv⟩ : ∃ W, wr = W := ⟨_, rfl⟩
            subst hwv
            go_upto_block 4 with fail
            clear y0
            go_cut [] from 61 to 82 (fun wx => ∃ T' : List Sv, Hid (Tb B wx tb g T' ∧ T'.length = n) ∧ Hid (Only (fun j => j = g) wr wx) ∧ Hid (∀ c, Rl ok tid on (ofT T c) (ofT T' c)))
            case first =>
              have hbx := HBX.out wr (Only.of_below (Below.refl _ _))
              have y1 := hbx.cell (j := 1) rfl
              have y2 := hbx.cell (j := 2) rfl
              have y3 := hbx.cell (j := 3) rfl
              have y4 := hbx.cell (j := 4) rfl
              have y5 := hbx.cell (j := 5) rfl
              clear hbx
              by_cases k0 : ok = 0
              · subst k0
                have HHD := Lib.hid (Hold_any HT0.out.1 tid on (lc := oac) (HIN.out wr (HBY.out wr (Only.of_below (Below.refl _ _))).1).2.is (fun hne i ei => by have h1 := HLW.out i hne ei; have := HT0.out.1.glt.1; omega) (by show ol.length ≤ 1000; rw [HLQ.out]; omega))
                dsimp only at HHD
                rw [HLQ.out] at HHD
                have HRL : Hid (∀ c, Rl 0 tid on (ofT T c) (ofT (holdT T tid on ol) c)) := Lib.hid fun c => rl_hold tid on ol c
                have HLN : Hid ((holdT T tid on ol).length = n) := Lib.hid ((holdT_len ..).trans HT0.out.2)
                go_wp2_with fail
                refine HHD.out.mono ?_
                rintro e w3 ⟨rfl, ht3, ho3⟩
                have HT3 := Lib.hid (And.intro ht3 HLN.out)
                have HO3 := Lib.hid ho3
                clear ht3 ho3 HHD y1 y2 y3 y4 y5
                go_wp2_with fail
                go_meet
                case rel => exact ⟨_, HT3, HO3, HRL⟩
              · have e0 : (ok == 0) = false := by simpa using k0
                by_cases k1 : ok = 1
                · subst k1
                  have HFR := Lib.hid (Free_any HT0.out.1 tid)
                  have HRL : Hid (∀ c, Rl 1 tid on (ofT T c) (ofT (dropT (byWho tid) T) c)) := Lib.hid fun c => by
                    rw [of_drop]
                    exact rl_drop (fun s => by unfold overS byWho; simp) _
                  have HLN : Hid ((dropT (byWho tid) T).length = n) := Lib.hid ((dropT_len ..).trans HT0.out.2)
                  clear k0
                  go_wp2_with fail
                  refine HFR.out.mono ?_
                  rintro e w3 ⟨A3, n3, c3, rfl, _, ht3, ho3⟩
                  have HT3 := Lib.hid (And.intro ht3 HLN.out)
                  have HO3 := Lib.hid ho3
                  clear ht3 ho3 HFR y1 y2 y3 y4 y5
                  go_wp2_with fail
                  go_meet
                  case rel => exact ⟨_, HT3, HO3, HRL⟩
                · have e1 : (ok == 1) = false := by simpa using k1
                  by_cases k2 : ok = 2
                  · subst k2
                    have HFR := Lib.hid (Expire_any HT0.out.1 on)
                    have HRL : Hid (∀ c, Rl 2 tid on (ofT T c) (ofT (dropT (byTime on) T) c)) := Lib.hid fun c => by
                      rw [of_drop]
                      exact rl_drop (fun s => by unfold overS byTime; simp) _
                    have HLN : Hid ((dropT (byTime on) T).length = n) := Lib.hid ((dropT_len ..).trans HT0.out.2)
                    clear k0 k1
                    go_wp2_with fail
                    refine HFR.out.mono ?_
                    rintro e w3 ⟨A3, n3, c3, rfl, _, ht3, ho3⟩
                    have HT3 := Lib.hid (And.intro ht3 HLN.out)
                    have HO3 := Lib.hid ho3
                    clear ht3 ho3 HFR y1 y2 y3 y4 y5
                    go_wp2_with fail
                    go_meet
                    case rel => exact ⟨_, HT3, HO3, HRL⟩
                  · have e2 : (ok == 2) = false := by simpa using k2
                    have HRL : Hid (∀ c, Rl ok tid on (ofT T c) (ofT T c)) := Lib.hid fun c => rl_same k1 k2 _
                    have HO3 : Hid (Only (fun j => j = g) wr wr) := Lib.hid (Only.of_below (Below.refl _ _))
                    clear k0 k1 k2
                    go_wp2_with fail
                    go_meet
                    case rel => exact ⟨_, HT0, HO3, HRL⟩
            case rest =>
              obtain ⟨T', HT1, HO1, HRL⟩ := hcut
              have HTN : Hid (T.length = n) := Lib.hid HT0.out.2
              clear HT0
              have HLC : Hid (Below B w1 wc ∧ B ≤ wc.heap.size) := Lib.hid (HBY.out wc HO1.out)
              have HBC : Hid (∀ wx, Below wc.heap.size wc wx → Cells wx gb 37 [.int .i64 ok, .int .i64 on, .int .i64 tid.node, .int .i64 tid.epoch, .int .i64 tid.seq, .slice oA lq oac]) := Lib.hid fun wx hb => (HBX.out wc HO1.out).later hb
              have HWC : Hid (∀ wx, Below wc.heap.size wc wx → Was we.heap.size wx V vn vc O on1 oc T) := Lib.hid fun wx hb => (HWX.out wc HO1.out).later hb
              clear HBX HBY HWX HO1
              obtain ⟨wd, hwd⟩ : ∃ W, wc = W := ⟨_, rfl⟩
              subst hwd
              go_wp2_with fail
              go_loopw [15, 16, 17, 18] (fun a _ _ _ wz => ∃ jj : Nat, jj ≤ n ∧ a = .int .i64 (jj : Int) ∧ Hid (Below wc.heap.size wc wz)) (fun a _ _ _ _ => n - (intOf a).toNat)
              case atStart => exact ⟨0, Nat.zero_le _, rfl, Lib.hid (Below.refl _ _)⟩
              case round =>
                obtain ⟨jj, hj, rfl, HBZ⟩ := hrel
                by_cases hjn : jj < n
                · have hjT : jj < T.length := by rw [HTN.out]; exact hjn
                  have hjT2 : jj < T'.length := by rw [HT1.out.2]; exact hjn
                  have HOF := Lib.hid (Of_any (HT1.out.1.later HBZ.out) (jj : Int))
                  have hrl := HRL.out (jj : Int)
                  rw [ofT_nat hjT2] at HOF
                  rw [ofT_nat hjT, ofT_nat hjT2] at hrl
                  obtain ⟨hv, ho, hb, ob, rfl, rfl, hz1, hz2⟩ := (HWC.out _ HBZ.out).at hjT
                  clear hz1 hz2
                  rw [HTN.out] at hv ho
                  have hv := hv.symm
                  have ho := ho.symm
                  subst hv
                  subst ho
                  have HAT : Hid (∀ wx, Below wc.heap.size wc wx → CellsO wx hb (jj * 4) (hvals T[jj]) ∧ wx.cell? ⟨ob, jj, none⟩ = some (.bool T[jj].held)) := Lib.hid fun wx hbb => by
                    obtain ⟨_, _, hb2, ob2, e1, e2, h3, h4⟩ := (HWC.out wx hbb).at hjT
                    simp only [Option.some.injEq, Addr.mk.injEq, and_true] at e1 e2
                    subst e1
                    subst e2
                    exact ⟨h3, h4⟩
                  obtain ⟨s, hs⟩ : ∃ s, T[jj] = s := ⟨_, rfl⟩
                  obtain ⟨z, hz⟩ : ∃ s, T'[jj] = s := ⟨_, rfl⟩
                  rw [hs] at HAT hrl
                  rw [hz] at HOF hrl
                  unfold ofV at HOF
                  have HRJ := Lib.hid hrl
                  clear hjT hjT2 hrl hs hz
                  go_wp2_with fail
                  refine HOF.out.mono ?_
                  rintro e w4 ⟨rfl, hb4⟩
                  obtain ⟨w5, hw5⟩ : ∃ W, W = w4.alloc (.cells #[.int .i64 z.tid.node, .int .i64 z.tid.epoch, .int .i64 z.tid.seq, .int .i64 z.til] 48) := ⟨_, rfl⟩
                  have hb5 : Below w4.heap.size w4 w5 := by rw [hw5]; exact below_alloc _ _
                  have hc5 : Cells w5 w4.heap.size 48 (hvals z) := by rw [hw5]; exact cells_new _ _ _ _ rfl
                  obtain ⟨xb, hxb⟩ : ∃ x, w4.heap.size = x := ⟨_, rfl⟩
                  have hb45 := HBZ.out.trans ((hb4.trans (hb5.mono hb4.size)).mono HBZ.out.size)
                  rw [hxb] at hc5
                  have HC5 : Hid (∀ wx, Below w5.heap.size w5 wx → Cells wx xb 48 (hvals z)) := Lib.hid fun wx hb => hc5.later hb
                  have HB5 := Lib.hid hb45
                  clear hb4 hb5 hc5 hb45 HOF HBZ
                  go_upto_region 30 with (fail)
                  rw [← hw5]
                  try rw [hxb]
                  clear hw5 hxb
                  obtain ⟨ov, hov⟩ : ∃ b, overS ok tid on s = b := ⟨_, rfl⟩
                  have HOV := Lib.hid hov
                  clear hov
                  have hjn2 : (jj : Int) < (n : Int) := by omega
                  have hj0 : (0 : Int) ≤ (jj : Int) := by omega
                  go_cut [18] from 94 to 121 (fun x wx => x = .bool ov ∧ Hid (Below w5.heap.size w5 wx))
                  case first =>
                    have hbx := HBC.out w5 HB5.out
                    have g0 := hbx.cell (j := 0) rfl
                    have g1 := hbx.cell (j := 1) rfl
                    have g2 := hbx.cell (j := 2) rfl
                    have g3 := hbx.cell (j := 3) rfl
                    have g4 := hbx.cell (j := 4) rfl
                    have hat := (HAT.out w5 HB5.out).1
                    have q0 : w5.cell? ⟨hb, jj * 4, none⟩ = _ := hat.cell (j := 0) rfl
                    have q1 := hat.cell (j := 1) rfl
                    have q2 := hat.cell (j := 2) rfl
                    have q3 := hat.cell (j := 3) rfl
                    clear hbx hat
                    by_cases k1 : ok = 1
                    · subst k1
                      have hq := lt_eql s.tid tid
                      obtain ⟨d, hd⟩ : ∃ b, decide (s.tid = tid) = b := ⟨_, rfl⟩
                      rw [hd] at hq
                      have HE : Hid (d = ov) := Lib.hid (by rw [← HOV.out, ← hd]; unfold overS; simp)
                      clear hd
                      cases d
                      all_goals
                      · have HE2 := Lib.hid HE.out.symm
                        go_wp2_with fail
                        go_quiet (fail)
                        go_wp2_with fail
                        go_meet
                        case rel => exact ⟨congrArg Value.bool HE2.out.symm, Lib.hid (below_drew _ _)⟩
                    · have e1 : (ok == 1) = false := by simpa using k1
                      by_cases k2 : ok = 2
                      · subst k2
                        obtain ⟨d, hd⟩ : ∃ b, decide (s.til ≤ on) = b := ⟨_, rfl⟩
                        have HE : Hid (d = ov) := Lib.hid (by rw [← HOV.out, ← hd]; unfold overS; simp)
                        clear k1
                        cases d
                        all_goals
                        · have HE2 := Lib.hid HE.out.symm
                          go_wp2_with fail
                          go_quiet (fail)
                          go_wp2_with fail
                          go_meet
                          case rel => exact ⟨congrArg Value.bool HE2.out.symm, Lib.hid (below_drew _ _)⟩
                      · have e2 : (ok == 2) = false := by simpa using k2
                        have HE2 : Hid (ov = false) := Lib.hid (by rw [← HOV.out]; unfold overS; rw [e1, e2]; rfl)
                        clear k1 k2
                        go_wp2_with fail
                        go_quiet (fail)
                        go_wp2_with fail
                        go_meet
                        case rel => exact ⟨congrArg Value.bool HE2.out.symm, Lib.hid (below_drew _ _)⟩
                  case rest =>
                    obtain ⟨rfl, HBD⟩ := hcut
                    have hrl := HRJ.out
                    unfold Rl at hrl
                    rw [HOV.out] at hrl
                    have HB6 := Lib.hid (HB5.out.trans (HBD.out.mono HB5.out.size))
                    obtain ⟨sh, hsh⟩ : ∃ b, s.held = b := ⟨_, rfl⟩
                    obtain ⟨zh, hzh⟩ : ∃ b, z.held = b := ⟨_, rfl⟩
                    rw [hsh] at hrl
                    rw [hzh] at hrl ⊢
                    have HM : Hid (∀ wx, Below wc.heap.size wc wx → CellsO wx hb (jj * 4) (hvals s) ∧ wx.cell? ⟨ob, jj, none⟩ = some (.bool sh) ∧ Cells wx xb 48 (hvals z) ∧ Cells wx gb 37 [.int .i64 ok, .int .i64 on, .int .i64 tid.node, .int .i64 tid.epoch, .int .i64 tid.seq, .slice oA lq oac]) := Lib.hid fun wx hbb => by
                      have h1 := HAT.out wx (HB6.out.trans (hbb.mono HB6.out.size))
                      rw [hsh] at h1
                      exact ⟨h1.1, h1.2, HC5.out wx (HBD.out.trans (hbb.mono HBD.out.size)), HBC.out wx (HB6.out.trans (hbb.mono HB6.out.size))⟩
                    have HI : Hid (jj < n) := Lib.hid hjn
                    clear hsh hzh
                    cases sh with
                    | true =>
                      cases ov with
                      | true =>
                        obtain rfl := hrl.2.1 rfl rfl
                        clear hrl
                        go_upto_region 31 with (fail)
                        refine Reg.region_heavy (by kernel_rfl) 65 [65] (leaAl31a ob jj n oc) (fun a => Below wc.heap.size wc a) (fun a => Below wc.heap.size wc a) (fun V => [(some 122, V 0), (some 123, V 1), (some 124, V 2), (some 125, V 3), (some 126, V 4), (some 127, V 5), (some 128, V 6), (some 129, V 7), (some 130, V 8), (some 131, V 9), (some 132, V 10), (some 133, V 11), (some 134, V 12), (some 135, V 13), (some 136, V 14), (some 137, V 15), (some 138, V 16), (some 139, V 17), (some 140, V 18), (some 141, V 19), (some 142, V 20), (some 143, V 21), (some 144, V 22), (some 145, V 23), (some 146, V 24), (some 147, V 25), (some 148, V 26), (some 149, V 27), (some 150, V 28), (some 151, V 29), (some 152, V 30), (some 153, V 31), (some 154, V 32), (some 155, V 33), (some 156, V 34), (some 157, V 35), (some 158, V 36), (some 159, V 37), (some 160, V 38), (some 161, V 39), (some 162, V 40), (some 163, V 41), (some 164, V 42), (some 165, V 43), (some 166, V 44), (some 167, V 45), (some 168, V 46), (some 169, V 47), (some 170, V 48), (some 171, V 49), (some 172, V 50), (some 173, V 51), (some 174, V 52), (some 175, V 53), (some 176, V 54), (some 177, V 55), (some 178, V 56), (some 179, V 57), (some 180, V 58), (some 181, V 59), (some 182, V 60), (some 183, V 61), (some 184, V 62), (some 185, V 63), (some 186, V 64), (some 187, V 65)]) (by kernel_rfl) (by kernel_rfl) (by kernel_rfl) (fun V => rfl) ?_ ?_ ?_
                        · exact (Below.refl _ _).drew
                        · intro i o ho
                          have hi : i < 66 := (Array.getElem?_eq_some_iff.1 ho).1
                          rcases i with _ | _ | _ | _ | _ | _ | _ | _ | _ | _ | _ | _ | _ | _ | _ | _ | _ | _ | _ | _ | _ | _ | _ | _ | _ | _ | _ | _ | _ | _ | _ | _ | _ | _ | _ | _ | _ | _ | _ | _ | _ | _ | _ | _ | _ | _ | _ | _ | _ | _ | _ | _ | _ | _ | _ | _ | _ | _ | _ | _ | _ | _ | _ | _ | _ | _ | i
                          rotate_right
                          · omega
                          all_goals obtain rfl := Option.some.inj ho
                          all_goals intro ρ wi hE hI hs hd
                          all_goals try dsimp only at hI
                          · have e11 : ρ (.tmp 11) = .slice (some ⟨ob, 0, none⟩) n oc := hs 11; exact Reg.gw hI
                          · have e15 : ρ (.tmp 15) = .int .i64 (jj : Int) := hs 15; exact Reg.gw hI
                          · obtain ⟨_, rfl, e122⟩ := hd 0 122; obtain ⟨_, rfl, e123⟩ := hd 1 123
                            have z1 : (0 : Int) ≤ (jj : Int) := by omega
                            have z2 : (jj : Int) < (n : Int) := by have := HI.out; omega
                            have z3 : jj < n := HI.out; exact Reg.gw hI
                          · obtain ⟨_, rfl, e124⟩ := hd 2 124; have o0 := (HM.out _ hI).2.1; exact Reg.gw hI
                          · obtain ⟨_, rfl, e125⟩ := hd 3 125; exact Reg.gw hI
                          · have e18 : ρ (.tmp 18) = .bool true := hs 18
                            refine Reg.yes ?_
                            exact Reg.gw hI
                          · obtain ⟨_, rfl, e127⟩ := hd 5 127
                            refine Reg.yes ?_
                            exact Reg.gw hI
                          · obtain ⟨_, rfl, e126⟩ := hd 4 126; obtain ⟨_, rfl, e128⟩ := hd 6 128; have hc := hE.const; exact Reg.gw hI
                          · obtain ⟨_, rfl, e129⟩ := hd 7 129; exact Reg.gw hI
                          · exact Reg.no hI
                          · exact Reg.no hI
                          · exact Reg.no hI
                          · exact Reg.no hI
                          · exact Reg.no hI
                          · exact Reg.no hI
                          · exact Reg.no hI
                          · exact Reg.no hI
                          · exact Reg.no hI
                          · exact Reg.no hI
                          · exact Reg.no hI
                          · exact Reg.no hI
                          · exact Reg.no hI
                          · exact Reg.no hI
                          · exact Reg.no hI
                          · exact Reg.no hI
                          · exact Reg.no hI
                          · exact Reg.no hI
                          · exact Reg.no hI
                          · exact Reg.no hI
                          · exact Reg.no hI
                          · exact Reg.no hI
                          · obtain ⟨_, rfl, e130⟩ := hd 8 130; obtain ⟨_, rfl, e152⟩ := hd 30 152; have hc := hE.const; exact Reg.gw hI
                          · obtain ⟨_, rfl, e153⟩ := hd 31 153; exact Reg.gw hI
                          · have e11 : ρ (.tmp 11) = .slice (some ⟨ob, 0, none⟩) n oc := hs 11
                            refine Reg.yes ?_
                            exact Reg.gw hI
                          · have e15 : ρ (.tmp 15) = .int .i64 (jj : Int) := hs 15
                            refine Reg.yes ?_
                            exact Reg.gw hI
                          · obtain ⟨_, rfl, e155⟩ := hd 33 155; obtain ⟨_, rfl, e156⟩ := hd 34 156
                            refine Reg.yes ?_
                            have z1 : (0 : Int) ≤ (jj : Int) := by omega
                            have z2 : (jj : Int) < (n : Int) := by have := HI.out; omega
                            have z3 : jj < n := HI.out; exact Reg.gw hI
                          · obtain ⟨_, rfl, e157⟩ := hd 35 157
                            refine Reg.yes ?_
                            have o0 := (HM.out _ hI).2.1; exact Reg.gw hI
                          · obtain ⟨_, rfl, e158⟩ := hd 36 158
                            refine Reg.yes ?_
                            exact Reg.gw hI
                          · have e18 : ρ (.tmp 18) = .bool true := hs 18
                            refine Reg.yes ?_
                            exact Reg.gw hI
                          · obtain ⟨_, rfl, e159⟩ := hd 37 159; obtain ⟨_, rfl, e160⟩ := hd 38 160; have hc := hE.const
                            refine Reg.yes ?_
                            exact Reg.gw hI
                          · obtain ⟨_, rfl, e161⟩ := hd 39 161
                            refine Reg.yes ?_
                            exact Reg.gw hI
                          · have e17 : ρ (.tmp 17) = .bool false := hs 17
                            refine Reg.yes ?_
                            exact Reg.gw hI
                          · obtain ⟨_, rfl, e162⟩ := hd 40 162; obtain ⟨_, rfl, e163⟩ := hd 41 163; have hc := hE.const
                            refine Reg.yes ?_
                            exact Reg.gw hI
                          · obtain ⟨_, rfl, e154⟩ := hd 32 154; obtain ⟨_, rfl, e164⟩ := hd 42 164; have hc := hE.const; exact Reg.gw hI
                          · obtain ⟨_, rfl, e165⟩ := hd 43 165; exact Reg.gw hI
                          · have e11 : ρ (.tmp 11) = .slice (some ⟨ob, 0, none⟩) n oc := hs 11
                            refine Reg.yes ?_
                            exact Reg.gw hI
                          · have e15 : ρ (.tmp 15) = .int .i64 (jj : Int) := hs 15
                            refine Reg.yes ?_
                            exact Reg.gw hI
                          · obtain ⟨_, rfl, e167⟩ := hd 45 167; obtain ⟨_, rfl, e168⟩ := hd 46 168
                            refine Reg.yes ?_
                            have z1 : (0 : Int) ≤ (jj : Int) := by omega
                            have z2 : (jj : Int) < (n : Int) := by have := HI.out; omega
                            have z3 : jj < n := HI.out; exact Reg.gw hI
                          · obtain ⟨_, rfl, e169⟩ := hd 47 169
                            refine Reg.yes ?_
                            have o0 := (HM.out _ hI).2.1; exact Reg.gw hI
                          · obtain ⟨_, rfl, e170⟩ := hd 48 170
                            refine Reg.yes ?_
                            exact Reg.gw hI
                          · obtain ⟨_, rfl, e171⟩ := hd 49 171
                            refine Reg.yes ?_
                            exact Reg.gw hI
                          · exact Reg.no hI
                          · obtain ⟨_, rfl, e172⟩ := hd 50 172; obtain ⟨_, rfl, e173⟩ := hd 51 173; have hc := hE.const
                            refine Reg.yes ?_
                            exact Reg.gw hI
                          · obtain ⟨_, rfl, e174⟩ := hd 52 174
                            refine Reg.yes ?_
                            exact Reg.gw hI
                          · exact Reg.no hI
                          · exact Reg.no hI
                          · exact Reg.no hI
                          · exact Reg.no hI
                          · exact Reg.no hI
                          · exact Reg.no hI
                          · exact Reg.no hI
                          · exact Reg.no hI
                          · exact Reg.no hI
                          · exact Reg.no hI
                          · obtain ⟨_, rfl, e175⟩ := hd 53 175; obtain ⟨_, rfl, e185⟩ := hd 63 185; have hc := hE.const
                            refine Reg.yes ?_
                            exact Reg.gw hI
                          · obtain ⟨_, rfl, e166⟩ := hd 44 166; obtain ⟨_, rfl, e186⟩ := hd 64 186; have hc := hE.const; exact Reg.gw hI
                        · intro V wf hV hI
                          have hV65 : V 65 = .bool false := hV 65 (by decide) rfl
                          simp only [Reg.putsO, List.foldl_cons, List.foldl_nil, Act.put, List.setIfInBounds_toArray, List.set_cons_succ, List.set_cons_zero, hV65]
                          replace hI : (fun a => Below wc.heap.size wc a) wf := hI
                          clear hV hV65
                          have HBN := Lib.hid (HB6.out.trans (hI.mono HB6.out.size))
                          clear hI
                          go_wp2_with fail
                          go_roundw
                          case rel => exact ⟨jj + 1, by omega, by go_num, HBN⟩
                          case measure => simp [intOf]; omega
                      | false =>
                        obtain ⟨rfl, ht, hle⟩ := hrl.1 rfl rfl
                        have HQ : Hid (∀ W, (binOp .neq 34 (.agg #[.int .i64 z.tid.node, .int .i64 z.tid.epoch, .int .i64 z.tid.seq]) (.agg #[.int .i64 s.tid.node, .int .i64 s.tid.epoch, .int .i64 s.tid.seq])).run Try.prog W = .ok (.bool false) W) := Lib.hid fun W => by
                          have hq := lt_neq z.tid s.tid W
                          rw [decide_eq_true ht] at hq
                          exact hq
                        have HLT : Hid (decide (z.til < s.til) = false) := Lib.hid (by simp; omega)
                        clear hrl ht hle
                        go_upto_region 31 with (fail)
                        refine Reg.region_heavy (by kernel_rfl) 65 [65] (leaAl31b hb ob xb jj n vc oc s z) (fun a => Below wc.heap.size wc a) (fun a => Below wc.heap.size wc a) (fun V => [(some 122, V 0), (some 123, V 1), (some 124, V 2), (some 125, V 3), (some 126, V 4), (some 127, V 5), (some 128, V 6), (some 129, V 7), (some 130, V 8), (some 131, V 9), (some 132, V 10), (some 133, V 11), (some 134, V 12), (some 135, V 13), (some 136, V 14), (some 137, V 15), (some 138, V 16), (some 139, V 17), (some 140, V 18), (some 141, V 19), (some 142, V 20), (some 143, V 21), (some 144, V 22), (some 145, V 23), (some 146, V 24), (some 147, V 25), (some 148, V 26), (some 149, V 27), (some 150, V 28), (some 151, V 29), (some 152, V 30), (some 153, V 31), (some 154, V 32), (some 155, V 33), (some 156, V 34), (some 157, V 35), (some 158, V 36), (some 159, V 37), (some 160, V 38), (some 161, V 39), (some 162, V 40), (some 163, V 41), (some 164, V 42), (some 165, V 43), (some 166, V 44), (some 167, V 45), (some 168, V 46), (some 169, V 47), (some 170, V 48), (some 171, V 49), (some 172, V 50), (some 173, V 51), (some 174, V 52), (some 175, V 53), (some 176, V 54), (some 177, V 55), (some 178, V 56), (some 179, V 57), (some 180, V 58), (some 181, V 59), (some 182, V 60), (some 183, V 61), (some 184, V 62), (some 185, V 63), (some 186, V 64), (some 187, V 65)]) (by kernel_rfl) (by kernel_rfl) (by kernel_rfl) (fun V => rfl) ?_ ?_ ?_
                        · exact (Below.refl _ _).drew
                        · intro i o ho
                          have hi : i < 66 := (Array.getElem?_eq_some_iff.1 ho).1
                          rcases i with _ | _ | _ | _ | _ | _ | _ | _ | _ | _ | _ | _ | _ | _ | _ | _ | _ | _ | _ | _ | _ | _ | _ | _ | _ | _ | _ | _ | _ | _ | _ | _ | _ | _ | _ | _ | _ | _ | _ | _ | _ | _ | _ | _ | _ | _ | _ | _ | _ | _ | _ | _ | _ | _ | _ | _ | _ | _ | _ | _ | _ | _ | _ | _ | _ | _ | i
                          rotate_right
                          · omega
                          all_goals obtain rfl := Option.some.inj ho
                          all_goals intro ρ wi hE hI hs hd
                          all_goals try dsimp only at hI
                          · have e11 : ρ (.tmp 11) = .slice (some ⟨ob, 0, none⟩) n oc := hs 11; exact Reg.gw hI
                          · have e15 : ρ (.tmp 15) = .int .i64 (jj : Int) := hs 15; exact Reg.gw hI
                          · obtain ⟨_, rfl, e122⟩ := hd 0 122; obtain ⟨_, rfl, e123⟩ := hd 1 123
                            have z1 : (0 : Int) ≤ (jj : Int) := by omega
                            have z2 : (jj : Int) < (n : Int) := by have := HI.out; omega
                            have z3 : jj < n := HI.out; exact Reg.gw hI
                          · obtain ⟨_, rfl, e124⟩ := hd 2 124; have o0 := (HM.out _ hI).2.1; exact Reg.gw hI
                          · obtain ⟨_, rfl, e125⟩ := hd 3 125; exact Reg.gw hI
                          · have e18 : ρ (.tmp 18) = .bool false := hs 18
                            refine Reg.yes ?_
                            exact Reg.gw hI
                          · obtain ⟨_, rfl, e127⟩ := hd 5 127
                            refine Reg.yes ?_
                            exact Reg.gw hI
                          · obtain ⟨_, rfl, e126⟩ := hd 4 126; obtain ⟨_, rfl, e128⟩ := hd 6 128; have hc := hE.const; exact Reg.gw hI
                          · obtain ⟨_, rfl, e129⟩ := hd 7 129; exact Reg.gw hI
                          · have e17 : ρ (.tmp 17) = .bool true := hs 17
                            refine Reg.yes ?_
                            exact Reg.gw hI
                          · obtain ⟨_, rfl, e131⟩ := hd 9 131
                            refine Reg.yes ?_
                            exact Reg.gw hI
                          · obtain ⟨_, rfl, e132⟩ := hd 10 132
                            refine Reg.yes ?_
                            exact Reg.gw hI
                          · have e16 : ρ (.tmp 16) = .pointer (some ⟨xb, 0, none⟩) := hs 16
                            refine Reg.yes ?_
                            exact Reg.gw hI
                          · obtain ⟨_, rfl, e134⟩ := hd 12 134
                            refine Reg.yes ?_
                            have y0 := (HM.out _ hI).2.2.1.cell (j := 0) rfl; have y1 := (HM.out _ hI).2.2.1.cell (j := 1) rfl; have y2 := (HM.out _ hI).2.2.1.cell (j := 2) rfl; exact Reg.gw hI
                          · have e10 : ρ (.tmp 10) = .slice (some ⟨hb, 0, none⟩) n vc := hs 10
                            refine Reg.yes ?_
                            exact Reg.gw hI
                          · have e15 : ρ (.tmp 15) = .int .i64 (jj : Int) := hs 15
                            refine Reg.yes ?_
                            exact Reg.gw hI
                          · obtain ⟨_, rfl, e136⟩ := hd 14 136; obtain ⟨_, rfl, e137⟩ := hd 15 137
                            refine Reg.yes ?_
                            have z1 : (0 : Int) ≤ (jj : Int) := by omega
                            have z2 : (jj : Int) < (n : Int) := by have := HI.out; omega
                            have z3 : jj < n := HI.out; exact Reg.gw hI
                          · obtain ⟨_, rfl, e138⟩ := hd 16 138
                            refine Reg.yes ?_
                            exact Reg.gw hI
                          · obtain ⟨_, rfl, e139⟩ := hd 17 139
                            refine Reg.yes ?_
                            have q0 : wi.cell? ⟨hb, jj * 4, none⟩ = _ := (HM.out _ hI).1.cell (j := 0) rfl; have q1 := (HM.out _ hI).1.cell (j := 1) rfl; have q2 := (HM.out _ hI).1.cell (j := 2) rfl; exact Reg.gw hI
                          · obtain ⟨_, rfl, e135⟩ := hd 13 135; obtain ⟨_, rfl, e140⟩ := hd 18 140
                            refine Reg.yes ?_
                            exact Reg.Gives.value (v := .bool false) (w' := wi) (exec_bin .neq 34 _ _ _ rfl _ _ e135 e140 (by kernel_rfl) (HQ.out wi)) (Reg.OwedH.same hI rfl)
                          · obtain ⟨_, rfl, e133⟩ := hd 11 133; obtain ⟨_, rfl, e141⟩ := hd 19 141; have hc := hE.const
                            refine Reg.yes ?_
                            exact Reg.gw hI
                          · obtain ⟨_, rfl, e142⟩ := hd 20 142
                            refine Reg.yes ?_
                            exact Reg.gw hI
                          · have e16 : ρ (.tmp 16) = .pointer (some ⟨xb, 0, none⟩) := hs 16
                            refine Reg.yes ?_
                            exact Reg.gw hI
                          · obtain ⟨_, rfl, e144⟩ := hd 22 144
                            refine Reg.yes ?_
                            have y3 := (HM.out _ hI).2.2.1.cell (j := 3) rfl; exact Reg.gw hI
                          · have e10 : ρ (.tmp 10) = .slice (some ⟨hb, 0, none⟩) n vc := hs 10
                            refine Reg.yes ?_
                            exact Reg.gw hI
                          · have e15 : ρ (.tmp 15) = .int .i64 (jj : Int) := hs 15
                            refine Reg.yes ?_
                            exact Reg.gw hI
                          · obtain ⟨_, rfl, e146⟩ := hd 24 146; obtain ⟨_, rfl, e147⟩ := hd 25 147
                            refine Reg.yes ?_
                            have z1 : (0 : Int) ≤ (jj : Int) := by omega
                            have z2 : (jj : Int) < (n : Int) := by have := HI.out; omega
                            have z3 : jj < n := HI.out; exact Reg.gw hI
                          · obtain ⟨_, rfl, e148⟩ := hd 26 148
                            refine Reg.yes ?_
                            exact Reg.gw hI
                          · obtain ⟨_, rfl, e149⟩ := hd 27 149
                            refine Reg.yes ?_
                            have q3 := (HM.out _ hI).1.cell (j := 3) rfl; exact Reg.gw hI
                          · obtain ⟨_, rfl, e145⟩ := hd 23 145; obtain ⟨_, rfl, e150⟩ := hd 28 150
                            refine Reg.yes ?_
                            have z1 := HLT.out; exact Reg.gw hI
                          · obtain ⟨_, rfl, e143⟩ := hd 21 143; obtain ⟨_, rfl, e151⟩ := hd 29 151; have hc := hE.const
                            refine Reg.yes ?_
                            exact Reg.gw hI
                          · obtain ⟨_, rfl, e130⟩ := hd 8 130; obtain ⟨_, rfl, e152⟩ := hd 30 152; have hc := hE.const; exact Reg.gw hI
                          · obtain ⟨_, rfl, e153⟩ := hd 31 153; exact Reg.gw hI
                          · have e11 : ρ (.tmp 11) = .slice (some ⟨ob, 0, none⟩) n oc := hs 11
                            refine Reg.yes ?_
                            exact Reg.gw hI
                          · have e15 : ρ (.tmp 15) = .int .i64 (jj : Int) := hs 15
                            refine Reg.yes ?_
                            exact Reg.gw hI
                          · obtain ⟨_, rfl, e155⟩ := hd 33 155; obtain ⟨_, rfl, e156⟩ := hd 34 156
                            refine Reg.yes ?_
                            have z1 : (0 : Int) ≤ (jj : Int) := by omega
                            have z2 : (jj : Int) < (n : Int) := by have := HI.out; omega
                            have z3 : jj < n := HI.out; exact Reg.gw hI
                          · obtain ⟨_, rfl, e157⟩ := hd 35 157
                            refine Reg.yes ?_
                            have o0 := (HM.out _ hI).2.1; exact Reg.gw hI
                          · obtain ⟨_, rfl, e158⟩ := hd 36 158
                            refine Reg.yes ?_
                            exact Reg.gw hI
                          · have e18 : ρ (.tmp 18) = .bool false := hs 18
                            refine Reg.yes ?_
                            exact Reg.gw hI
                          · obtain ⟨_, rfl, e159⟩ := hd 37 159; obtain ⟨_, rfl, e160⟩ := hd 38 160; have hc := hE.const
                            refine Reg.yes ?_
                            exact Reg.gw hI
                          · obtain ⟨_, rfl, e161⟩ := hd 39 161
                            refine Reg.yes ?_
                            exact Reg.gw hI
                          · exact Reg.no hI
                          · obtain ⟨_, rfl, e162⟩ := hd 40 162; obtain ⟨_, rfl, e163⟩ := hd 41 163; have hc := hE.const
                            refine Reg.yes ?_
                            exact Reg.gw hI
                          · obtain ⟨_, rfl, e154⟩ := hd 32 154; obtain ⟨_, rfl, e164⟩ := hd 42 164; have hc := hE.const; exact Reg.gw hI
                          · obtain ⟨_, rfl, e165⟩ := hd 43 165; exact Reg.gw hI
                          · have e11 : ρ (.tmp 11) = .slice (some ⟨ob, 0, none⟩) n oc := hs 11
                            refine Reg.yes ?_
                            exact Reg.gw hI
                          · have e15 : ρ (.tmp 15) = .int .i64 (jj : Int) := hs 15
                            refine Reg.yes ?_
                            exact Reg.gw hI
                          · obtain ⟨_, rfl, e167⟩ := hd 45 167; obtain ⟨_, rfl, e168⟩ := hd 46 168
                            refine Reg.yes ?_
                            have z1 : (0 : Int) ≤ (jj : Int) := by omega
                            have z2 : (jj : Int) < (n : Int) := by have := HI.out; omega
                            have z3 : jj < n := HI.out; exact Reg.gw hI
                          · obtain ⟨_, rfl, e169⟩ := hd 47 169
                            refine Reg.yes ?_
                            have o0 := (HM.out _ hI).2.1; exact Reg.gw hI
                          · obtain ⟨_, rfl, e170⟩ := hd 48 170
                            refine Reg.yes ?_
                            exact Reg.gw hI
                          · obtain ⟨_, rfl, e171⟩ := hd 49 171
                            refine Reg.yes ?_
                            exact Reg.gw hI
                          · exact Reg.no hI
                          · obtain ⟨_, rfl, e172⟩ := hd 50 172; obtain ⟨_, rfl, e173⟩ := hd 51 173; have hc := hE.const
                            refine Reg.yes ?_
                            exact Reg.gw hI
                          · obtain ⟨_, rfl, e174⟩ := hd 52 174
                            refine Reg.yes ?_
                            exact Reg.gw hI
                          · exact Reg.no hI
                          · exact Reg.no hI
                          · exact Reg.no hI
                          · exact Reg.no hI
                          · exact Reg.no hI
                          · exact Reg.no hI
                          · exact Reg.no hI
                          · exact Reg.no hI
                          · exact Reg.no hI
                          · exact Reg.no hI
                          · obtain ⟨_, rfl, e175⟩ := hd 53 175; obtain ⟨_, rfl, e185⟩ := hd 63 185; have hc := hE.const
                            refine Reg.yes ?_
                            exact Reg.gw hI
                          · obtain ⟨_, rfl, e166⟩ := hd 44 166; obtain ⟨_, rfl, e186⟩ := hd 64 186; have hc := hE.const; exact Reg.gw hI
                        · intro V wf hV hI
                          have hV65 : V 65 = .bool false := hV 65 (by decide) rfl
                          simp only [Reg.putsO, List.foldl_cons, List.foldl_nil, Act.put, List.setIfInBounds_toArray, List.set_cons_succ, List.set_cons_zero, hV65]
                          replace hI : (fun a => Below wc.heap.size wc a) wf := hI
                          clear hV hV65
                          have HBN := Lib.hid (HB6.out.trans (hI.mono HB6.out.size))
                          clear hI
                          go_wp2_with fail
                          go_roundw
                          case rel => exact ⟨jj + 1, by omega, by go_num, HBN⟩
                          case measure => simp [intOf]; omega
                    | false =>
                      cases zh with
                      | false =>
                        clear hrl
                        go_upto_region 31 with (fail)
                        refine Reg.region_heavy (by kernel_rfl) 65 [65] (leaAl31c ob jj n oc) (fun a => Below wc.heap.size wc a) (fun a => Below wc.heap.size wc a) (fun V => [(some 122, V 0), (some 123, V 1), (some 124, V 2), (some 125, V 3), (some 126, V 4), (some 127, V 5), (some 128, V 6), (some 129, V 7), (some 130, V 8), (some 131, V 9), (some 132, V 10), (some 133, V 11), (some 134, V 12), (some 135, V 13), (some 136, V 14), (some 137, V 15), (some 138, V 16), (some 139, V 17), (some 140, V 18), (some 141, V 19), (some 142, V 20), (some 143, V 21), (some 144, V 22), (some 145, V 23), (some 146, V 24), (some 147, V 25), (some 148, V 26), (some 149, V 27), (some 150, V 28), (some 151, V 29), (some 152, V 30), (some 153, V 31), (some 154, V 32), (some 155, V 33), (some 156, V 34), (some 157, V 35), (some 158, V 36), (some 159, V 37), (some 160, V 38), (some 161, V 39), (some 162, V 40), (some 163, V 41), (some 164, V 42), (some 165, V 43), (some 166, V 44), (some 167, V 45), (some 168, V 46), (some 169, V 47), (some 170, V 48), (some 171, V 49), (some 172, V 50), (some 173, V 51), (some 174, V 52), (some 175, V 53), (some 176, V 54), (some 177, V 55), (some 178, V 56), (some 179, V 57), (some 180, V 58), (some 181, V 59), (some 182, V 60), (some 183, V 61), (some 184, V 62), (some 185, V 63), (some 186, V 64), (some 187, V 65)]) (by kernel_rfl) (by kernel_rfl) (by kernel_rfl) (fun V => rfl) ?_ ?_ ?_
                        · exact (Below.refl _ _).drew
                        · intro i o ho
                          have hi : i < 66 := (Array.getElem?_eq_some_iff.1 ho).1
                          rcases i with _ | _ | _ | _ | _ | _ | _ | _ | _ | _ | _ | _ | _ | _ | _ | _ | _ | _ | _ | _ | _ | _ | _ | _ | _ | _ | _ | _ | _ | _ | _ | _ | _ | _ | _ | _ | _ | _ | _ | _ | _ | _ | _ | _ | _ | _ | _ | _ | _ | _ | _ | _ | _ | _ | _ | _ | _ | _ | _ | _ | _ | _ | _ | _ | _ | _ | i
                          rotate_right
                          · omega
                          all_goals obtain rfl := Option.some.inj ho
                          all_goals intro ρ wi hE hI hs hd
                          all_goals try dsimp only at hI
                          · have e11 : ρ (.tmp 11) = .slice (some ⟨ob, 0, none⟩) n oc := hs 11; exact Reg.gw hI
                          · have e15 : ρ (.tmp 15) = .int .i64 (jj : Int) := hs 15; exact Reg.gw hI
                          · obtain ⟨_, rfl, e122⟩ := hd 0 122; obtain ⟨_, rfl, e123⟩ := hd 1 123
                            have z1 : (0 : Int) ≤ (jj : Int) := by omega
                            have z2 : (jj : Int) < (n : Int) := by have := HI.out; omega
                            have z3 : jj < n := HI.out; exact Reg.gw hI
                          · obtain ⟨_, rfl, e124⟩ := hd 2 124; have o0 := (HM.out _ hI).2.1; exact Reg.gw hI
                          · obtain ⟨_, rfl, e125⟩ := hd 3 125; exact Reg.gw hI
                          · exact Reg.no hI
                          · exact Reg.no hI
                          · obtain ⟨_, rfl, e126⟩ := hd 4 126; obtain ⟨_, rfl, e128⟩ := hd 6 128; have hc := hE.const; exact Reg.gw hI
                          · obtain ⟨_, rfl, e129⟩ := hd 7 129; exact Reg.gw hI
                          · exact Reg.no hI
                          · exact Reg.no hI
                          · exact Reg.no hI
                          · exact Reg.no hI
                          · exact Reg.no hI
                          · exact Reg.no hI
                          · exact Reg.no hI
                          · exact Reg.no hI
                          · exact Reg.no hI
                          · exact Reg.no hI
                          · exact Reg.no hI
                          · exact Reg.no hI
                          · exact Reg.no hI
                          · exact Reg.no hI
                          · exact Reg.no hI
                          · exact Reg.no hI
                          · exact Reg.no hI
                          · exact Reg.no hI
                          · exact Reg.no hI
                          · exact Reg.no hI
                          · exact Reg.no hI
                          · exact Reg.no hI
                          · obtain ⟨_, rfl, e130⟩ := hd 8 130; obtain ⟨_, rfl, e152⟩ := hd 30 152; have hc := hE.const; exact Reg.gw hI
                          · obtain ⟨_, rfl, e153⟩ := hd 31 153; exact Reg.gw hI
                          · have e11 : ρ (.tmp 11) = .slice (some ⟨ob, 0, none⟩) n oc := hs 11
                            refine Reg.yes ?_
                            exact Reg.gw hI
                          · have e15 : ρ (.tmp 15) = .int .i64 (jj : Int) := hs 15
                            refine Reg.yes ?_
                            exact Reg.gw hI
                          · obtain ⟨_, rfl, e155⟩ := hd 33 155; obtain ⟨_, rfl, e156⟩ := hd 34 156
                            refine Reg.yes ?_
                            have z1 : (0 : Int) ≤ (jj : Int) := by omega
                            have z2 : (jj : Int) < (n : Int) := by have := HI.out; omega
                            have z3 : jj < n := HI.out; exact Reg.gw hI
                          · obtain ⟨_, rfl, e157⟩ := hd 35 157
                            refine Reg.yes ?_
                            have o0 := (HM.out _ hI).2.1; exact Reg.gw hI
                          · obtain ⟨_, rfl, e158⟩ := hd 36 158
                            refine Reg.yes ?_
                            exact Reg.gw hI
                          · exact Reg.no hI
                          · obtain ⟨_, rfl, e159⟩ := hd 37 159; obtain ⟨_, rfl, e160⟩ := hd 38 160; have hc := hE.const
                            refine Reg.yes ?_
                            exact Reg.gw hI
                          · obtain ⟨_, rfl, e161⟩ := hd 39 161
                            refine Reg.yes ?_
                            exact Reg.gw hI
                          · exact Reg.no hI
                          · obtain ⟨_, rfl, e162⟩ := hd 40 162; obtain ⟨_, rfl, e163⟩ := hd 41 163; have hc := hE.const
                            refine Reg.yes ?_
                            exact Reg.gw hI
                          · obtain ⟨_, rfl, e154⟩ := hd 32 154; obtain ⟨_, rfl, e164⟩ := hd 42 164; have hc := hE.const; exact Reg.gw hI
                          · obtain ⟨_, rfl, e165⟩ := hd 43 165; exact Reg.gw hI
                          · have e11 : ρ (.tmp 11) = .slice (some ⟨ob, 0, none⟩) n oc := hs 11
                            refine Reg.yes ?_
                            exact Reg.gw hI
                          · have e15 : ρ (.tmp 15) = .int .i64 (jj : Int) := hs 15
                            refine Reg.yes ?_
                            exact Reg.gw hI
                          · obtain ⟨_, rfl, e167⟩ := hd 45 167; obtain ⟨_, rfl, e168⟩ := hd 46 168
                            refine Reg.yes ?_
                            have z1 : (0 : Int) ≤ (jj : Int) := by omega
                            have z2 : (jj : Int) < (n : Int) := by have := HI.out; omega
                            have z3 : jj < n := HI.out; exact Reg.gw hI
                          · obtain ⟨_, rfl, e169⟩ := hd 47 169
                            refine Reg.yes ?_
                            have o0 := (HM.out _ hI).2.1; exact Reg.gw hI
                          · obtain ⟨_, rfl, e170⟩ := hd 48 170
                            refine Reg.yes ?_
                            exact Reg.gw hI
                          · obtain ⟨_, rfl, e171⟩ := hd 49 171
                            refine Reg.yes ?_
                            exact Reg.gw hI
                          · have e17 : ρ (.tmp 17) = .bool false := hs 17
                            refine Reg.yes ?_
                            exact Reg.gw hI
                          · obtain ⟨_, rfl, e172⟩ := hd 50 172; obtain ⟨_, rfl, e173⟩ := hd 51 173; have hc := hE.const
                            refine Reg.yes ?_
                            exact Reg.gw hI
                          · obtain ⟨_, rfl, e174⟩ := hd 52 174
                            refine Reg.yes ?_
                            exact Reg.gw hI
                          · exact Reg.no hI
                          · exact Reg.no hI
                          · exact Reg.no hI
                          · exact Reg.no hI
                          · exact Reg.no hI
                          · exact Reg.no hI
                          · exact Reg.no hI
                          · exact Reg.no hI
                          · exact Reg.no hI
                          · exact Reg.no hI
                          · obtain ⟨_, rfl, e175⟩ := hd 53 175; obtain ⟨_, rfl, e185⟩ := hd 63 185; have hc := hE.const
                            refine Reg.yes ?_
                            exact Reg.gw hI
                          · obtain ⟨_, rfl, e166⟩ := hd 44 166; obtain ⟨_, rfl, e186⟩ := hd 64 186; have hc := hE.const; exact Reg.gw hI
                        · intro V wf hV hI
                          have hV65 : V 65 = .bool false := hV 65 (by decide) rfl
                          simp only [Reg.putsO, List.foldl_cons, List.foldl_nil, Act.put, List.setIfInBounds_toArray, List.set_cons_succ, List.set_cons_zero, hV65]
                          replace hI : (fun a => Below wc.heap.size wc a) wf := hI
                          clear hV hV65
                          have HBN := Lib.hid (HB6.out.trans (hI.mono HB6.out.size))
                          clear hI
                          go_wp2_with fail
                          go_roundw
                          case rel => exact ⟨jj + 1, by omega, by go_num, HBN⟩
                          case measure => simp [intOf]; omega
                      | true =>
                        obtain ⟨rfl, ht⟩ := hrl.2.2 rfl rfl
                        have HQ : Hid (∀ W, (binOp .neq 34 (.agg #[.int .i64 z.tid.node, .int .i64 z.tid.epoch, .int .i64 z.tid.seq]) (.agg #[.int .i64 tid.node, .int .i64 tid.epoch, .int .i64 tid.seq])).run Try.prog W = .ok (.bool false) W) := Lib.hid fun W => by
                          have hq := lt_neq z.tid tid W
                          rw [decide_eq_true ht] at hq
                          exact hq
                        clear hrl ht
                        go_upto_region 31 with (fail)
                        refine Reg.region_heavy (by kernel_rfl) 65 [65] (leaAl31d ob xb gb jj n oc z tid) (fun a => Below wc.heap.size wc a) (fun a => Below wc.heap.size wc a) (fun V => [(some 122, V 0), (some 123, V 1), (some 124, V 2), (some 125, V 3), (some 126, V 4), (some 127, V 5), (some 128, V 6), (some 129, V 7), (some 130, V 8), (some 131, V 9), (some 132, V 10), (some 133, V 11), (some 134, V 12), (some 135, V 13), (some 136, V 14), (some 137, V 15), (some 138, V 16), (some 139, V 17), (some 140, V 18), (some 141, V 19), (some 142, V 20), (some 143, V 21), (some 144, V 22), (some 145, V 23), (some 146, V 24), (some 147, V 25), (some 148, V 26), (some 149, V 27), (some 150, V 28), (some 151, V 29), (some 152, V 30), (some 153, V 31), (some 154, V 32), (some 155, V 33), (some 156, V 34), (some 157, V 35), (some 158, V 36), (some 159, V 37), (some 160, V 38), (some 161, V 39), (some 162, V 40), (some 163, V 41), (some 164, V 42), (some 165, V 43), (some 166, V 44), (some 167, V 45), (some 168, V 46), (some 169, V 47), (some 170, V 48), (some 171, V 49), (some 172, V 50), (some 173, V 51), (some 174, V 52), (some 175, V 53), (some 176, V 54), (some 177, V 55), (some 178, V 56), (some 179, V 57), (some 180, V 58), (some 181, V 59), (some 182, V 60), (some 183, V 61), (some 184, V 62), (some 185, V 63), (some 186, V 64), (some 187, V 65)]) (by kernel_rfl) (by kernel_rfl) (by kernel_rfl) (fun V => rfl) ?_ ?_ ?_
                        · exact (Below.refl _ _).drew
                        · intro i o ho
                          have hi : i < 66 := (Array.getElem?_eq_some_iff.1 ho).1
                          rcases i with _ | _ | _ | _ | _ | _ | _ | _ | _ | _ | _ | _ | _ | _ | _ | _ | _ | _ | _ | _ | _ | _ | _ | _ | _ | _ | _ | _ | _ | _ | _ | _ | _ | _ | _ | _ | _ | _ | _ | _ | _ | _ | _ | _ | _ | _ | _ | _ | _ | _ | _ | _ | _ | _ | _ | _ | _ | _ | _ | _ | _ | _ | _ | _ | _ | _ | i
                          rotate_right
                          · omega
                          all_goals obtain rfl := Option.some.inj ho
                          all_goals intro ρ wi hE hI hs hd
                          all_goals try dsimp only at hI
                          · have e11 : ρ (.tmp 11) = .slice (some ⟨ob, 0, none⟩) n oc := hs 11; exact Reg.gw hI
                          · have e15 : ρ (.tmp 15) = .int .i64 (jj : Int) := hs 15; exact Reg.gw hI
                          · obtain ⟨_, rfl, e122⟩ := hd 0 122; obtain ⟨_, rfl, e123⟩ := hd 1 123
                            have z1 : (0 : Int) ≤ (jj : Int) := by omega
                            have z2 : (jj : Int) < (n : Int) := by have := HI.out; omega
                            have z3 : jj < n := HI.out; exact Reg.gw hI
                          · obtain ⟨_, rfl, e124⟩ := hd 2 124; have o0 := (HM.out _ hI).2.1; exact Reg.gw hI
                          · obtain ⟨_, rfl, e125⟩ := hd 3 125; exact Reg.gw hI
                          · exact Reg.no hI
                          · exact Reg.no hI
                          · obtain ⟨_, rfl, e126⟩ := hd 4 126; obtain ⟨_, rfl, e128⟩ := hd 6 128; have hc := hE.const; exact Reg.gw hI
                          · obtain ⟨_, rfl, e129⟩ := hd 7 129; exact Reg.gw hI
                          · exact Reg.no hI
                          · exact Reg.no hI
                          · exact Reg.no hI
                          · exact Reg.no hI
                          · exact Reg.no hI
                          · exact Reg.no hI
                          · exact Reg.no hI
                          · exact Reg.no hI
                          · exact Reg.no hI
                          · exact Reg.no hI
                          · exact Reg.no hI
                          · exact Reg.no hI
                          · exact Reg.no hI
                          · exact Reg.no hI
                          · exact Reg.no hI
                          · exact Reg.no hI
                          · exact Reg.no hI
                          · exact Reg.no hI
                          · exact Reg.no hI
                          · exact Reg.no hI
                          · exact Reg.no hI
                          · exact Reg.no hI
                          · obtain ⟨_, rfl, e130⟩ := hd 8 130; obtain ⟨_, rfl, e152⟩ := hd 30 152; have hc := hE.const; exact Reg.gw hI
                          · obtain ⟨_, rfl, e153⟩ := hd 31 153; exact Reg.gw hI
                          · have e11 : ρ (.tmp 11) = .slice (some ⟨ob, 0, none⟩) n oc := hs 11
                            refine Reg.yes ?_
                            exact Reg.gw hI
                          · have e15 : ρ (.tmp 15) = .int .i64 (jj : Int) := hs 15
                            refine Reg.yes ?_
                            exact Reg.gw hI
                          · obtain ⟨_, rfl, e155⟩ := hd 33 155; obtain ⟨_, rfl, e156⟩ := hd 34 156
                            refine Reg.yes ?_
                            have z1 : (0 : Int) ≤ (jj : Int) := by omega
                            have z2 : (jj : Int) < (n : Int) := by have := HI.out; omega
                            have z3 : jj < n := HI.out; exact Reg.gw hI
                          · obtain ⟨_, rfl, e157⟩ := hd 35 157
                            refine Reg.yes ?_
                            have o0 := (HM.out _ hI).2.1; exact Reg.gw hI
                          · obtain ⟨_, rfl, e158⟩ := hd 36 158
                            refine Reg.yes ?_
                            exact Reg.gw hI
                          · exact Reg.no hI
                          · obtain ⟨_, rfl, e159⟩ := hd 37 159; obtain ⟨_, rfl, e160⟩ := hd 38 160; have hc := hE.const
                            refine Reg.yes ?_
                            exact Reg.gw hI
                          · obtain ⟨_, rfl, e161⟩ := hd 39 161
                            refine Reg.yes ?_
                            exact Reg.gw hI
                          · exact Reg.no hI
                          · obtain ⟨_, rfl, e162⟩ := hd 40 162; obtain ⟨_, rfl, e163⟩ := hd 41 163; have hc := hE.const
                            refine Reg.yes ?_
                            exact Reg.gw hI
                          · obtain ⟨_, rfl, e154⟩ := hd 32 154; obtain ⟨_, rfl, e164⟩ := hd 42 164; have hc := hE.const; exact Reg.gw hI
                          · obtain ⟨_, rfl, e165⟩ := hd 43 165; exact Reg.gw hI
                          · have e11 : ρ (.tmp 11) = .slice (some ⟨ob, 0, none⟩) n oc := hs 11
                            refine Reg.yes ?_
                            exact Reg.gw hI
                          · have e15 : ρ (.tmp 15) = .int .i64 (jj : Int) := hs 15
                            refine Reg.yes ?_
                            exact Reg.gw hI
                          · obtain ⟨_, rfl, e167⟩ := hd 45 167; obtain ⟨_, rfl, e168⟩ := hd 46 168
                            refine Reg.yes ?_
                            have z1 : (0 : Int) ≤ (jj : Int) := by omega
                            have z2 : (jj : Int) < (n : Int) := by have := HI.out; omega
                            have z3 : jj < n := HI.out; exact Reg.gw hI
                          · obtain ⟨_, rfl, e169⟩ := hd 47 169
                            refine Reg.yes ?_
                            have o0 := (HM.out _ hI).2.1; exact Reg.gw hI
                          · obtain ⟨_, rfl, e170⟩ := hd 48 170
                            refine Reg.yes ?_
                            exact Reg.gw hI
                          · obtain ⟨_, rfl, e171⟩ := hd 49 171
                            refine Reg.yes ?_
                            exact Reg.gw hI
                          · have e17 : ρ (.tmp 17) = .bool true := hs 17
                            refine Reg.yes ?_
                            exact Reg.gw hI
                          · obtain ⟨_, rfl, e172⟩ := hd 50 172; obtain ⟨_, rfl, e173⟩ := hd 51 173; have hc := hE.const
                            refine Reg.yes ?_
                            exact Reg.gw hI
                          · obtain ⟨_, rfl, e174⟩ := hd 52 174
                            refine Reg.yes ?_
                            exact Reg.gw hI
                          · have e9 : ρ (.tmp 9) = .pointer (some ⟨gb, 0, none⟩) := hs 9
                            refine Reg.yes ?_
                            exact Reg.gw hI
                          · obtain ⟨_, rfl, e176⟩ := hd 54 176
                            refine Reg.yes ?_
                            have g0 := (HM.out _ hI).2.2.2.cell (j := 0) rfl; exact Reg.gw hI
                          · obtain ⟨_, rfl, e177⟩ := hd 55 177; have hc := hE.const
                            refine Reg.yes ?_
                            exact Reg.gw hI
                          · obtain ⟨_, rfl, e178⟩ := hd 56 178
                            refine Reg.yes ?_
                            exact Reg.gw hI
                          · have e16 : ρ (.tmp 16) = .pointer (some ⟨xb, 0, none⟩) := hs 16
                            refine Reg.yes ?_
                            exact Reg.gw hI
                          · obtain ⟨_, rfl, e180⟩ := hd 58 180
                            refine Reg.yes ?_
                            have y0 := (HM.out _ hI).2.2.1.cell (j := 0) rfl; have y1 := (HM.out _ hI).2.2.1.cell (j := 1) rfl; have y2 := (HM.out _ hI).2.2.1.cell (j := 2) rfl; exact Reg.gw hI
                          · have e9 : ρ (.tmp 9) = .pointer (some ⟨gb, 0, none⟩) := hs 9
                            refine Reg.yes ?_
                            exact Reg.gw hI
                          · obtain ⟨_, rfl, e182⟩ := hd 60 182
                            refine Reg.yes ?_
                            have g2 := (HM.out _ hI).2.2.2.cell (j := 2) rfl; have g3 := (HM.out _ hI).2.2.2.cell (j := 3) rfl; have g4 := (HM.out _ hI).2.2.2.cell (j := 4) rfl; exact Reg.gw hI
                          · obtain ⟨_, rfl, e181⟩ := hd 59 181; obtain ⟨_, rfl, e183⟩ := hd 61 183
                            refine Reg.yes ?_
                            exact Reg.Gives.value (v := .bool false) (w' := wi) (exec_bin .neq 34 _ _ _ rfl _ _ e181 e183 (by kernel_rfl) (HQ.out wi)) (Reg.OwedH.same hI rfl)
                          · obtain ⟨_, rfl, e179⟩ := hd 57 179; obtain ⟨_, rfl, e184⟩ := hd 62 184; have hc := hE.const
                            refine Reg.yes ?_
                            exact Reg.gw hI
                          · obtain ⟨_, rfl, e175⟩ := hd 53 175; obtain ⟨_, rfl, e185⟩ := hd 63 185; have hc := hE.const
                            refine Reg.yes ?_
                            exact Reg.gw hI
                          · obtain ⟨_, rfl, e166⟩ := hd 44 166; obtain ⟨_, rfl, e186⟩ := hd 64 186; have hc := hE.const; exact Reg.gw hI
                        · intro V wf hV hI
                          have hV65 : V 65 = .bool false := hV 65 (by decide) rfl
                          simp only [Reg.putsO, List.foldl_cons, List.foldl_nil, Act.put, List.setIfInBounds_toArray, List.set_cons_succ, List.set_cons_zero, hV65]
                          replace hI : (fun a => Below wc.heap.size wc a) wf := hI
                          clear hV hV65
                          have HBN := Lib.hid (HB6.out.trans (hI.mono HB6.out.size))
                          clear hI
                          go_wp2_with fail
                          go_roundw
                          case rel => exact ⟨jj + 1, by omega, by go_num, HBN⟩
                          case measure => simp [intOf]; omega
                · have HTF : Hid (Tb B wr tb g T' ∧ T'.length = n) := Lib.hid ⟨HT1.out.1.later HBZ.out, HT1.out.2⟩
                  have HBF := Lib.hid (HLC.out.1.trans (HBZ.out.mono HLC.out.2))
                  have HSF := Lib.hid (Nat.le_trans HLC.out.2 HBZ.out.size)
                  go_wp2_with fail
                  go_roundw
                  case rel => exact ⟨k + 1, T', by omega, by go_num, HTF, HBF, HSF⟩
                  case measure => simp [intOf]; omega
      · obtain rfl : k = N := by omega
        go_wp2_with fail
        go_returns
        exact ⟨rfl, HB1.out.trans (HB.out.mono (by rw [← HBE.out]; exact HB1.out.size))⟩
theorem opened {H : Type} {enc : TypeId × Value → H} {W : World} {base : Nat} {gs : List (DataW H)} (v0 : Value) (d0 : DataW H) (p0 : List MemPlace) (v1 : Value) (d1 : DataW H) (p1 : List MemPlace)
    (o0 : Value.okWide Try.prog W .any base 5 v0) (t0 : DataW.Trod enc Try.prog W 0 (fun _ => true) true 5 v0 d0 p0)
    (o1 : Value.okWide Try.prog W .any base 22 v1) (t1 : DataW.Trod enc Try.prog W 0 (fun _ => true) true 22 v1 d1 p1)
    (hsz : (DataW.weightsEach Try.prog ([5, 22] ++ []) ([d0, d1] ++ gs)).all (· ≤ reachBytes) = true) :
    Calls Try.prog 4 #[v0, v1] W fun e W' => e = .returned (.bool true) ∧ Below W.heap.size W W' := by
  obtain ⟨n, rfl, h1, h2⟩ := arg_u8 o0 t0
  obtain ⟨a0, len, cap, rfl⟩ := okWide_slice Try.underlying22 o1
  obtain ⟨A, os, cap', e, h3, h4⟩ := came_ops (came_of t1 (Base.small_of hsz (j := 1) rfl rfl) (by simp [Value.cells]))
  rw [e]
  obtain ⟨r, rfl⟩ : ∃ r : Nat, n = (r : Int) := ⟨n.toNat, by omega⟩
  exact walk r A os cap' W (by omega) h3 h4

theorem contract (H : Type) (enc : TypeId × Value → H) (W : World) (base : Nat) (args : Array Value) (ds gs : List (DataW H)) (before : List MemPlace)
    (hval : ∀ (j : Nat) t v, Try.f4.params[j]? = some t → args[j]? = some v → Value.okWide Try.prog W .any base t v)
    (hW : DataW.Whole enc Try.prog Try.f4.params.toList Rows.leaseAloneSpec.vars false W args.toList ds gs before)
    (hsz : (DataW.weightsEach Try.prog (Try.f4.params.toList ++ []) (ds ++ gs)).all (· ≤ reachBytes) = true) :
    Calls Try.prog 4 args W fun e W' => ∃ v, e = .returned v ∧ Rows.leaseAloneSpec.post enc Try.prog Try.f4 false true false false W args v W' := by
  have hW0 := hW
  obtain ⟨p, q, hA0, hV, rfl, _, _⟩ := hW
  have hA : DataW.TrodAll enc Try.prog W 0 (fun _ => true) true Try.f4.params.toList args.toList ds p := hA0
  rw [Try.params4] at hA hval hsz
  obtain ⟨v0, vs0, d0, ds0, p0, q0, hargs, rfl, rfl, h0, r0⟩ := trodAll_cons hA
  obtain ⟨v1, vs1, d1, ds1, p1, q1, rfl, rfl, rfl, h1, r1⟩ := trodAll_cons r0
  obtain ⟨rfl, rfl, rfl⟩ := trodAll_nil r1
  obtain rfl : args = #[v0, v1] := by cases args; simp_all
  refine (opened v0 d0 p0 v1 d1 p1 (hval 0 5 v0 rfl rfl) h0 (hval 1 22 v1 rfl rfl) h1 hsz).mono fun e W' ⟨he, hb⟩ => ⟨_, he, ?_⟩
  exact Base.law_post (tb := 4) Base.laidOut (by kernel_rfl) rfl Try.underlying4 rfl (fun l hl => by
    rw [Try.params4] at hl
    match l, hl with
    | [_, _], _ => rfl) (by rw [Try.params4]; rfl) hW0 hb

theorem laid_met (os : Os) : laidMet Try.prog Rows.leaseAloneRow.laid ((Base.plainWorld os).forCall (fun _ _ => 0) ⟨#[], #[.int .u8 0, .slice none 0 0], []⟩).memory := laidMet_nil _ _
theorem reads (os : Os) {H : Type} (enc : TypeId × Value → H) : ∃ places, DataW.whole enc Try.prog ((Base.plainWorld os).forCall (fun _ _ => 0) ⟨#[], #[.int .u8 0, .slice none 0 0], []⟩).memory Try.f4.params.toList Rows.leaseAloneSpec.vars false (#[.int .u8 0, .slice none 0 0] : Array Value).toList 8 = some ([.lit (.int .u8 0), .nil], [], places) :=
  ⟨[], by kernel_rfl⟩

set_option maxRecDepth 100000 in
theorem lifted (os : Os) (started : os.Started) (H : Type) (enc : TypeId × Value → H) (F : Stop.Interp) :
    ReturnsInHanded {} Try.checked os 4 .any ((OpenSpec.ofChange Rows.leaseAloneSpec).preRow enc Try.prog Try.f4 Rows.leaseAloneRow.domain false Rows.leaseAloneRow.laid) (((OpenSpec.ofChange Rows.leaseAloneSpec).at F).post enc Try.prog Try.f4 false true false false) := by
  obtain ⟨places, hx⟩ := reads os enc
  refine returnsInHanded_of_row (C := Try.checked) (s := OpenSpec.ofChange Rows.leaseAloneSpec) Base.own started (by kernel_rfl) Try.func4
    (witness_row_at (enc := enc) (C := Try.checked) false (Base.plainWorld os) #[.int .u8 0, .slice none 0 0] rfl (by kernel_rfl) (by kernel_rfl) (by kernel_rfl)
      (OpenSpec.preRow_of_cond 8 hx (by kernel_rfl) (fun k hk => by cases hk) (by kernel_rfl) (laid_met os))) ?_
  intro W base args ds gs before hval hW _ _ hsz _ _ _
  exact contract H enc W base args ds gs before hval hW hsz

theorem said : Rows.LeaseAloneSaid :=
  OpenClaim.holds_of_cond 4 Try.f4 rfl rfl rfl rfl rfl rfl rfl ⟨rfl, rfl, rfl, rfl, rfl⟩ rfl rfl rfl rfl rfl (by kernel_rfl) Try.func4 (by kernel_rfl)
    (of_decide_eq_true (by kernel_rfl)) (by unfold Func.isWrapper; rw [if_neg (of_decide_eq_false (by kernel_rfl))]; exact ⟨rfl, rfl⟩)
    (fun os started H enc _ F => by rw [OpenClaim.pre_eq_preRow]; exact lifted os started H enc F)
#print axioms said
end Go.Proofs.Ytiobblmagjbhjaa.LeaseAlone
