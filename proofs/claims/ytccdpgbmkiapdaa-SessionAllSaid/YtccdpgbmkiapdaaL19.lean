/-
  Layer 14: a new session; payloads are sent.
  Conditions: none.
-/
import Derived.Test.YtccdpgbmkiapdaaL17
import Derived.Test.YtccdpgbmkiapdaaL18
namespace Go.Proofs.Ytccdpgbmkiapdaa.Ses
set_option maxRecDepth 100000
open Go.RowKit Go.Deep Go.Proofs.Ytccdpgbmkiapdaa.Mem Go.Proofs.Ytccdpgbmkiapdaa.Win
def freshP : Pm := ⟨[], 0, 0, []⟩
/-- A new session. -/
def newS (node nodes epoch : Int) : Sm := ⟨node, epoch, List.replicate nodes.toNat freshP⟩
def okNew (node nodes epoch : Int) : Bool := decide (1 ≤ nodes ∧ nodes ≤ 16 ∧ 1 ≤ node ∧ node ≤ nodes ∧ 1 ≤ epoch ∧ epoch ≤ 1099511627776)
theorem newS_ok {node nodes epoch : Int} (h : okNew node nodes epoch = true) (N : Int) (hN : 0 ≤ N) : Sok N (newS node nodes epoch) := by
 have h1 := of_decide_eq_true h
 refine ⟨h1.2.2.1, ?_, ?_, h1.2.2.2.2.1, h1.2.2.2.2.2, fun p hp => ?_⟩
 ·show node ≤ ((List.replicate nodes.toNat freshP).length : Int)
  rw [List.length_replicate]
  omega
 ·show (List.replicate nodes.toNat freshP).length ≤ 16
  rw [List.length_replicate]
  omega
 ·rw [List.eq_of_mem_replicate hp]
  exact ⟨Wok.nil, Int.le_refl _, by decide, Int.le_refl _, hN, Nat.zero_le _, fun h hh => by cases hh⟩
def zeroP : Value := .agg #[.int .i64 0, .int .u64 0, .int .i64 0, .int .i64 0, .slice none 0 0]
theorem infoP : (Try.prog.info? 126).map (fun i => (i.zero, i.size, i.bytes)) = some (some zeroP, 5, 56) := by kernel_rfl
theorem zeroP_at (m i : Nat) (hi : i < m) (j : Nat) (hj : j < 5) : (madeCells zeroP.cells (m * 5))[i * 5 + j]? = #[Value.int .i64 0, .int .u64 0, .int .i64 0, .int .i64 0, .slice none 0 0][j]? := by
 have e : zeroP.cells = #[.int .i64 0, .int .u64 0, .int .i64 0, .int .i64 0, .slice none 0 0] := rfl
 unfold madeCells
 rw [e, Array.getElem?_map, Array.getElem?_range, if_pos (by omega)]
 show some (#[Value.int .i64 0, .int .u64 0, .int .i64 0, .int .i64 0, .slice none 0 0][(i * 5 + j) % 5]!) = _
 rw [show (i * 5 + j) % 5 = j by omega]
 match j, hj with
 | 0, _ | 1, _ | 2, _ | 3, _ | 4, _ => rfl
set_option maxHeartbeats 1000000 in
theorem New_good (node nodes epoch : Int) (h : okNew node nodes epoch = true) (w : World) :
  Calls Try.prog 16 #[.int .i64 node, .int .i64 nodes, .int .i64 epoch] w fun e w' => ∃ sb F, e = .returned (.tuple #[.pointer (some ⟨sb, 0, none⟩), .int .i64 0]) ∧ SAt w.heap.size F w' sb (newS node nodes epoch) ∧ Below w.heap.size w w' := by
 have hn := of_decide_eq_true h
 obtain ⟨m, hm⟩ : ∃ m : Nat, (m : Int) = nodes := ⟨nodes.toNat, by omega⟩
 subst hm
 have hm16 : m ≤ 16 := by omega
 obtain ⟨i0, hi, hz0, hz1, hz2⟩ := info_parts infoP
 obtain ⟨M, hM⟩ : ∃ M, M = madeCells zeroP.cells (m * 5) := ⟨_, rfl⟩
 have hmk : (Instr.makeSlice 109 (.int .i64 (m : Int)) (.int .i64 (m : Int))).run Try.prog w = .ok (.slice (some ⟨w.heap.size, 0, none⟩) m m) (w.alloc (.cells M 126)) := by
  have h := run_make (P := Try.prog) w 109 126 i0 zeroP Try.underlying109 hi hz0 .i64 .i64 (m : Int) (m : Int) (by omega) (by omega) (by rw [hz2]; omega) (by omega)
  rw [hz1, Int.toNat_natCast, ← hM] at h
  exact h
 obtain ⟨wa, hwa⟩ : ∃ W, W = w.alloc (.cells M 126) := ⟨_, rfl⟩
 have hba : Below w.heap.size w wa := by rw [hwa]; exact below_alloc _ _
 have hsa : wa.heap.size = w.heap.size + 1 := by rw [hwa]; exact World.size_alloc _ _
 have hha : wa.heap[w.heap.size]? = some (.cells M 126 (0, 0)) := by rw [hwa]; exact heap_alloc_new w _
 obtain ⟨wb, hwb⟩ : ∃ W, W = wa.alloc (.cells #[.int .i64 node, .int .i64 epoch, .slice (some ⟨w.heap.size, 0, none⟩) m m] 111) := ⟨_, rfl⟩
 have hbb : Below wa.heap.size wa wb := by rw [hwb]; exact below_alloc _ _
 have hsb : wb.heap.size = w.heap.size + 2 := by rw [hwb, World.size_alloc, hsa]
 have hcb : Cells wb (w.heap.size + 1) 111 [.int .i64 node, .int .i64 epoch, .slice (some ⟨w.heap.size, 0, none⟩) m m] := by rw [hwb, ← hsa]; exact cells_new _ _ _ _ rfl
 have hhb := block_later hbb hha
 have HS : Hid (SAt w.heap.size (fun k => k = w.heap.size ∨ k = w.heap.size + 1) wb (w.heap.size + 1) (newS node (m : Int) epoch)) := Lib.hid (by
  have hlen : (newS node (m : Int) epoch).peers.length = m := by
   show (List.replicate ((m : Int)).toNat freshP).length = m
   rw [List.length_replicate, Int.toNat_natCast]
  have hget : ∀ (i : Nat) (h : i < (newS node (m : Int) epoch).peers.length), (newS node (m : Int) epoch).peers[i] = freshP := fun i h => by
   exact List.eq_of_mem_replicate (List.getElem_mem (l := List.replicate ((m : Int)).toNat freshP) h)
  refine ⟨w.heap.size, fun _ => none, fun _ => 0, ?_, fun i hi2 => ?_, fun i j k _ _ e => (by cases e), Or.inr rfl, Or.inl rfl, fun i k _ e => (by cases e), by omega, fun i k _ e => (by cases e), fun k e => by rcases e with e | e <;> omega, fun k e => by rcases e with e | e <;> omega⟩
  ·rw [hlen]
   exact hcb
  ·rw [hget i hi2]
   rw [hlen] at hi2
   have hz := zeroP_at m i hi2
   rw [← hM] at hz
   refine ⟨⟨0, ⟨M, _, 0, 0, hhb, fun j u hu => ?_, fun j _ hj => by omega⟩, bits_nil⟩, ⟨M, _, 0, 0, hhb, fun j u hu => ?_, fun j _ hj => by omega⟩, OwnG.nil _ _ _ _ _, fun k e => by cases e⟩
   ·have hj : j < 2 := (List.getElem?_eq_some_iff.1 hu).1
    rw [hz j (by omega), ← hu]
    match j, hj with
    | 0, _ | 1, _ => rfl
   ·have hj : j < 3 := (List.getElem?_eq_some_iff.1 hu).1
    rw [Nat.add_assoc, hz (2 + j) (by omega), ← hu]
    match j, hj with
    | 0, _ | 1, _ | 2, _ => rfl)
 have HB : Hid (Below w.heap.size w wb) := Lib.hid (hba.trans (hbb.mono hba.size))
 have HA1 := Lib.hid (among_t (show (1 : Int) ≤ (m : Int) ∧ (m : Int) ≤ 16 by omega) w)
 have HA2 := Lib.hid (among_t (show 1 ≤ node ∧ node ≤ (m : Int) by omega) w)
 have HA3 := Lib.hid (among_t (show 1 ≤ epoch ∧ epoch ≤ 1099511627776 by omega) w)
 rw [← hwa] at hmk
 clear hn h hi hz0 hz1 hz2 hM hba hha hbb hcb hhb hsb
 go_enter Try.func16, Try.ntmps16
 go_wp2_with fail
 refine HA1.out.mono ?_
 rintro e w1 ⟨rfl, rfl⟩
 go_wp2_with fail
 refine HA2.out.mono ?_
 rintro e w1 ⟨rfl, rfl⟩
 go_wp2_with fail
 refine HA3.out.mono ?_
 rintro e w1 ⟨rfl, rfl⟩
 go_wp2_with fail
 go_returns
 rw [← hwa, ← hwb]
 exact ⟨_, _, rfl, HS.out, HB.out⟩
/-- The place of another node's peer. -/
theorem other_at {S : Sm} {x : Int} (h : other S x = true) : ∃ (i : Nat) (_ : i < S.peers.length), (i : Int) + 1 = x ∧ (i : Int) + 1 ≠ S.node := by
 have h1 := of_decide_eq_true h
 exact ⟨(x - 1).toNat, by omega, by omega, by omega⟩
/-- The peer that is another node's. -/
def peerOf (S : Sm) (x : Int) : Pm := (S.peers[(x - 1).toNat]?).getD freshP
def putP (S : Sm) (x : Int) (p : Pm) : Sm := { S with peers := S.peers.set (x - 1).toNat p }
theorem peerOf_at {S : Sm} {i : Nat} (h : i < S.peers.length) : peerOf S ((i : Int) + 1) = S.peers[i] := by
 unfold peerOf
 rw [show ((i : Int) + 1 - 1).toNat = i by omega, List.getElem?_eq_getElem h]
 rfl
theorem putP_at {S : Sm} {i : Nat} (p : Pm) : putP S ((i : Int) + 1) p = { S with peers := S.peers.set i p } := by
 unfold putP
 rw [show ((i : Int) + 1 - 1).toNat = i by omega]
/-- Payloads are sent: what goes out, the error, the session behind it. -/
def sendM (S : Sm) (x : Int) (ss : List ByteArray) : List Ot × Int × Sm :=
 if other S x = false then ([], 1, S) else
 if anyLong ss = true then ([], 1, S) else
 if roomP (peerOf S x) ss.length = false then ([], 6, S) else
 (dataL x S.epoch (peerOf S x).known (newHd (peerOf S x).last ss), 0, putP S x (holdP (peerOf S x) ss))
theorem anyLong_mem {ss : List ByteArray} (h : anyLong ss = false) {s : ByteArray} (hs : s ∈ ss) : s.size ≤ 4032 := by
 unfold anyLong at h
 have := List.any_eq_false.1 h s hs
 simpa using this
set_option maxHeartbeats 1000000 in
theorem Send_any {B sb N : Nat} {F : Nat → Prop} {w : World} {S : Sm} (h : SAt B F w sb S) (hS : Sok N S) (hN : N ≤ 1000000000000) (hB : B ≤ w.heap.size) (x : Int) (SA : Option Addr) (ss : List ByteArray) (c : Nat) (hs : Strs w SA ss) (hne : ∀ ad, SA = some ad → ss ≠ [] → ¬ F ad.block) (hl : ss.length ≤ 1000000) :
  Calls Try.prog 18 #[.pointer (some ⟨sb, 0, none⟩), .int .i64 x, .slice SA ss.length c] w fun e w' => ∃ V vn vc F', e = .returned (.tuple #[.slice V vn vc, .int .i64 (sendM S x ss).2.1]) ∧ OwnG 89 6 Ot.vals w.heap.size w' (.slice V vn vc) (sendM S x ss).1 ∧ SStep B F w sb (sendM S x ss).2.2 F' w' ∧ ∀ k, blk V = some k → ¬ F' k := by
 obtain ⟨pb, As, cs, hx⟩ := h
 have HX := Lib.hid hx
 have HSS := Lib.hid hs
 have HNE := Lib.hid hne
 have HBW := Lib.hid hB
 have HLL := Lib.hid hl
 have hn16 := hS.n2
 unfold sendM
 by_cases ho : other S x = false
 ·rw [if_pos ho]
  have HP := Lib.hid (peer_none hx x ho)
  obtain ⟨n, hn⟩ : ∃ n, ss.length = n := ⟨_, rfl⟩
  rw [hn]
  clear hx hs hne hB hl hS hn16 ho hn
  go_enter Try.func18, Try.ntmps18
  go_wp2_with fail
  refine HP.out.mono ?_
  rintro e w1 ⟨rfl, rfl⟩
  go_wp2_with fail
  go_returns
  exact ⟨none, 0, 0, F, rfl, OwnG.nil _ _ _ _ _, SStep.same ⟨pb, As, cs, HX.out⟩ (Below.refl _ _), fun k e => by cases e⟩
 ·rw [if_neg ho]
  obtain ⟨i, hi, rfl, hnode⟩ := other_at (by simpa using ho)
  have HP := Lib.hid (peer_some hx hn16 i hi hnode)
  have HCF := Lib.hid (containsLong_any SA ss c w hs hl)
  by_cases hlg : anyLong ss = true
  ·rw [if_pos hlg]
   rw [hlg] at HCF
   obtain ⟨n, hn⟩ : ∃ n, ss.length = n := ⟨_, rfl⟩
   rw [hn] at HCF ⊢
   clear hx hs hne hB hl hS hn16 ho hn hlg hi hnode
   go_enter Try.func18, Try.ntmps18
   go_wp2_with fail
   refine HP.out.mono ?_
   rintro e w1 ⟨rfl, rfl⟩
   go_wp2_with fail
   refine HCF.out.mono ?_
   rintro e w1 ⟨rfl, rfl⟩
   go_wp2_with fail
   go_returns
   exact ⟨none, 0, 0, F, rfl, OwnG.nil _ _ _ _ _, SStep.same ⟨pb, As, cs, HX.out⟩ (Below.refl _ _), fun k e => by cases e⟩
  ·rw [if_neg hlg]
   have hlg2 : anyLong ss = false := by simpa using hlg
   rw [hlg2] at HCF
   rw [peerOf_at hi]
   have hok := hS.peers _ (List.getElem_mem hi)
   have HRM := Lib.hid (room_any (hx.peer i hi) hok hN ss.length hl)
   have HI := Lib.hid hi
   have HND := Lib.hid hnode
   have HN16 := Lib.hid hn16
   have HLG := Lib.hid hlg2
   have HOK := Lib.hid hok
   have HNN := Lib.hid hN
   obtain ⟨p, hp⟩ : ∃ p, S.peers[i]'hi = p := ⟨_, rfl⟩
   rw [hp] at HRM HOK ⊢
   have HPI := Lib.hid hp
   by_cases hrm : roomP p ss.length = false
   ·rw [if_pos hrm]
    rw [hrm] at HRM
    obtain ⟨n, hn⟩ : ∃ n, ss.length = n := ⟨_, rfl⟩
    rw [hn] at HCF HRM ⊢
    clear hx hs hne hB hl hS hn16 ho hn hlg hlg2 hnode hok hN hrm hp HPI HI hi HND
    go_enter Try.func18, Try.ntmps18
    go_wp2_with fail
    refine HP.out.mono ?_
    rintro e w1 ⟨rfl, rfl⟩
    go_wp2_with fail
    refine HCF.out.mono ?_
    rintro e w1 ⟨rfl, rfl⟩
    go_wp2_with fail
    refine HRM.out.mono ?_
    rintro e w2 ⟨rfl, hb2⟩
    go_wp2_with fail
    go_returns
    exact ⟨none, 0, 0, F, rfl, OwnG.nil _ _ _ _ _, SStep.same ⟨pb, As, cs, HX.out⟩ hb2, fun k e => by cases e⟩
   ·rw [if_neg hrm]
    have hrm2 : roomP p ss.length = true := by simpa using hrm
    rw [hrm2] at HRM
    have HR32 : Hid (p.held.length + ss.length ≤ 32) := Lib.hid (of_decide_eq_true hrm2).1
    obtain ⟨n, hn⟩ : ∃ n, ss.length = n := ⟨_, rfl⟩
    have HNS := Lib.hid hn
    rw [hn] at HCF HRM ⊢
    clear hx hs hne hB hl hS hn16 ho hn hlg hlg2 hok hN hrm hrm2 hp hnode
    go_enter Try.func18, Try.ntmps18
    go_wp2_with fail
    refine HP.out.mono ?_
    rintro e w1 ⟨rfl, rfl⟩
    go_wp2_with fail
    refine HCF.out.mono ?_
    rintro e w1 ⟨rfl, rfl⟩
    go_wp2_with fail
    refine HRM.out.mono ?_
    rintro e w2 ⟨rfl, hb2⟩
    have hx2 := HX.out.later hb2
    have hpi := hx2.peer i hi
    rw [HPI.out] at hpi
    have hB2 : B ≤ w2.heap.size := Nat.le_trans HBW.out hb2.size
    have hh := hold_any hpi HOK.out HNN.out hB2 SA ss c (HSS.out.later hb2) (fun ad e e0 => ⟨fun e2 => HNE.out ad e e0 (by rw [e2]; exact HX.out.fp), fun e2 => HNE.out ad e e0 (HX.out.fA i _ hi e2.symm)⟩) HR32.out
    rw [HNS.out] at hh
    have HH := Lib.hid hh
    have HX2 := Lib.hid hx2
    have HB2 := Lib.hid hb2
    have HBW2 := Lib.hid hB2
    clear hx2 hpi hh hb2 hB2 HRM HCF HP
    go_wp2_with fail
    refine HH.out.mono ?_
    rintro e w3 ⟨A', ac', A2, c2, rfl, hps, hsl⟩
    obtain ⟨hx3, ho3⟩ := HX2.out.step hi hps HBW2.out
    have hlen3 : ({ S with peers := S.peers.set i (holdP p ss) } : Sm).peers.length = S.peers.length := by show (S.peers.set i (holdP p ss)).length = _; rw [List.length_set]
    have hkn3 : ({ S with peers := S.peers.set i (holdP p ss) } : Sm).peers[i]'(by rw [hlen3]; exact hi) = holdP p ss := by
     show (S.peers.set i (holdP p ss))[i]'_ = _
     rw [List.getElem_set_self]
    have hd := data_any hx3 (by rw [hlen3]; exact HN16.out) i (by rw [hlen3]; exact hi) HND.out A2 (newHd p.last ss) c2 hsl (by rw [newHd_len, HNS.out]; have := HR32.out; have := HNS.out; omega) (fun y hy => by
     have h1 := anyLong_mem HLG.out (newHd_mem hy).2.2.2.2
     omega)
    rw [newHd_len, HNS.out, hkn3] at hd
    have HD := Lib.hid hd
    have HS3 : Hid (SStep B F w1 sb { S with peers := S.peers.set i (holdP p ss) } (fun k => F k ∨ w2.heap.size ≤ k ∧ some k = blk A') w3) := Lib.hid ((HX2.out.turn hi hps HBW2.out).before HB2.out)
    have HLT : Hid (∀ k, (F k ∨ w2.heap.size ≤ k ∧ some k = blk A') → k < w3.heap.size) := Lib.hid hx3.lt
    clear hps hsl hx3 ho3 hlen3 hkn3 hd HH
    go_wp2_with fail
    refine HD.out.mono ?_
    rintro e w4 ⟨V, vn, vc, rfl, hown, hb4⟩
    have HO := Lib.hid hown
    have HB4 := Lib.hid hb4
    clear hown hb4
    go_wp2_with fail
    go_returns
    refine ⟨V, vn, vc, fun k => F k ∨ w2.heap.size ≤ k ∧ some k = blk A', rfl, own_up HS3.out.only.size HO.out, ?_, fun k e e2 => ?_⟩
    ·rw [putP_at]
     exact HS3.out.after HB4.out
    ·have h1 := (HO.out.lt k (by rw [own_blk]; exact e)).1
     have h2 := HLT.out k e2
     omega
end Go.Proofs.Ytccdpgbmkiapdaa.Ses
