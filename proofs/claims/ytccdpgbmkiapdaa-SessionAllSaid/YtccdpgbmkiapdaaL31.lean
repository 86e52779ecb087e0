/-
  Layer 14, SessionOnce: the name of a payload.
  Layer 14, the document's session: where it lies; New.
  Layer 14, the document's session: Other, data, Same; a peer of it turned.
  Conditions: none.
-/
import Derived.Test.YtccdpgbmkiapdaaL30
import Derived.BigQuiet
import Derived.Test.YtccdpgbmkiapdaaL26
import Derived.Laws.StructEq
import Derived.BigRegion
namespace Go.Proofs.Ytccdpgbmkiapdaa.Ses
set_option maxRecDepth 100000
open Go.ChangeShapes Go.WideShapes Go.ChangeAt Go.RowKit Go.Deep Go.Proofs.Ytccdpgbmkiapdaa.Mem Go.Proofs.Ytccdpgbmkiapdaa.Win
theorem name_run (n : Nat) (w : World) : (convert 90 9 (.slice (some ⟨w.heap.size, 0, none⟩) 2 2)).run Try.prog (w.alloc (.cells #[.int .u8 ((UInt8.ofNat (n / 256)).toNat : Int), .int .u8 ((UInt8.ofNat n).toNat : Int)] 5)) =
  .ok (.string (nameB n)) (w.alloc (.cells #[.int .u8 ((UInt8.ofNat (n / 256)).toNat : Int), .int .u8 ((UInt8.ofNat n).toNat : Int)] 5)) := by
 refine run_convert_bytes_back _ 90 9 5 ⟨w.heap.size, 0, none⟩ 2 [UInt8.ofNat (n / 256), UInt8.ofNat n] Try.underlying90 Try.underlying5 Try.underlying9 ?_
 intro j hj
 have hc : Cells (w.alloc (.cells #[.int .u8 ((UInt8.ofNat (n / 256)).toNat : Int), .int .u8 ((UInt8.ofNat n).toNat : Int)] 5)) w.heap.size 5 [.int .u8 ((UInt8.ofNat (n / 256)).toNat : Int), .int .u8 ((UInt8.ofNat n).toNat : Int)] := cells_new _ _ _ _ rfl
 match j, hj with
 | 0, _ => exact hc.cell (j := 0) rfl
 | 1, _ => exact hc.cell (j := 1) rfl
theorem name_any (n : Nat) (hn : n < 65536) (w : World) : Calls Try.prog 60 #[.int .i64 (n : Int)] w fun e w' => e = .returned (.string (nameB n)) ∧ Below w.heap.size w w' := by
 have h0 : ((UInt8.ofNat (n / 256)).toNat : Int) = (n : Int) / 256 := by rw [UInt8.toNat_ofNat']; omega
 have h1 : ((UInt8.ofNat n).toNat : Int) = (n : Int) % 256 := by rw [UInt8.toNat_ofNat']; omega
 have hcv := name_run n w
 rw [h0, h1] at hcv
 obtain ⟨t, ht⟩ : ∃ t, nameB n = t := ⟨_, rfl⟩
 rw [ht] at hcv ⊢
 have HB := Lib.hid (below_alloc w (.cells #[.int .u8 ((n : Int) / 256), .int .u8 ((n : Int) % 256)] 5))
 clear h0 h1 ht
 go_enter Try.func60, Try.ntmps60
 go_wp2_with fail
 go_returns
 exact ⟨rfl, HB.out⟩
end Go.Proofs.Ytccdpgbmkiapdaa.Ses
namespace Go.Proofs.Ytccdpgbmkiapdaa.Ses
set_option maxRecDepth 100000
open Go.RowKit Go.Deep Go.Proofs.Ytccdpgbmkiapdaa.Mem Go.Proofs.Ytccdpgbmkiapdaa.Win
/-- A held payload as the document has it: the delay that comes next. -/
def Hd.rvals (h : Hd) : List Value := [.int .i64 h.seq, .string h.pay, .int .i64 h.left, .int .i64 (min (2 * h.delay) 16)]
theorem fit_rhd (l : List Hd) : Fit 4 (l.map Hd.rvals) := ⟨fun v hv => by obtain ⟨x, _, rfl⟩ := List.mem_map.1 hv; rfl, fun v hv u hu => by
 obtain ⟨x, _, rfl⟩ := List.mem_map.1 hv
 unfold Hd.rvals at hu
 simp only [List.mem_cons, List.not_mem_nil, or_false] at hu
 rcases hu with rfl | rfl | rfl | rfl <;> rfl⟩
theorem el_rhd : Elem 64 119 (.agg #[.int .i64 0, .string ⟨#[]⟩, .int .i64 0, .int .i64 0]) 4 40 := ⟨Try.underlying64, by kernel_rfl, rfl, by decide, by decide⟩
theorem el_rot : Elem 47 121 (.agg #[.int .i64 0, .int .i64 0, .int .i64 0, .int .i64 0, .int .i64 0, .string ⟨#[]⟩]) 6 56 := ⟨Try.underlying47, by kernel_rfl, rfl, by decide, by decide⟩
def iv (x : Int) : List Value := [.int .i64 x]
theorem fit_iv (l : List Int) : Fit 1 (l.map iv) := ⟨fun v hv => by obtain ⟨x, _, rfl⟩ := List.mem_map.1 hv; rfl, fun v hv u hu => by
 obtain ⟨x, _, rfl⟩ := List.mem_map.1 hv
 unfold iv at hu
 simp only [List.mem_cons, List.not_mem_nil, or_false] at hu
 subst hu
 rfl⟩
/-- The cells of a peer of the document's, its numbers at A, its payloads at D. -/
def rpv (p : Pm) (A : Option Addr) (ac : Nat) (D : Option Addr) (dc : Nat) : List Value := [.slice A p.L.length ac, .int .i64 p.known, .int .i64 (p.last + 1), .slice D p.held.length dc]
/-- What a peer of the document's has behind its cells. -/
structure RRows (B : Nat) (w : World) (p : Pm) (A : Option Addr) (ac : Nat) (D : Option Addr) (dc : Nat) : Prop where
 win : OwnG 3 1 iv B w (.slice A p.L.length ac) p.L
 row : OwnG 119 4 Hd.rvals B w (.slice D p.held.length dc) p.held
theorem RRows.only {B ac dc : Nat} {S : Nat → Prop} {w w' : World} {p : Pm} {A D : Option Addr} (h : RRows B w p A ac D dc) (ho : Only S w w') (h1 : ∀ k, blk A = some k → ¬ S k) (h2 : ∀ k, blk D = some k → ¬ S k) : RRows B w' p A ac D dc :=
 ⟨row_only h.win ho fun k e => h1 k (by rw [own_blk] at e; exact e), row_only h.row ho fun k e => h2 k (by rw [own_blk] at e; exact e)⟩
/-- The document's session: its struct in block rb, its peers in block pb. -/
structure RAtX (B : Nat) (F : Nat → Prop) (w : World) (rb : Nat) (S : Sm) (pb pc : Nat) (As : Nat → Option Addr) (cs : Nat → Nat) (Ds : Nat → Option Addr) (ds : Nat → Nat) : Prop where
 cel : Cells w rb 69 [.int .i64 S.node, .int .i64 S.epoch, .slice (some ⟨pb, 0, none⟩) S.peers.length pc]
 peer : ∀ (i : Nat) (h : i < S.peers.length), CellsO w pb (i * 4) (rpv S.peers[i] (As i) (cs i) (Ds i) (ds i)) ∧ RRows B w S.peers[i] (As i) (cs i) (Ds i) (ds i)
 apart : ∀ i j k, i < S.peers.length → j < S.peers.length → blk (As i) = some k → blk (As j) = some k → i = j
 off : ∀ i j k, i < S.peers.length → j < S.peers.length → blk (As i) = some k → blk (Ds j) = some k → False
 fs : F rb
 fp : F pb
 fA : ∀ i k, i < S.peers.length → blk (As i) = some k → F k
 fD : ∀ i k, i < S.peers.length → blk (Ds i) = some k → F k
 sp : rb ≠ pb
 sA : ∀ i k, i < S.peers.length → blk (As i) = some k → k ≠ rb ∧ k ≠ pb
 sD : ∀ i k, i < S.peers.length → blk (Ds i) = some k → k ≠ rb ∧ k ≠ pb
 low : ∀ k, F k → B ≤ k
 lt : ∀ k, F k → k < w.heap.size
 cap : S.peers.length ≤ pc
def RAt (B : Nat) (F : Nat → Prop) (w : World) (rb : Nat) (S : Sm) : Prop := ∃ pb pc As cs Ds ds, RAtX B F w rb S pb pc As cs Ds ds
section
variable {B rb pb pc : Nat} {F T : Nat → Prop} {w w1 w' : World} {S S' : Sm} {As Ds : Nat → Option Addr} {cs ds : Nat → Nat}
theorem RAtX.only (h : RAtX B F w rb S pb pc As cs Ds ds) (ho : Only T w w') (hn : ∀ k, F k → ¬ T k) : RAtX B F w' rb S pb pc As cs Ds ds :=
 ⟨cells_only h.cel ho (hn _ h.fs), fun i hi => ⟨(h.peer i hi).1.only ho (hn _ h.fp), (h.peer i hi).2.only ho (fun k e => hn k (h.fA i k hi e)) fun k e => hn k (h.fD i k hi e)⟩, h.apart, h.off, h.fs, h.fp, h.fA, h.fD, h.sp, h.sA, h.sD, h.low, fun k e => Nat.lt_of_lt_of_le (h.lt k e) ho.size, h.cap⟩
theorem RAtX.later (h : RAtX B F w rb S pb pc As cs Ds ds) (hb : Below w.heap.size w w') : RAtX B F w' rb S pb pc As cs Ds ds := h.only (Only.of_below (S := fun _ => False) hb) fun _ _ e => e
theorem RAt.only (h : RAt B F w rb S) (ho : Only T w w') (hn : ∀ k, F k → ¬ T k) : RAt B F w' rb S := by
 obtain ⟨pb, pc, As, cs, Ds, ds, h⟩ := h
 exact ⟨pb, pc, As, cs, Ds, ds, h.only ho hn⟩
theorem RAt.later (h : RAt B F w rb S) (hb : Below w.heap.size w w') : RAt B F w' rb S := h.only (Only.of_below (S := fun _ => False) hb) fun _ _ e => e
theorem RAt.lt (h : RAt B F w rb S) : ∀ k, F k → k < w.heap.size := by
 obtain ⟨pb, pc, As, cs, Ds, ds, hx⟩ := h
 exact hx.lt
theorem RAt.low (h : RAt B F w rb S) : ∀ k, F k → B ≤ k := by
 obtain ⟨pb, pc, As, cs, Ds, ds, hx⟩ := h
 exact hx.low
structure RStep (B : Nat) (F : Nat → Prop) (w : World) (rb : Nat) (S' : Sm) (F' : Nat → Prop) (w' : World) : Prop where
 at' : RAt B F' w' rb S'
 only : Only F w w'
 new : ∀ k, F' k → F k ∨ w.heap.size ≤ k
theorem RStep.same (h : RAt B F w rb S) (hb : Below w.heap.size w w') : RStep B F w rb S F w' := ⟨h.later hb, Only.of_below hb, fun _ e => Or.inl e⟩
theorem RStep.before {F' : Nat → Prop} (hb : Below w.heap.size w w1) (h : RStep B F w1 rb S' F' w') : RStep B F w rb S' F' w' :=
 ⟨h.at', (Only.of_below hb).trans h.only fun _ _ e => e, fun k e => (h.new k e).imp_right fun h => Nat.le_trans hb.size h⟩
theorem RStep.after {F' : Nat → Prop} (h : RStep B F w rb S' F' w1) (hb : Below w1.heap.size w1 w') : RStep B F w rb S' F' w' :=
 ⟨h.at'.later hb, h.only.trans (S' := fun _ => False) (Only.of_below hb) fun _ _ e => e.elim, h.new⟩
theorem RStep.trans {F' F2 : Nat → Prop} {S2 : Sm} (h : RStep B F w rb S' F' w1) (k : RStep B F' w1 rb S2 F2 w') : RStep B F w rb S2 F2 w' :=
 ⟨k.at', h.only.trans k.only fun i hi e => (h.new i e).resolve_right (by omega), fun i e => by
  rcases k.new i e with e2 | e2
  ·exact h.new i e2
  ·exact Or.inr (Nat.le_trans h.only.size e2)⟩
end
def rpv0 (p : Pm) : List Value := rpv p none 0 none 0
/-- While peers are made. -/
structure Mk (B : Nat) (w : World) (rb : Nat) (node epoch : Int) (k : Nat) (A : Option Addr) (c : Nat) : Prop where
 cel : Cells w rb 69 [.int .i64 node, .int .i64 epoch, .slice A k c]
 row : OwnG 66 4 rpv0 B w (.slice A k c) (List.replicate k freshP)
 low : B ≤ rb
 nA : ∀ g, blk A = some g → g ≠ rb
end Go.Proofs.Ytccdpgbmkiapdaa.Ses
namespace Go.Proofs.Ytccdpgbmkiapdaa.Ses
set_option maxRecDepth 100000
open Go.RowKit Go.Deep Go.Proofs.Ytccdpgbmkiapdaa.Mem Go.Proofs.Ytccdpgbmkiapdaa.Win
def sesRD1 (rb pb i n pc g : Nat) (x ep kn sq : Int) (py : ByteArray) : Nat → Value → World → Prop
 | 0, v, _ => v = .int .i64 x
 | 1, v, _ => v = .pointer (some ⟨rb, 0, none⟩)
 | 2, v, _ => v = .pointer (some ⟨rb, 0, none⟩)
 | 3, v, _ => v = .pointer (some ⟨rb, 1, none⟩)
 | 4, v, _ => v = .int .i64 ep
 | 5, v, _ => v = .pointer (some ⟨rb, 0, none⟩)
 | 6, v, _ => v = .pointer (some ⟨rb, 0, none⟩)
 | 7, v, _ => v = .pointer (some ⟨rb, 2, none⟩)
 | 8, v, _ => v = .slice (some ⟨pb, 0, none⟩) n pc
 | 9, v, _ => v = .int .i64 x
 | 10, v, _ => v = .int .i64 (i : Int)
 | 11, v, _ => v = .pointer (some ⟨pb, i * 4, none⟩)
 | 12, v, _ => v = .pointer (some ⟨pb, i * 4 + 1, none⟩)
 | 13, v, _ => v = .int .i64 kn
 | 14, v, _ => v = .pointer (some ⟨g, 0, none⟩)
 | 15, v, _ => v = .int .i64 sq
 | 16, v, _ => v = .pointer (some ⟨g, 1, none⟩)
 | 17, v, _ => v = .string py
 | 18, v, _ => v = .agg #[.int .i64 1, .int .i64 ep, .int .i64 kn, .int .i64 sq, .string py]
 | 19, v, _ => v = .agg #[.int .i64 x, .int .i64 1, .int .i64 ep, .int .i64 kn, .int .i64 sq, .string py]
 | 20, _, _ => True
 | _, _, _ => True
section
variable {B rb pb pc : Nat} {F T : Nat → Prop} {w w1 w' : World} {S S' : Sm} {As Ds : Nat → Option Addr} {cs ds : Nat → Nat}
end
end Go.Proofs.Ytccdpgbmkiapdaa.Ses
