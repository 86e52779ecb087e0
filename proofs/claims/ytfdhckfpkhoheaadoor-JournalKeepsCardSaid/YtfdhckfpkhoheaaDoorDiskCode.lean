/-
  What the code of layer 4 is to do, said ahead of its proof: a disk in memory (what it holds, which blocks it has), each call's answer, what it leaves and what it may turn. Conditions: none.
-/
import Derived.Test.YtfdhckfpkhoheaaDoorDiskMath
import Derived.Test.YtfdhckfpkhoheaaDoorJoined
namespace Go.Proofs.YtfdhckfpkhoheaaDoor.Disk
open Go.RowKit Go.Proofs.YtfdhckfpkhoheaaDoor.Mem

/-- A pointer to the disk in block g. -/
def at_ (g : Nat) : Value := .pointer (some ⟨g, 0, none⟩)
/-- What the code of layer 4 is to do (proved in DiskImpl, which alone hangs on its text). -/
structure Does where
  Dk : World → Nat → Nat → Option Nat → Ds → Prop
  own : ∀ {w base g r d}, Dk w base g r d → base ≤ g ∧ ∀ k, r = some k → base ≤ k
  lt : ∀ {w base g r d}, Dk w base g r d → g < w.heap.size ∧ ∀ k, r = some k → k < w.heap.size
  only : ∀ {S w w' base g r d}, Dk w base g r d → Only S w w' → ¬ S g → (∀ k, r = some k → ¬ S k) → Dk w' base g r d
  news : ∀ (n : Int) (w : World) (base : Nat), base ≤ w.heap.size → Calls Tryd.prog 6 #[.int .i64 n] w fun e w' =>
    (if n < 0 ∨ 1048576 < n then e = .returned (.tuple #[.pointer none, .int .i64 1]) else ∃ g r, e = .returned (.tuple #[at_ g, .int .i64 0]) ∧ Dk w' base g r (empty n.toNat) ∧ w.heap.size ≤ g ∧ ∀ k, r = some k → w.heap.size ≤ k) ∧ Below w.heap.size w w'
  append : ∀ {w base g r d} (A : Option Addr) (ss : List ByteArray) (c : Nat), Dk w base g r d → d.Ok → Strs w A ss → ss.length ≤ 1000 → (cat ss).length ≤ 100000000 → Cap A ss.length c →
    Calls Tryd.prog 21 #[at_ g, .slice A ss.length c] w fun e w' => e = .returned (.int .i64 (appendS d (cat ss)).1) ∧ ∃ r', Dk w' base g r' (appendS d (cat ss)).2 ∧ Turn w w' g r r'
  sync : ∀ {w base g r d}, Dk w base g r d → d.Ok → Calls Tryd.prog 22 #[at_ g] w fun e w' => e = .returned (.int .i64 (syncS d).1) ∧ ∃ r', Dk w' base g r' (syncS d).2 ∧ Turn w w' g r r'
  drop : ∀ {w base g r d} (n : Int), Dk w base g r d → d.Ok → Calls Tryd.prog 24 #[at_ g, .int .i64 n] w fun e w' => e = .returned (.int .i64 (dropS d n).1) ∧ ∃ r', Dk w' base g r' (dropS d n).2 ∧ Turn w w' g r r'
  cut : ∀ {w base g r d} (n : Int), Dk w base g r d → d.Ok → Calls Tryd.prog 17 #[at_ g, .int .i64 n] w fun e w' => e = .returned (.int .i64 (cutS d n).1) ∧ ∃ r', Dk w' base g r' (cutS d n).2 ∧ Turn w w' g r r'
  fuse : ∀ {w base g r d} (n : Int), Dk w base g r d → d.Ok → -9223372036854775808 ≤ n → n ≤ 9223372036854775807 → Calls Tryd.prog 10 #[at_ g, .int .i64 n] w fun e w' => e = .returned (.tuple #[]) ∧ ∃ r', Dk w' base g r' (fuseS d n) ∧ Turn w w' g r r'
  crash : ∀ {w base g r d} (n : Int), Dk w base g r d → d.Ok → -9223372036854775808 ≤ n → n ≤ 9223372036854775807 → Calls Tryd.prog 12 #[at_ g, .int .i64 n] w fun e w' => e = .returned (.tuple #[]) ∧ ∃ r', Dk w' base g r' (crashS d n) ∧ Turn w w' g r r'
  bytes : ∀ {w base g r d}, Dk w base g r d → d.Ok → Calls Tryd.prog 16 #[at_ g] w fun e w' => e = .returned (.string ⟨d.b.toArray⟩) ∧ w = w'
  size : ∀ {w base g r d}, Dk w base g r d → d.Ok → Calls Tryd.prog 32 #[at_ g] w fun e w' => e = .returned (.int .i64 (d.size : Int)) ∧ w = w'
  down : ∀ {w base g r d}, Dk w base g r d → d.Ok → Calls Tryd.prog 27 #[at_ g] w fun e w' => e = .returned (.bool d.down) ∧ w = w'
  noAppend : ∀ (v : Value) (w : World), Calls Tryd.prog 21 #[.pointer none, v] w fun e w' => e = .returned (.int .i64 7) ∧ w = w'
  noSync : ∀ (w : World), Calls Tryd.prog 22 #[.pointer none] w fun e w' => e = .returned (.int .i64 7) ∧ w = w'
  noDrop : ∀ (n : Int) (w : World), Calls Tryd.prog 24 #[.pointer none, .int .i64 n] w fun e w' => e = .returned (.int .i64 7) ∧ w = w'
  noCut : ∀ (n : Int) (w : World), Calls Tryd.prog 17 #[.pointer none, .int .i64 n] w fun e w' => e = .returned (.int .i64 7) ∧ w = w'
  noFuse : ∀ (n : Int) (w : World), Calls Tryd.prog 10 #[.pointer none, .int .i64 n] w fun e w' => e = .returned (.tuple #[]) ∧ w = w'
  noCrash : ∀ (n : Int) (w : World), Calls Tryd.prog 12 #[.pointer none, .int .i64 n] w fun e w' => e = .returned (.tuple #[]) ∧ w = w'
  noBytes : ∀ (w : World), Calls Tryd.prog 16 #[.pointer none] w fun e w' => e = .returned (.string ⟨#[]⟩) ∧ w = w'
  noSize : ∀ (w : World), Calls Tryd.prog 32 #[.pointer none] w fun e w' => e = .returned (.int .i64 0) ∧ w = w'
  noDown : ∀ (w : World), Calls Tryd.prog 27 #[.pointer none] w fun e w' => e = .returned (.bool true) ∧ w = w'

variable (C : Does)
theorem Does.later {w w' : World} {base g : Nat} {r : Option Nat} {d : Ds} (h : C.Dk w base g r d) (hb : Below w.heap.size w w') : C.Dk w' base g r d := C.only (S := fun _ => False) h (Only.of_below hb) (fun h => h) (fun _ _ h => h)
theorem Does.below {w w' : World} {base g : Nat} {r r' : Option Nat} {d : Ds} (h : C.Dk w base g r d) (ht : Turn w w' g r r') (hb : base ≤ w.heap.size) : Below base w w' := ht.low (C.own h).1 (C.own h).2 hb
theorem Does.base {w : World} {base g : Nat} {r : Option Nat} {d : Ds} (h : C.Dk w base g r d) : base ≤ w.heap.size := Nat.le_trans (C.own h).1 (Nat.le_of_lt (C.lt h).1)

/-- One disk of the call's own: what the law's world is, and the disk in it. -/
structure Has (w0 w : World) (g : Nat) (r : Option Nat) (d : Ds) : Prop where
  below : Below w0.heap.size w0 w
  disk : C.Dk w w0.heap.size g r d
  ok : d.Ok
theorem Has.later {C : Does} {w0 w w' : World} {g : Nat} {r : Option Nat} {d : Ds} (h : Has C w0 w g r d) (hb : Below w.heap.size w w') : Has C w0 w' g r d := ⟨h.below.trans (hb.mono h.below.size), C.later h.disk hb, h.ok⟩
theorem Has.next {C : Does} {w0 w w' : World} {g : Nat} {r r' : Option Nat} {d d' : Ds} (h : Has C w0 w g r d) (ht : Turn w w' g r r') (hd : C.Dk w' w0.heap.size g r' d') (ho : d'.Ok) : Has C w0 w' g r' d' := ⟨h.below.trans (C.below h.disk ht h.below.size), hd, ho⟩
end Go.Proofs.YtfdhckfpkhoheaaDoor.Disk
