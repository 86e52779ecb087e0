/-
  Layer 14, SessionOnce: the pair in memory: its box, both sessions, what is on its way, its maps; what stays when one of them turns.
  Conditions: none.
-/
import Derived.Test.YtccdpgbmkiapdaaL41
import Derived.Test.YtccdpgbmkiapdaaL42
namespace Go.Proofs.Ytccdpgbmkiapdaa.Ses
set_option maxRecDepth 100000
open Go.RowKit Go.Deep Go.Proofs.Ytccdpgbmkiapdaa.Mem Go.Proofs.Ytccdpgbmkiapdaa.Win
/-- What the pair's box has. -/
abbrev boxP (P : Pr) (s0 s1 : Nat) (V : Option Addr) (vc mf mt : Nat) : List Value :=
 [.pointer (some ⟨s0, 0, none⟩), .pointer (some ⟨s1, 0, none⟩), .int .i64 (P.s 0).epoch, .int .i64 (P.s 1).epoch, .slice V P.way.length vc, .int .i64 (P.sent : Int), .map (some mf), .map (some mt)]
def FromR (P : Pr) (k v : Value) : Prop := ∃ r ∈ P.log, k = .string r.pay ∧ v = .int .i64 (r.side : Int)
def TookR (P : Pr) (k v : Value) : Prop := v = .int .i64 1 ∧ ∃ q ∈ P.took, k = .string (q.1 ++ nameB q.2.toNat)
structure PrAt (B : Nat) (w : World) (pb : Nat) (P : Pr) (s0 s1 : Nat) (F0 F1 : Nat → Prop) (V : Option Addr) (vc mf mt m : Nat) : Prop where
 way : WyAt B w pb (boxP P s0 s1 V vc mf mt) P.way V vc
 a0 : SAt B F0 w s0 (P.s 0)
 a1 : SAt B F1 w s1 (P.s 1)
 src : KM Try.prog 9 w mf m (FromR P)
 took : KM Try.prog 9 w mt m (TookR P)
 d01 : ∀ k, F0 k → ¬ F1 k
 d0 : ∀ k, F0 k → k ≠ pb ∧ k ≠ mf ∧ k ≠ mt ∧ blk V ≠ some k
 d1 : ∀ k, F1 k → k ≠ pb ∧ k ≠ mf ∧ k ≠ mt ∧ blk V ≠ some k
 dm : mf ≠ mt ∧ mf ≠ pb ∧ mt ≠ pb
 dv : blk V ≠ some mf ∧ blk V ≠ some mt
 low : B ≤ pb ∧ B ≤ mf ∧ B ≤ mt
section
variable {B pb s0 s1 vc mf mt m : Nat} {w w' : World} {P : Pr} {F0 F1 : Nat → Prop} {V : Option Addr}
theorem PrAt.later (h : PrAt B w pb P s0 s1 F0 F1 V vc mf mt m) (hb : Below w.heap.size w w') : PrAt B w' pb P s0 s1 F0 F1 V vc mf mt m :=
 ⟨h.way.later hb, h.a0.later hb, h.a1.later hb, h.src.later hb, h.took.later hb, h.d01, h.d0, h.d1, h.dm, h.dv, h.low⟩
/-- What is on its way turns. -/
theorem PrAt.wayTurn (h : PrAt B w pb P s0 s1 F0 F1 V vc mf mt m) {l : List Wy} (hs : WyStep B w pb (boxP P s0 s1 V vc mf mt) V l w') : ∃ V' vc', PrAt B w' pb { P with way := l } s0 s1 F0 F1 V' vc' mf mt m ∧ Only (fun k => k = pb ∨ blk V = some k) w w' ∧ ∀ k, blk V' = some k → blk V = some k ∨ w.heap.size ≤ k := by
 obtain ⟨V', vc', h1, h2, h3⟩ := hs
 have hnew : ∀ k, k < w.heap.size → blk V ≠ some k → blk V' ≠ some k := fun k hk hn e => by
  rcases h3 k e with e2 | e2
  ·exact hn e2
  ·omega
 refine ⟨V', vc', ⟨h1, SAt.only h.a0 h2 fun k hk e => ?_, SAt.only h.a1 h2 fun k hk e => ?_, h.src.only h2 fun e => ?_, h.took.only h2 fun e => ?_, h.d01, fun k hk => ?_, fun k hk => ?_, h.dm, ⟨hnew _ h.src.lt h.dv.1, hnew _ h.took.lt h.dv.2⟩, h.low⟩, h2, h3⟩
 ·exact e.elim (h.d0 k hk).1 (h.d0 k hk).2.2.2
 ·exact e.elim (h.d1 k hk).1 (h.d1 k hk).2.2.2
 ·exact e.elim h.dm.2.1 h.dv.1
 ·exact e.elim h.dm.2.2 h.dv.2
 ·exact ⟨(h.d0 k hk).1, (h.d0 k hk).2.1, (h.d0 k hk).2.2.1, hnew k (SAt.lt h.a0 k hk) (h.d0 k hk).2.2.2⟩
 ·exact ⟨(h.d1 k hk).1, (h.d1 k hk).2.1, (h.d1 k hk).2.2.1, hnew k (SAt.lt h.a1 k hk) (h.d1 k hk).2.2.2⟩
/-- The session of side 0 turns. -/
theorem PrAt.turn0 (h : PrAt B w pb P s0 s1 F0 F1 V vc mf mt m) {S' : Sm} {F' : Nat → Prop} (hs : SStep B F0 w s0 S' F' w') (he : S'.epoch = (P.s 0).epoch) :
  PrAt B w' pb { P with s := setS P.s 0 S' } s0 s1 F' F1 V vc mf mt m := by
 have hlt : pb < w.heap.size := h.way.box.lt
 have hV : ∀ k, blk V = some k → k < w.heap.size := fun k e => (World.ownsRow.lt h.way.row k (by rw [own_blk]; exact e)).2
 have hbx : boxP { P with s := setS P.s 0 S' } s0 s1 V vc mf mt = boxP P s0 s1 V vc mf mt := by
  show [_, _, Value.int .i64 (setS P.s 0 S' 0).epoch, Value.int .i64 (setS P.s 0 S' 1).epoch, _, _, _, _] = _
  rw [setS_same, setS_other (by decide), he]
 have hnew : ∀ k, F' k → ∀ j, j < w.heap.size → ¬ F0 j → k ≠ j := fun k hk j hj hn e => by
  rcases hs.new k hk with e2 | e2
  ·exact hn (e ▸ e2)
  ·omega
 refine ⟨?_, ?_, ?_, h.src.only hs.only fun e => (h.d0 _ e).2.1 rfl, h.took.only hs.only fun e => (h.d0 _ e).2.2.1 rfl, ?_, ?_, ?_, h.dm, h.dv, h.low⟩
 ·show WyAt B w' pb (boxP { P with s := setS P.s 0 S' } s0 s1 V vc mf mt) P.way V vc
  rw [hbx]
  exact ⟨cells_only h.way.box hs.only fun e => (h.d0 _ e).1 rfl, h.way.at4, row_only h.way.row hs.only (fun k e => by
   rw [own_blk] at e
   exact fun e2 => (h.d0 k e2).2.2.2 e), h.way.nA⟩
 ·show SAt B F' w' s0 (setS P.s 0 S' 0)
  rw [setS_same]
  exact hs.at'
 ·show SAt B F1 w' s1 (setS P.s 0 S' 1)
  rw [setS_other (by decide)]
  exact SAt.only h.a1 hs.only fun k hk e => h.d01 k e hk
 ·exact fun k hk h1 => hnew k hk k (SAt.lt h.a1 k h1) (fun e => h.d01 k e h1) rfl
 ·exact fun k hk => ⟨hnew k hk pb hlt fun e => (h.d0 _ e).1 rfl, hnew k hk mf h.src.lt fun e => (h.d0 _ e).2.1 rfl, hnew k hk mt h.took.lt fun e => (h.d0 _ e).2.2.1 rfl, fun e => hnew k hk k (hV k e) (fun e2 => (h.d0 k e2).2.2.2 e) rfl⟩
 ·exact h.d1
/-- The session of side 1 turns. -/
theorem PrAt.turn1 (h : PrAt B w pb P s0 s1 F0 F1 V vc mf mt m) {S' : Sm} {F' : Nat → Prop} (hs : SStep B F1 w s1 S' F' w') (he : S'.epoch = (P.s 1).epoch) :
  PrAt B w' pb { P with s := setS P.s 1 S' } s0 s1 F0 F' V vc mf mt m := by
 have hlt : pb < w.heap.size := h.way.box.lt
 have hV : ∀ k, blk V = some k → k < w.heap.size := fun k e => (World.ownsRow.lt h.way.row k (by rw [own_blk]; exact e)).2
 have hbx : boxP { P with s := setS P.s 1 S' } s0 s1 V vc mf mt = boxP P s0 s1 V vc mf mt := by
  show [_, _, Value.int .i64 (setS P.s 1 S' 0).epoch, Value.int .i64 (setS P.s 1 S' 1).epoch, _, _, _, _] = _
  rw [setS_same, setS_other (by decide), he]
 have hnew : ∀ k, F' k → ∀ j, j < w.heap.size → ¬ F1 j → k ≠ j := fun k hk j hj hn e => by
  rcases hs.new k hk with e2 | e2
  ·exact hn (e ▸ e2)
  ·omega
 refine ⟨?_, ?_, ?_, h.src.only hs.only fun e => (h.d1 _ e).2.1 rfl, h.took.only hs.only fun e => (h.d1 _ e).2.2.1 rfl, ?_, ?_, ?_, h.dm, h.dv, h.low⟩
 ·show WyAt B w' pb (boxP { P with s := setS P.s 1 S' } s0 s1 V vc mf mt) P.way V vc
  rw [hbx]
  exact ⟨cells_only h.way.box hs.only fun e => (h.d1 _ e).1 rfl, h.way.at4, row_only h.way.row hs.only (fun k e => by
   rw [own_blk] at e
   exact fun e2 => (h.d1 k e2).2.2.2 e), h.way.nA⟩
 ·show SAt B F0 w' s0 (setS P.s 1 S' 0)
  rw [setS_other (by decide)]
  exact SAt.only h.a0 hs.only fun k hk e => h.d01 k hk e
 ·show SAt B F' w' s1 (setS P.s 1 S' 1)
  rw [setS_same]
  exact hs.at'
 ·exact fun k h0 hk => hnew k hk k (SAt.lt h.a0 k h0) (fun e => h.d01 k h0 e) rfl
 ·exact h.d0
 ·exact fun k hk => ⟨hnew k hk pb hlt fun e => (h.d1 _ e).1 rfl, hnew k hk mf h.src.lt fun e => (h.d1 _ e).2.1 rfl, hnew k hk mt h.took.lt fun e => (h.d1 _ e).2.2.1 rfl, fun e => hnew k hk k (hV k e) (fun e2 => (h.d1 k e2).2.2.2 e) rfl⟩
end
/-- The pair as meet leaves it. -/
theorem PrAt.meet {B pb s0 s1 mf mt : Nat} {w : World} {F0 F1 : Nat → Prop} (h0 : SAt B F0 w s0 (newS 1 2 1)) (h1 : SAt B F1 w s1 (newS 2 2 1)) (hd : ∀ k, F0 k → ¬ F1 k) (hd0 : ∀ k, F0 k → k ≠ pb ∧ k ≠ mf ∧ k ≠ mt) (hd1 : ∀ k, F1 k → k ≠ pb ∧ k ≠ mf ∧ k ≠ mt)
  (hc : Cells w pb 86 [.pointer (some ⟨s0, 0, none⟩), .pointer (some ⟨s1, 0, none⟩), .int .i64 1, .int .i64 1, .slice none 0 0, .int .i64 0, .map (some mf), .map (some mt)])
  (hf : KM Try.prog 9 w mf 0 (fun _ _ => False)) (ht : KM Try.prog 9 w mt 0 (fun _ _ => False)) (hm : mf ≠ mt ∧ mf ≠ pb ∧ mt ≠ pb) (hl : B ≤ pb ∧ B ≤ mf ∧ B ≤ mt) :
  PrAt B w pb meetS s0 s1 F0 F1 none 0 mf mt 0 :=
 ⟨⟨hc, rfl, OwnG.nil _ _ _ _ _, fun k e => (by cases e)⟩, h0, h1, hf.congr (fun _ _ => ⟨fun e => e.elim, fun ⟨_, hr, _⟩ => absurd hr List.not_mem_nil⟩) (Nat.le_refl _), ht.congr (fun _ _ => ⟨fun e => e.elim, fun ⟨_, _, hr, _⟩ => absurd hr List.not_mem_nil⟩) (Nat.le_refl _), hd,
  fun k hk => ⟨(hd0 k hk).1, (hd0 k hk).2.1, (hd0 k hk).2.2, fun e => (by cases e)⟩, fun k hk => ⟨(hd1 k hk).1, (hd1 k hk).2.1, (hd1 k hk).2.2, fun e => (by cases e)⟩, hm, ⟨fun e => (by cases e), fun e => (by cases e)⟩, hl⟩
end Go.Proofs.Ytccdpgbmkiapdaa.Ses
