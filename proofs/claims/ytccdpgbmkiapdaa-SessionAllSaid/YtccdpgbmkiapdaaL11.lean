/-
  Layer 14: payloads that are held, envelopes, what is known of a peer, a session: the model, and where it lies.
  Conditions: none.
-/
import Derived.Test.YtccdpgbmkiapdaaL10
namespace Go.Proofs.Ytccdpgbmkiapdaa.Ses
set_option maxRecDepth 100000
open Go.RowKit Go.Deep Go.Proofs.Ytccdpgbmkiapdaa.Mem Go.Proofs.Ytccdpgbmkiapdaa.Win
/-- A payload that is held. -/
structure Hd where
 seq : Int
 pay : ByteArray
 delay : Int
 left : Int
def Hd.vals (h : Hd) : List Value := [.int .i64 h.seq, .string h.pay, .int .i64 h.delay, .int .i64 h.left]
/-- An envelope. -/
structure Ev where
 kind : Int
 epoch : Int
 peer : Int
 seq : Int
 pay : ByteArray
def Ev.vals (e : Ev) : List Value := [.int .i64 e.kind, .int .i64 e.epoch, .int .i64 e.peer, .int .i64 e.seq, .string e.pay]
abbrev Ev.val (e : Ev) : Value := .agg #[.int .i64 e.kind, .int .i64 e.epoch, .int .i64 e.peer, .int .i64 e.seq, .string e.pay]
/-- An envelope that goes out. -/
structure Ot where
 dst : Int
 e : Ev
def Ot.vals (o : Ot) : List Value := [.int .i64 o.dst, .int .i64 o.e.kind, .int .i64 o.e.epoch, .int .i64 o.e.peer, .int .i64 o.e.seq, .string o.e.pay]
theorem fit_hd (l : List Hd) : Fit 4 (l.map Hd.vals) := ⟨fun v hv => by obtain ⟨x, _, rfl⟩ := List.mem_map.1 hv; rfl, fun v hv u hu => by
 obtain ⟨x, _, rfl⟩ := List.mem_map.1 hv
 unfold Hd.vals at hu
 simp only [List.mem_cons, List.not_mem_nil, or_false] at hu
 rcases hu with rfl | rfl | rfl | rfl <;> rfl⟩
theorem fit_ot (l : List Ot) : Fit 6 (l.map Ot.vals) := ⟨fun v hv => by obtain ⟨x, _, rfl⟩ := List.mem_map.1 hv; rfl, fun v hv u hu => by
 obtain ⟨x, _, rfl⟩ := List.mem_map.1 hv
 unfold Ot.vals at hu
 simp only [List.mem_cons, List.not_mem_nil, or_false] at hu
 rcases hu with rfl | rfl | rfl | rfl | rfl | rfl <;> rfl⟩
/-- What is known of a peer. -/
structure Pm where
 L : List Int
 known : Int
 last : Int
 held : List Hd
/-- A session. -/
structure Sm where
 node : Int
 epoch : Int
 peers : List Pm
/-- A held payload as it may be. -/
structure Hok (N : Int) (h : Hd) : Prop where
 s0 : 1 ≤ h.seq
 s1 : h.seq ≤ N
 d0 : 1 ≤ h.delay
 d1 : h.delay ≤ 16
 l0 : 1 ≤ h.left
 l1 : h.left ≤ 16
 p1 : h.pay.size ≤ 4032
/-- A peer as it may be: N bounds its numbers. -/
structure Pok (N : Int) (p : Pm) : Prop where
 win : Wok p.L
 k0 : 0 ≤ p.known
 k1 : p.known ≤ 1099511627776
 l0 : 0 ≤ p.last
 l1 : p.last ≤ N
 len : p.held.length ≤ 32
 held : ∀ h ∈ p.held, Hok N h
/-- A session as it may be. -/
structure Sok (N : Int) (S : Sm) : Prop where
 n0 : 1 ≤ S.node
 n1 : S.node ≤ S.peers.length
 n2 : S.peers.length ≤ 16
 e0 : 1 ≤ S.epoch
 e1 : S.epoch ≤ 1099511627776
 peers : ∀ p ∈ S.peers, Pok N p
/-- Is it another node? -/
def other (S : Sm) (x : Int) : Bool := decide (x ≠ S.node ∧ 1 ≤ x ∧ x ≤ S.peers.length)
def rightE (e : Ev) : Bool := decide (1 ≤ e.epoch ∧ e.epoch ≤ 1099511627776 ∧ 0 ≤ e.peer ∧ e.peer ≤ 1099511627776 ∧
 (e.kind = 1 ∧ 1 ≤ e.seq ∧ e.seq ≤ 1099511627776 ∧ e.pay.size ≤ 4032 ∨ e.kind = 2 ∧ 0 ≤ e.seq ∧ e.seq ≤ 1099511627776 ∧ e.pay.size = 0))
/-- Can so many more be held? -/
def roomP (p : Pm) (many : Nat) : Bool := decide (p.held.length + many ≤ 32 ∧ ∀ h, p.held[0]? = some h → p.last + many < h.seq + 64)
def newHd (last : Int) : List ByteArray → List Hd
 | [] => []
 | s :: r => ⟨last + 1, s, 4, 4⟩ :: newHd (last + 1) r
theorem newHd_len (l : List ByteArray) : ∀ last, (newHd last l).length = l.length := by
 induction l with
 | nil => intro _; rfl
 | cons s r ih => intro last; show (newHd (last + 1) r).length + 1 = _; rw [ih]; rfl
theorem newHd_snoc (l : List ByteArray) (s : ByteArray) : ∀ last : Int, newHd last (l ++ [s]) = newHd last l ++ [⟨last + l.length + 1, s, 4, 4⟩] := by
 induction l with
 | nil => intro last; simp [newHd]
 | cons a r ih =>
  intro last
  show _ :: newHd (last + 1) (r ++ [s]) = _ :: (newHd (last + 1) r ++ _)
  rw [ih]
  simp only [List.length_cons]
  congr 4
  omega
theorem newHd_mem {l : List ByteArray} : ∀ {last : Int} {h : Hd}, h ∈ newHd last l → last + 1 ≤ h.seq ∧ h.seq ≤ last + l.length ∧ h.delay = 4 ∧ h.left = 4 ∧ h.pay ∈ l := by
 induction l with
 | nil => intro last h hh; cases hh
 | cons a r ih =>
  intro last h hh
  rcases List.mem_cons.1 hh with rfl | hh
  ·refine ⟨Int.le_refl _, ?_, rfl, rfl, by simp⟩
   rw [List.length_cons]
   show last + 1 ≤ _
   omega
  ·obtain ⟨h1, h2, h3, h4, h5⟩ := ih hh
   refine ⟨by omega, ?_, h3, h4, by simp [h5]⟩
   rw [List.length_cons]
   omega
def holdP (p : Pm) (l : List ByteArray) : Pm := ⟨p.L, p.known, p.last + l.length, p.held ++ newHd p.last l⟩
def beginH (h : Hd) : Hd := ⟨h.seq, h.pay, 4, 4⟩
/-- A new incarnation is met: was an elder one known? -/
def meetP (p : Pm) (e : Int) : Bool × Pm := if p.known = 0 then (false, ⟨[], e, p.last, p.held⟩) else (true, ⟨[], e, p.last, p.held.map beginH⟩)
def goP (p : Pm) (q : Int) : Pm := ⟨p.L, p.known, p.last, p.held.filter fun h => !decide (h.seq = q)⟩
/-- A tick goes by for a payload: is it to go out? -/
def tickH (h : Hd) : Bool × Hd := if 1 < h.left then (false, ⟨h.seq, h.pay, h.delay, h.left - 1⟩) else (true, ⟨h.seq, h.pay, min (2 * h.delay) 16, min (2 * h.delay) 16⟩)
def dueL (l : List Hd) : List Hd := (l.filter fun h => (tickH h).1).map fun h => (tickH h).2
def tickP (p : Pm) : List Hd × Pm := (dueL p.held, ⟨p.L, p.known, p.last, p.held.map fun h => (tickH h).2⟩)
def outH (dst epoch known : Int) (h : Hd) : Ot := ⟨dst, 1, epoch, known, h.seq, h.pay⟩
def dataL (dst epoch known : Int) (l : List Hd) : List Ot := l.map (outH dst epoch known)
/-- What lies of a peer at place o of block pb. -/
structure PAt (B : Nat) (w : World) (pb o : Nat) (p : Pm) (A : Option Addr) (ac : Nat) : Prop where
 win : WinAt w pb o p.L
 cel : CellsO w pb (o + 2) [.int .i64 p.known, .int .i64 p.last, .slice A p.held.length ac]
 row : OwnG 144 4 Hd.vals B w (.slice A p.held.length ac) p.held
 nA : ∀ k, blk A = some k → k ≠ pb
section
variable {B pb o ac ac' : Nat} {w w1 w' : World} {p p' : Pm} {A A' : Option Addr}
theorem PAt.only {S : Nat → Prop} (h : PAt B w pb o p A ac) (ho : Only S w w') (h1 : ¬ S pb) (h2 : ∀ k, blk A = some k → ¬ S k) : PAt B w' pb o p A ac :=
 ⟨h.win.only ho h1, h.cel.only ho h1, row_only h.row ho fun k e => h2 k (by rw [own_blk] at e; exact e), h.nA⟩
theorem PAt.later (h : PAt B w pb o p A ac) (hb : Below w.heap.size w w') : PAt B w' pb o p A ac := h.only (Only.of_below (S := fun _ => False) hb) (fun e => e) fun _ _ e => e
/-- What lies in another place of the block is turned, and what is no block of it. -/
theorem PAt.beside {S : Nat → Prop} {o' : Nat} (h : PAt B w pb o p A ac) (ho : Only S w w') (hk : Keeps pb o' 5 w w') (h1 : o + 5 ≤ o' ∨ o' + 5 ≤ o) (h2 : ∀ k, blk A = some k → ¬ S k) : PAt B w' pb o p A ac := by
 obtain ⟨s, hs, hb⟩ := h.win
 exact ⟨⟨s, hk _ _ (by simp only [List.length_cons, List.length_nil]; omega) hs, hb⟩, hk _ _ (by simp only [List.length_cons, List.length_nil]; omega) h.cel, row_only h.row ho fun k e => h2 k (by rw [own_blk] at e; exact e), h.nA⟩
/-- What a call does to a peer. -/
structure PStep (B pb o : Nat) (A : Option Addr) (w : World) (p' : Pm) (A' : Option Addr) (ac' : Nat) (w' : World) : Prop where
 at' : PAt B w' pb o p' A' ac'
 only : Only (fun k => k = pb ∨ some k = blk A) w w'
 keeps : Keeps pb o 5 w w'
 new : ∀ k, blk A' = some k → some k = blk A ∨ w.heap.size ≤ k
theorem PStep.same (h : PAt B w pb o p A ac) (hb : Below w.heap.size w w') : PStep B pb o A w p A ac w' := ⟨h.later hb, Only.of_below hb, fun _ _ _ x => x.later hb, fun _ e => Or.inl e.symm⟩
theorem PStep.before (hb : Below w.heap.size w w1) (h : PStep B pb o A w1 p' A' ac' w') : PStep B pb o A w p' A' ac' w' :=
 ⟨h.at', (Only.of_below hb).trans h.only fun _ _ e => e, fun o' vs e x => h.keeps o' vs e (x.later hb), fun k e => (h.new k e).imp_right fun h => Nat.le_trans hb.size h⟩
theorem PStep.after (h : PStep B pb o A w p' A' ac' w1) (hb : Below w1.heap.size w1 w') : PStep B pb o A w p' A' ac' w' :=
 ⟨h.at'.later hb, h.only.trans (S' := fun _ => False) (Only.of_below hb) fun _ _ e => e.elim, fun o' vs e x => (h.keeps o' vs e x).later hb, h.new⟩
theorem PStep.trans {A2 : Option Addr} {ac2 : Nat} {p2 : Pm} (h : PStep B pb o A w p' A' ac' w1) (k : PStep B pb o A' w1 p2 A2 ac2 w') : PStep B pb o A w p2 A2 ac2 w' := by
 refine ⟨k.at', h.only.trans k.only fun i hi e => ?_, h.keeps.trans k.keeps, fun i e => ?_⟩
 ·rcases e with e | e
  ·exact Or.inl e
  ·rcases h.new i e.symm with e2 | e2
   ·exact Or.inr e2
   ·omega
 ·rcases k.new i e with e2 | e2
  ·exact h.new i e2.symm
  ·exact Or.inr (Nat.le_trans h.only.size e2)
/-- Its window has turned. -/
theorem PAt.winTurn (h : PAt B w pb o p A ac) {L : List Int} (hw : WinAt w' pb o L) (hu : Upd pb o 2 w w') : PStep B pb o A w ⟨L, p.known, p.last, p.held⟩ A ac w' :=
 ⟨⟨hw, hu.keeps _ _ (Or.inr (Nat.le_refl _)) h.cel, row_only h.row hu.only fun k e e2 => h.nA k (by rw [own_blk] at e; exact e) e2, h.nA⟩, hu.only.mono fun k _ e => Or.inl e, hu.keeps.wide (Nat.le_refl _) (by omega), fun _ e => Or.inl e.symm⟩
theorem PAt.setO (h : PAt B w pb o p A ac) {j : Nat} (hj : j < 3) (u : Value) : WinAt (w.setCell ⟨pb, o + 2 + j, none⟩ u) pb o p.L ∧ Only (fun k => k = pb ∨ some k = blk A) w (w.setCell ⟨pb, o + 2 + j, none⟩ u) ∧ Keeps pb o 5 w (w.setCell ⟨pb, o + 2 + j, none⟩ u) := by
 obtain ⟨s, hs, hb⟩ := h.win
 refine ⟨⟨s, hs.aside (by simp only [List.length_cons, List.length_nil]; omega) u, hb⟩, (Only.of_set w ⟨pb, o + 2 + j, none⟩ u).mono fun k _ e => Or.inl e, ?_⟩
 have := Keeps.set w pb o 5 (j := 2 + j) (by omega) u
 rwa [← Nat.add_assoc] at this
theorem PAt.setKnown (h : PAt B w pb o p A ac) (x : Int) : PStep B pb o A w ⟨p.L, x, p.last, p.held⟩ A ac (w.setCell ⟨pb, o + 2, none⟩ (.int .i64 x)) := by
 obtain ⟨h1, h2, h3⟩ := h.setO (j := 0) (by decide) (.int .i64 x)
 exact ⟨⟨h1, h.cel.set_ 0 _, row_only h.row (Only.of_set w ⟨pb, o + 2, none⟩ _) fun k e e2 => h.nA k (by rw [own_blk] at e; exact e) e2, h.nA⟩, h2, h3, fun _ e => Or.inl e.symm⟩
theorem PAt.setLast (h : PAt B w pb o p A ac) (x : Int) : PStep B pb o A w ⟨p.L, p.known, x, p.held⟩ A ac (w.setCell ⟨pb, o + 3, none⟩ (.int .i64 x)) := by
 obtain ⟨h1, h2, h3⟩ := h.setO (j := 1) (by decide) (.int .i64 x)
 exact ⟨⟨h1, h.cel.set_ 1 _, row_only h.row (Only.of_set w ⟨pb, o + 3, none⟩ _) fun k e e2 => h.nA k (by rw [own_blk] at e; exact e) e2, h.nA⟩, h2, h3, fun _ e => Or.inl e.symm⟩
/-- A new row of what is held is put in: it was made ahead of that. -/
theorem PAt.setHeld (h : PAt B w pb o p A ac) {l : List Hd} {A2 : Option Addr} {c2 : Nat} (ho : Only (fun k => some k = blk A) w w1) (hr : OwnG 144 4 Hd.vals B w1 (.slice A2 l.length c2) l) (hg : ∀ k, blk A2 = some k → some k = blk A ∨ w.heap.size ≤ k) :
  PStep B pb o A w ⟨p.L, p.known, p.last, l⟩ A2 c2 (w1.setCell ⟨pb, o + 4, none⟩ (.slice A2 l.length c2)) := by
 have hn : ¬ some pb = blk A := fun e => h.nA pb e.symm rfl
 obtain ⟨s, hs, hb⟩ := h.win
 have hpl := hs.lt
 have hs1 := hs.only ho hn
 have hc1 := h.cel.only ho hn
 have hne : ∀ k, blk A2 = some k → k ≠ pb := fun k e e2 => by
  rcases hg k e with e3 | e3
  ·exact hn (by rw [← e2]; exact e3)
  ·omega
 refine ⟨⟨⟨s, hs1.aside (by simp only [List.length_cons, List.length_nil]; omega) _, hb⟩, hc1.set_ 2 _, row_only hr (Only.of_set w1 ⟨pb, o + 4, none⟩ _) fun k e e2 => hne k (by rw [own_blk] at e; exact e) e2, hne⟩, (ho.mono fun k _ e => Or.inr e).trans ((Only.of_set w1 ⟨pb, o + 4, none⟩ _).mono (S' := fun k => k = pb ∨ some k = blk A) fun k _ e => Or.inl e) fun _ _ e => e, ?_, hg⟩
 exact (Keeps.off ho hn).trans (Keeps.set w1 pb o 5 (j := 4) (by decide) _)
end
end Go.Proofs.Ytccdpgbmkiapdaa.Ses
