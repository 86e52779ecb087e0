/-
  Layer 14, SessionOnce: what do turns in the pair: how many were sent, who sent what, a new session.
  Conditions: none.
-/
import Derived.Test.YtccdpgbmkiapdaaL47
import Derived.Laws.BitsLemmas
namespace Go.Proofs.Ytccdpgbmkiapdaa.Ses
set_option maxRecDepth 100000
open Go.ChangeShapes Go.WideShapes Go.ChangeAt Go.RowKit Go.Deep Go.Proofs.Ytccdpgbmkiapdaa.Mem Go.Proofs.Ytccdpgbmkiapdaa.Win Go.ChangeMaps Go.MapKept
theorem i64_and1 (n : Int) : bits .and .i64 n 1 = n % 2 := by
 have h1 : (BitVec.ofInt 64 1).toNat = 2 ^ 1 - 1 := by decide
 have key : (BitVec.ofInt 64 n &&& BitVec.ofInt 64 1).toNat = (n % ((2 ^ 64 : Nat) : Int)).toNat % 2 ^ 1 := by
  rw [BitVec.toNat_and, BitVec.toNat_ofInt, h1, Nat.and_two_pow_sub_one_eq_mod]
 show IntKind.i64.wrap ((BitVec.ofInt 64 n &&& BitVec.ofInt 64 1).toNat : Nat) = n % 2
 rw [key, IntKind.wrap_i64]
 omega
section
variable {B pb s0 s1 vc mf mt m : Nat} {w w' : World} {P : Pr} {F0 F1 : Nat → Prop} {V : Option Addr}
/-- The box turns in what is neither a session nor the way. -/
theorem PrAt.boxTurn (h : PrAt B w pb P s0 s1 F0 F1 V vc mf mt m) (ho : Only (fun k => k = pb) w w') {n : Nat} (hc : Cells w' pb 86 (boxP { P with sent := n } s0 s1 V vc mf mt)) : PrAt B w' pb { P with sent := n } s0 s1 F0 F1 V vc mf mt m :=
 ⟨⟨hc, rfl, row_only h.way.row ho (fun k e e2 => by
   rw [own_blk] at e
   exact h.way.nA k e e2), h.way.nA⟩, SAt.only h.a0 ho fun k hk e => (h.d0 k hk).1 e, SAt.only h.a1 ho fun k hk e => (h.d1 k hk).1 e, h.src.only ho fun e => h.dm.2.1 e, h.took.only ho fun e => h.dm.2.2 e, h.d01, h.d0, h.d1, h.dm, h.dv, h.low⟩
/-- It is written down who sent a payload. -/
theorem PrAt.fromPut (h : PrAt B w pb P s0 s1 F0 F1 V vc mf mt m) (r : Sn) (hz : r.pay.size ≤ 1000) (hn : ∀ q ∈ P.log, q.pay ≠ r.pay) :
  ∃ w', (Instr.mapUpdate 84 (.map (some mf)) (.string r.pay) (.int .i64 (r.side : Int))).run Try.prog w = .ok () w' ∧ PrAt B w' pb { P with log := r :: P.log } s0 s1 F0 F1 V vc mf mt (m + 1) ∧ Below B w w' ∧ Only (fun k => k = mf) w w' := by
 obtain ⟨w', e1, e2, e3⟩ := h.src.store str_keyed Try.underlying84 (val := .int .i64 (r.side : Int)) (str_key hz)
 have hT : KM Try.prog 9 w' mf (m + 1) (FromR { P with log := r :: P.log }) := e2.congr (fun k v => by
  constructor
  ·rintro (⟨rfl, rfl⟩ | ⟨_, q, hq, e4, e5⟩)
   ·exact ⟨r, List.mem_cons_self, rfl, rfl⟩
   ·exact ⟨q, List.mem_cons_of_mem _ hq, e4, e5⟩
  ·rintro ⟨q, hq, rfl, rfl⟩
   rcases List.mem_cons.1 hq with rfl | hq
   ·exact Or.inl ⟨rfl, rfl⟩
   ·refine Or.inr ⟨fun e => ?_, q, hq, rfl, rfl⟩
    injection e with e
    exact hn q hq e) (Nat.le_refl _)
 exact ⟨w', e1, ⟨⟨cells_only h.way.box e3 fun e => h.dm.2.1 e.symm, h.way.at4, row_only h.way.row e3 (fun k e e9 => by
   rw [own_blk] at e
   exact h.dv.1 (by rw [e, e9])), h.way.nA⟩, SAt.only h.a0 e3 fun k hk e => (h.d0 k hk).2.1 e, SAt.only h.a1 e3 fun k hk e => (h.d1 k hk).2.1 e, hT, (h.took.only e3 fun e => h.dm.1 e.symm).congr (fun _ _ => Iff.rfl) (Nat.le_succ _), h.d01, h.d0, h.d1, h.dm, h.dv, h.low⟩, e3.below h.size fun k e => by rw [e]; exact h.low.2.1, e3⟩
/-- A side begins anew. -/
theorem PrAt.anew0 (h : PrAt B w pb P s0 s1 F0 F1 V vc mf mt m) {sb : Nat} {F : Nat → Prop} (hs : SAt w.heap.size F w' sb (newS 1 2 ((P.s 0).epoch + 1)))
  (hc : Cells w' pb 86 [.pointer (some ⟨sb, 0, none⟩), .pointer (some ⟨s1, 0, none⟩), .int .i64 ((P.s 0).epoch + 1), .int .i64 (P.s 1).epoch, .slice V P.way.length vc, .int .i64 (P.sent : Int), .map (some mf), .map (some mt)]) (ho : Only (fun k => k = pb) w w') :
  PrAt B w' pb (anewP P 0) sb s1 F F1 V vc mf mt m := by
 have hF := SAt.low hs
 have hpb := h.way.box.lt
 refine ⟨⟨hc, rfl, row_only h.way.row ho (fun k e e2 => by
   rw [own_blk] at e
   exact h.way.nA k e e2), h.way.nA⟩, SAt.up h.size hs, SAt.only h.a1 ho fun k hk e => (h.d1 k hk).1 e, h.src.only ho fun e => h.dm.2.1 e, h.took.only ho fun e => h.dm.2.2 e, fun k hk e => ?_, fun k hk => ?_, h.d1, h.dm, h.dv, h.low⟩
 ·have h1 := hF k hk
  have h2 := SAt.lt h.a1 k e
  omega
 ·have h1 := hF k hk
  have h2 := h.src.lt
  have h3 := h.took.lt
  refine ⟨by omega, by omega, by omega, fun e => ?_⟩
  have := (h.vlow k e).2
  omega
theorem PrAt.anew1 (h : PrAt B w pb P s0 s1 F0 F1 V vc mf mt m) {sb : Nat} {F : Nat → Prop} (hs : SAt w.heap.size F w' sb (newS 2 2 ((P.s 1).epoch + 1)))
  (hc : Cells w' pb 86 [.pointer (some ⟨s0, 0, none⟩), .pointer (some ⟨sb, 0, none⟩), .int .i64 (P.s 0).epoch, .int .i64 ((P.s 1).epoch + 1), .slice V P.way.length vc, .int .i64 (P.sent : Int), .map (some mf), .map (some mt)]) (ho : Only (fun k => k = pb) w w') :
  PrAt B w' pb (anewP P 1) s0 sb F0 F V vc mf mt m := by
 have hF := SAt.low hs
 have hpb := h.way.box.lt
 refine ⟨⟨hc, rfl, row_only h.way.row ho (fun k e e2 => by
   rw [own_blk] at e
   exact h.way.nA k e e2), h.way.nA⟩, SAt.only h.a0 ho fun k hk e => (h.d0 k hk).1 e, SAt.up h.size hs, h.src.only ho fun e => h.dm.2.1 e, h.took.only ho fun e => h.dm.2.2 e, fun k e hk => ?_, h.d0, fun k hk => ?_, h.dm, h.dv, h.low⟩
 ·have h1 := hF k hk
  have h2 := SAt.lt h.a0 k e
  omega
 ·have h1 := hF k hk
  have h2 := h.src.lt
  have h3 := h.took.lt
  refine ⟨by omega, by omega, by omega, fun e => ?_⟩
  have := (h.vlow k e).2
  omega
end
theorem anew_any {B pb k j : Nat} {w : World} {P : Pr} (h : PAtE B w pb P) (hJ : PJ k j P) (hk : k ≤ 1000) {t : Nat} (ht : t < 2) :
  Calls Try.prog 59 #[.pointer (some ⟨pb, 0, none⟩), .int .i64 (t : Int)] w fun e w' => e = .returned (.bool true) ∧ PAtE B w' pb (anewP P t) ∧ Below B w w' := by
 obtain ⟨s0, s1, F0, F1, V, vc, mf, mt, m, h⟩ := h
 have e0 := hJ.pi.e0 t ht
 have e1 := hJ.pi.e1 t ht
 match t, ht, e0, e1 with
 | 0, _, e0, e1 =>
  refine (anew_0 h.way.box (by omega) (by omega)).mono ?_
  rintro e w' ⟨sb, F, rfl, hs, hc, ho, _⟩
  exact ⟨rfl, ⟨_, _, _, _, _, _, _, _, _, h.anew0 hs hc ho⟩, ho.below h.size fun k e => by rw [e]; exact h.low.1⟩
 | 1, _, e0, e1 =>
  refine (anew_1 h.way.box (by omega) (by omega)).mono ?_
  rintro e w' ⟨sb, F, rfl, hs, hc, ho, _⟩
  exact ⟨rfl, ⟨_, _, _, _, _, _, _, _, _, h.anew1 hs hc ho⟩, ho.below h.size fun k e => by rw [e]; exact h.low.1⟩
theorem put_out {B pb s0 s1 vc mf mt m : Nat} {w : World} {P : Pr} {F0 F1 : Nat → Prop} {V : Option Addr} (h : PrAt B w pb P s0 s1 F0 F1 V vc mf mt m) (hl : P.way.length ≤ 300) (out : List Ot) (A : Option Addr) (c : Nat) (hs : Sl w A 6 (out.map Ot.vals)) (ho : out.length ≤ 90000)
  (hd : ∀ o ∈ out, 1 ≤ o.dst ∧ o.dst ≤ 16) (hA : ∀ k, blk A = some k → k ≠ pb ∧ blk V ≠ some k) (hA2 : ∀ k, blk A = some k → k < w.heap.size) :
  Calls Try.prog 31 #[.pointer (some ⟨pb, 0, none⟩), .slice A out.length c] w fun e w' => e = .returned (.tuple #[]) ∧ PAtE B w' pb { P with way := putW P.way out } ∧ Below B w w' := by
 refine (put_any h.way h.size hl out A c hs ho hd hA hA2).mono ?_
 rintro e w' ⟨rfl, hws⟩
 obtain ⟨⟨V5, vc5, hp5, _⟩, _, hbl5⟩ := h.puts hws
 exact ⟨rfl, ⟨_, _, _, _, _, _, _, _, _, hp5⟩, hbl5⟩
end Go.Proofs.Ytccdpgbmkiapdaa.Ses
