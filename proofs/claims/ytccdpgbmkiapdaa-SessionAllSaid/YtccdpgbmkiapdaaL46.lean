/-
  Layer 14, SessionOnce: the pair's sides and maps.
  Conditions: none.
-/
import Derived.Test.YtccdpgbmkiapdaaL44
import Derived.Test.YtccdpgbmkiapdaaL45
import Derived.Test.YtccdpgbmkiapdaaL40
namespace Go.Proofs.Ytccdpgbmkiapdaa.Ses
set_option maxRecDepth 100000
open Go.ChangeShapes Go.WideShapes Go.ChangeAt Go.RowKit Go.Deep Go.Proofs.Ytccdpgbmkiapdaa.Mem Go.Proofs.Ytccdpgbmkiapdaa.Win Go.ChangeMaps Go.MapKept
def PAtE (B : Nat) (w : World) (pb : Nat) (P : Pr) : Prop := ∃ s0 s1 F0 F1 V vc mf mt m, PrAt B w pb P s0 s1 F0 F1 V vc mf mt m
theorem str_keyed : Go.Maps.Keyed Try.prog 9 := Go.Maps.string_keyed Try.underlying9
theorem str_key {s : ByteArray} (h : s.size ≤ 1000) : keyOf Try.prog 9 (.string s) = some (.string s.data.toList) := Go.WideMaps.keyOf_string_mk Try.underlying9 (Nat.le_trans h (by decide))
section
variable {B pb s0 s1 vc mf mt m : Nat} {w w' : World} {P : Pr} {F0 F1 : Nat → Prop} {V : Option Addr}
/-- A side of a pair. -/
theorem PrAt.side (h : PrAt B w pb P s0 s1 F0 F1 V vc mf mt m) {t : Nat} (ht : t < 2) :
  ∃ st Ft, w.cell? ⟨pb, t, none⟩ = some (.pointer (some ⟨st, 0, none⟩)) ∧ w.cell? ⟨pb, 2 + t, none⟩ = some (.int .i64 (P.s t).epoch) ∧ SAt B Ft w st (P.s t) ∧ (∀ k, Ft k → F0 k ∨ F1 k) ∧
   ∀ {S' : Sm} {F' : Nat → Prop} {w' : World}, SStep B Ft w st S' F' w' → S'.epoch = (P.s t).epoch → (∃ G0 G1, PrAt B w' pb { P with s := setS P.s t S' } s0 s1 G0 G1 V vc mf mt m) ∧ Below B w w' := by
 have hlow : B ≤ w.heap.size := Nat.le_trans h.low.1 (Nat.le_of_lt h.way.box.lt)
 match t, ht with
 | 0, _ => exact ⟨s0, F0, h.way.box.cell (j := 0) rfl, h.way.box.cell (j := 2) rfl, h.a0, fun k e => Or.inl e, fun hs he => ⟨⟨_, _, h.turn0 hs he⟩, hs.only.below hlow fun k e => SAt.low h.a0 k e⟩⟩
 | 1, _ => exact ⟨s1, F1, h.way.box.cell (j := 1) rfl, h.way.box.cell (j := 3) rfl, h.a1, fun k e => Or.inr e, fun hs he => ⟨⟨_, _, h.turn1 hs he⟩, hs.only.below hlow fun k e => SAt.low h.a1 k e⟩⟩
theorem PrAt.vlow (h : PrAt B w pb P s0 s1 F0 F1 V vc mf mt m) : ∀ k, blk V = some k → B ≤ k ∧ k < w.heap.size := fun k e => World.ownsRow.lt h.way.row k (by rw [own_blk]; exact e)
theorem PrAt.size (h : PrAt B w pb P s0 s1 F0 F1 V vc mf mt m) : B ≤ w.heap.size := Nat.le_trans h.low.1 (Nat.le_of_lt h.way.box.lt)
/-- What goes out is put on its way. -/
theorem PrAt.puts (h : PrAt B w pb P s0 s1 F0 F1 V vc mf mt m) {l : List Wy} (hs : WyStep B w pb (boxP P s0 s1 V vc mf mt) V l w') : (∃ V' vc', PrAt B w' pb { P with way := l } s0 s1 F0 F1 V' vc' mf mt m ∧ ∀ k, blk V' = some k → blk V = some k ∨ w.heap.size ≤ k) ∧ Only (fun k => k = pb ∨ blk V = some k) w w' ∧ Below B w w' := by
 obtain ⟨V', vc', h1, h2, h3⟩ := h.wayTurn hs
 exact ⟨⟨V', vc', h1, h3⟩, h2, h2.below h.size fun k e => e.elim (fun e => by rw [e]; exact h.low.1) fun e => (h.vlow k e).1⟩
theorem PrAt.fromHit (h : PrAt B w pb P s0 s1 F0 F1 V vc mf mt m) (hu : ∀ r ∈ P.log, ∀ r' ∈ P.log, r.pay = r'.pay → r = r') {r : Sn} (hr : r ∈ P.log) (hz : r.pay.size ≤ 1000) :
  (Instr.lookup 84 (.map (some mf)) (.string r.pay) true).run Try.prog w = .ok (.tuple #[.int .i64 (r.side : Int), .bool true]) w := by
 rcases h.src.look str_keyed Try.underlying84 (z := .int .i64 0) (Try.zeroValue3 w) (str_key hz) true with ⟨v, ⟨q, hq, e1, rfl⟩, e⟩ | ⟨hno, _⟩
 ·injection e1 with e1
  rw [hu r hr q hq e1]
  rw [hu r hr q hq e1] at e
  exact e
 ·exact absurd ⟨r, hr, rfl, rfl⟩ (hno _)
theorem PrAt.tookMiss (h : PrAt B w pb P s0 s1 F0 F1 V vc mf mt m) {key : ByteArray} (hz : key.size ≤ 1000) (hk : ∀ q ∈ P.took, q.1 ++ nameB q.2.toNat ≠ key) :
  (Instr.lookup 84 (.map (some mt)) (.string key) false).run Try.prog w = .ok (.int .i64 0) w := by
 rcases h.took.look str_keyed Try.underlying84 (z := .int .i64 0) (Try.zeroValue3 w) (str_key hz) false with ⟨v, ⟨_, q, hq, e1⟩, _⟩ | ⟨_, e⟩
 ·injection e1 with e1
  exact absurd e1.symm (hk q hq)
 ·exact e
theorem PrAt.tookPut (h : PrAt B w pb P s0 s1 F0 F1 V vc mf mt m) (s : ByteArray) (ep : Int) (hz : (s ++ nameB ep.toNat).size ≤ 1000) :
  ∃ w', (Instr.mapUpdate 84 (.map (some mt)) (.string (s ++ nameB ep.toNat)) (.int .i64 1)).run Try.prog w = .ok () w' ∧ PrAt B w' pb { P with took := (s, ep) :: P.took } s0 s1 F0 F1 V vc mf mt (m + 1) ∧ Only (fun k => k = mt) w w' ∧ Below B w w' ∧
   (Instr.lookup 84 (.map (some mt)) (.string (s ++ nameB ep.toNat)) false).run Try.prog w' = .ok (.int .i64 1) w' := by
 obtain ⟨w', e1, e2, e3⟩ := h.took.store str_keyed Try.underlying84 (val := .int .i64 1) (str_key hz)
 have hT : KM Try.prog 9 w' mt (m + 1) (TookR { P with took := (s, ep) :: P.took }) := e2.congr (fun k v => by
  constructor
  ·rintro (⟨rfl, rfl⟩ | ⟨_, e, q, hq, e4⟩)
   ·exact ⟨rfl, (s, ep), List.mem_cons_self, rfl⟩
   ·exact ⟨e, q, List.mem_cons_of_mem _ hq, e4⟩
  ·rintro ⟨e, q, hq, rfl⟩
   by_cases e6 : (Value.string (q.1 ++ nameB q.2.toNat)) = .string (s ++ nameB ep.toNat)
   ·exact Or.inl ⟨e6, e⟩
   ·rcases List.mem_cons.1 hq with rfl | hq
    ·exact absurd rfl e6
    ·exact Or.inr ⟨e6, e, q, hq, rfl⟩) (Nat.le_refl _)
 refine ⟨w', e1, ⟨⟨cells_only h.way.box e3 fun e => h.dm.2.2 e.symm, h.way.at4, row_only h.way.row e3 (fun k e e9 => by
   rw [own_blk] at e
   exact h.dv.2 (by rw [e, e9])), h.way.nA⟩, SAt.only h.a0 e3 fun k hk e => (h.d0 k hk).2.2.1 e, SAt.only h.a1 e3 fun k hk e => (h.d1 k hk).2.2.1 e, (h.src.only e3 fun e => h.dm.1 e).congr (fun _ _ => Iff.rfl) (Nat.le_succ _), hT, h.d01, h.d0, h.d1, h.dm, h.dv, h.low⟩, e3, e3.below h.size fun k e => by rw [e]; exact h.low.2.2, ?_⟩
 rcases hT.look str_keyed Try.underlying84 (z := .int .i64 0) (Try.zeroValue3 w') (str_key hz) false with ⟨v, ⟨rfl, _⟩, e⟩ | ⟨hno, _⟩
 ·exact e
 ·exact absurd ⟨rfl, (s, ep), List.mem_cons_self, rfl⟩ (hno (.int .i64 1))
end
theorem app_inj {a b c d : ByteArray} (hb : b.size = 2) (hd : d.size = 2) (h : a ++ b = c ++ d) : a = c ∧ b = d := by
 have h1 : (a ++ b).data.toList = (c ++ d).data.toList := by rw [h]
 rw [ByteArray.data_append, ByteArray.data_append, Array.toList_append, Array.toList_append] at h1
 have h2 := List.append_inj' h1 (by rw [toList_size, toList_size, hb, hd])
 exact ⟨ByteArray.ext (Array.ext' h2.1), ByteArray.ext (Array.ext' h2.2)⟩
end Go.Proofs.Ytccdpgbmkiapdaa.Ses
