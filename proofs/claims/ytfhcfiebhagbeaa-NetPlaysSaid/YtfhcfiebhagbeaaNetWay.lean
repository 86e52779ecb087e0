/-
  Layer 11: ways: whole, Cut, Heal, HealAll; New, Len, has. Conditions: none.
-/
import Derived.Test.YtfhcfiebhagbeaaNetBt
namespace Go.Proofs.Ytfhcfiebhagbeaa.Net
set_option maxRecDepth 100000
open Go.RowKit Go.Deep Go.Proofs.Ytfhcfiebhagbeaa.Mem

theorem keyT_way : Try.prog.keyType 72 = true := by kernel_rfl
theorem keyT_pk : Try.prog.keyType 39 = true := by kernel_rfl
theorem cells_way : Try.prog.cellsOf 72 = 2 := by kernel_rfl
theorem cells_pk : Try.prog.cellsOf 39 = 4 := by kernel_rfl
theorem cells_int : Try.prog.cellsOf 3 = 1 := by kernel_rfl
theorem cells_str : Try.prog.cellsOf 9 = 1 := by kernel_rfl
theorem cells_bool : Try.prog.cellsOf 4 = 1 := by kernel_rfl
theorem keyOf_struct {P : Program} {k : TypeId} {fs : Array Field} {v : Value} (hu : P.underlying k = some (.struct fs)) (hk : P.keyType k = true) (hf : v.formed P k = true) (hs : 2 ≤ P.types.size)
    (hl : ∀ d, ∃ ls, P.keyLits (d + 1 + 1) k v.cells.toList = some ls) : ∃ kl, keyOf P k v = some kl := by
  obtain ⟨d, hd⟩ : ∃ d, P.types.size + 1 = d + 1 + 1 := ⟨P.types.size - 1, by omega⟩
  obtain ⟨ls, hls⟩ := hl d
  unfold keyOf
  rw [hu, hd]
  simp [hk, hf, hls]
theorem size2 : 2 ≤ Try.prog.types.size := of_decide_eq_true (by kernel_rfl)
theorem lits_int {a : Int} (ha : I64 a) (d : Nat) : Try.prog.keyLits (d + 1) 3 [.int .i64 a] = some [.int .i64 a] := by
  have h1 := wf_i64 ha
  unfold Program.keyLits
  rw [Try.underlying3]
  simp [h1]
theorem lits_str {s : ByteArray} (h : s.size ≤ maxLen) (d : Nat) : Try.prog.keyLits (d + 1) 9 [.string s] = some [.string s.data.toList] := by
  unfold Program.keyLits
  rw [Try.underlying9]
  simp [h]
theorem lits_bool (x : Bool) (d : Nat) : Try.prog.keyLits (d + 1) 4 [.bool x] = some [.bool x] := by
  unfold Program.keyLits
  rw [Try.underlying4]
theorem lits_fields {P : Program} {k : TypeId} {fs : Array Field} {cs : List Value} (hu : P.underlying k = some (.struct fs)) (hn : fs.all (·.name != "_") = true) (hc : cs.length = P.cellsOf k) (d : Nat) {ls : List (List Lit)}
    (h : (fs.toList.mapM fun f => P.keyLits d f.type ((cs.drop f.offset).take (P.cellsOf f.type))) = some ls) : P.keyLits (d + 1) k cs = some ls.flatten := by
  unfold Program.keyLits
  rw [hu]
  show (if cs.length = P.cellsOf k ∧ fs.all (·.name != "_") = true then _ else none) = _
  rw [if_pos ⟨hc, hn⟩, h]
  rfl
theorem keyOf_way {a b : Int} (ha : I64 a) (hb : I64 b) : ∃ kl, keyOf Try.prog 72 (wayV a b) = some kl := by
  refine keyOf_struct Try.underlying72 keyT_way (by simp [Value.formed, wayV, Try.underlying72, cells_way]) size2 fun d => ⟨_, lits_fields (ls := [[.int .i64 a], [.int .i64 b]]) Try.underlying72 (by kernel_rfl) (by rw [cells_way]; rfl) _ ?_⟩
  simp only [List.mapM_cons, List.mapM_nil, cells_int, wayV, Value.cells, List.drop_zero, List.drop_succ_cons, List.take_succ_cons, List.take_zero, lits_int ha, lits_int hb]
  rfl
theorem keyOf_pk {p : Pk} (h : p.ok) : ∃ kl, keyOf Try.prog 39 p.val = some kl := by
  have h3 : p.bytes.size ≤ maxLen := by have := h.len; unfold maxLen; omega
  refine keyOf_struct Try.underlying39 keyT_pk (by simp [Value.formed, Pk.val, Try.underlying39, cells_pk]) size2 fun d => ⟨_, lits_fields (ls := [[.int .i64 p.src], [.int .i64 p.dst], [.string p.bytes.data.toList], [.bool p.spoilt]]) Try.underlying39 (by kernel_rfl) (by rw [cells_pk]; rfl) _ ?_⟩
  simp only [List.mapM_cons, List.mapM_nil, cells_int, cells_str, cells_bool, Pk.val, Value.cells, List.drop_zero, List.drop_succ_cons, List.take_succ_cons, List.take_zero, lits_int h.src, lits_int h.dst, lits_str h3, lits_bool]
  rfl
def wholeN (N : Nt) (a b : Int) : Bool := betw N.nodes a b && !N.cut (min a b) (max a b)
theorem betw_range {n a b : Int} (h : betw n a b = true) (hn : n ≤ 16) : I64 (min a b) ∧ I64 (max a b) ∧ a ≠ b ∧ 1 ≤ min a b ∧ max a b ≤ n := by
  unfold betw at h
  simp only [Bool.and_eq_true, decide_eq_true_eq] at h
  obtain ⟨h1, h2, h3⟩ := h
  exact ⟨⟨by omega, by omega⟩, ⟨by omega, by omega⟩, h1, h2, h3⟩
theorem betwV_eq (n a b : Int) (hn : n ≤ 16) : ∃ x y, betwV n a b = wayV x y ∧ I64 x ∧ I64 y ∧ (betw n a b = true → x = min a b ∧ y = max a b) := by
  unfold betwV
  cases h : betw n a b
  · exact ⟨0, 0, rfl, ⟨by omega, by omega⟩, ⟨by omega, by omega⟩, fun e => by cases e⟩
  · obtain ⟨h1, h2, _⟩ := betw_range h hn
    exact ⟨_, _, rfl, h1, h2, fun _ => ⟨rfl, rfl⟩⟩
theorem cutR_iff {cut : Int → Int → Bool} {x y : Int} : (∃ v, cutR cut (wayV x y) v) ↔ cut x y = true := by
  constructor
  · rintro ⟨v, a, b, e, _, h⟩
    unfold wayV at e
    simp at e
    obtain ⟨rfl, rfl⟩ := e
    exact h
  · intro h
    exact ⟨_, x, y, rfl, rfl, h⟩
/-- A way's key is looked for. -/
theorem look_way {w : World} {m n : Nat} {cut : Int → Int → Bool} {x y : Int} (h : KM Try.prog 72 w m n (cutR cut)) (hx : I64 x) (hy : I64 y) :
    (Instr.lookup 62 (.map (some m)) (wayV x y) true).run Try.prog w = .ok (.tuple #[.agg #[], .bool (cut x y)]) w := by
  obtain ⟨kl, hk⟩ := keyOf_way hx hy
  have hz : (zeroValue 75).run Try.prog w = .ok (.agg #[]) w := Try.zeroValue75 w
  rcases h.look way_keyed Try.underlying62 hz hk true with ⟨v, hv, e⟩ | ⟨hv, e⟩
  · have hc : cut x y = true := cutR_iff.1 ⟨v, hv⟩
    obtain ⟨_, _, _, rfl, _⟩ := hv
    rw [hc]
    exact e
  · have hc : cut x y = false := by
      cases hcc : cut x y
      · rfl
      · obtain ⟨v, hv'⟩ := cutR_iff.2 hcc
        exact absurd hv' (hv v)
    rw [hc]
    exact e
end Go.Proofs.Ytfhcfiebhagbeaa.Net
