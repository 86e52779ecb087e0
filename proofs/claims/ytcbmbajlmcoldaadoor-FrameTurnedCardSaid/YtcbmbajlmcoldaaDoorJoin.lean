/-
  strings.Join, by the library's contract: texts one behind the other, with nothing between. Conditions: none.
-/
import Derived.Test.YtcbmbajlmcoldaaDoorCat
import Derived.Shelf.Strings.Builder1
import Derived.Shelf.Strings.Builder2
import Derived.Shelf.Strings.OnBuilder
namespace Go.Proofs.YtcbmbajlmcoldaaDoor.Mem
open Go.Shelf

def join_ren : Go.Shelf.Ren := ⟨fun | 156 => 17 | 165 => 24 | 166 => 25 | 169 => 26 | 240 => 29 | 241 => 30 | 276 => 32 | 277 => 33 | n => n, fun | 31 => 22 | 9 => 9 | 3 => 3 | 4 => 4 | 0 => 0 | 20 => 20 | 72 => 56 | 76 => 60 | 70 => 54 | 37 => 41 | 75 => 59 | 127 => 64 | 164 => 66 | 5 => 5 | 80 => 62 | n => n, fun | n => n⟩
theorem join_lays : Go.Proofs.Lays.n156 Tryd.prog join_ren := {
  mixed := by kernel_rfl
  f156 := Tryd.func17.trans (congrArg some (by kernel_rfl))
  f165 := Tryd.func24.trans (congrArg some (by kernel_rfl))
  f166 := Tryd.func25.trans (congrArg some (by kernel_rfl))
  f169 := Tryd.func26.trans (congrArg some (by kernel_rfl))
  f240 := Tryd.func29.trans (congrArg some (by kernel_rfl))
  f241 := Tryd.func30.trans (congrArg some (by kernel_rfl))
  f276 := Tryd.func32.trans (congrArg some (by kernel_rfl))
  f277 := Tryd.func33.trans (congrArg some (by kernel_rfl))
  t0 := Tryd.underlying0
  a0 := Tryd.isAgg0
  z0 := Tryd.sizeOf0
  v0 := Tryd.zeroValue0
  t3 := Tryd.underlying3
  a3 := Tryd.isAgg3
  z3 := Tryd.sizeOf3
  v3 := Tryd.zeroValue3
  t4 := Tryd.underlying4
  a4 := Tryd.isAgg4
  z4 := Tryd.sizeOf4
  v4 := Tryd.zeroValue4
  t9 := Tryd.underlying9
  a9 := Tryd.isAgg9
  z9 := Tryd.sizeOf9
  v9 := Tryd.zeroValue9
  t20 := Tryd.underlying20
  a20 := Tryd.isAgg20
  z20 := Tryd.sizeOf20
  v20 := Tryd.zeroValue20
  t31 := Tryd.underlying22
  a31 := Tryd.isAgg22
  z31 := Tryd.sizeOf22
  v31 := Tryd.zeroValue22
  t37 := Tryd.underlying41
  a37 := Tryd.isAgg41
  z37 := Tryd.sizeOf41
  v37 := Tryd.zeroValue41
  t70 := Tryd.underlying54
  a70 := Tryd.isAgg54
  z70 := Tryd.sizeOf54
  v70 := Tryd.zeroValue54
  t72 := Tryd.underlying56
  a72 := Tryd.isAgg56
  z72 := Tryd.sizeOf56
  v72 := Tryd.zeroValue56
  t75 := Tryd.underlying59
  a75 := Tryd.isAgg59
  z75 := Tryd.sizeOf59
  v75 := Tryd.zeroValue59
  t76 := Tryd.underlying60
  a76 := Tryd.isAgg60
  z76 := Tryd.sizeOf60
  v76 := Tryd.zeroValue60
  t127 := Tryd.underlying64
  a127 := Tryd.isAgg64
  z127 := Tryd.sizeOf64
  v127 := Tryd.zeroValue64
  t164 := Tryd.underlying66
  a164 := Tryd.isAgg66
  z164 := Tryd.sizeOf66
  v164 := Tryd.zeroValue66 }
theorem join_extra : Builder.Extra Tryd.prog join_ren := {
  sizeBuilder := by kernel_rfl
  liesBuilder := by kernel_rfl
  t5 := Tryd.underlying5
  a5 := Tryd.isAgg5
  z5 := Tryd.sizeOf5
  v5 := Tryd.zeroValue5
  infoByte := by kernel_rfl
  cellsByte := by kernel_rfl
  sizeByte := by kernel_rfl
  neB5 := by decide }

theorem join_nil (l : List (List UInt8)) : Lib.join l [] = l.flatten := by
  have h : ∀ r : List (List UInt8), Lib.joinTail [] r = r.flatten := by
    intro r
    simp [Lib.joinTail]
  cases l with
  | nil => rfl
  | cons x r => rw [Lib.join_cons, h]; simp
open Go.RowKit in
theorem join_any (A : Option Addr) (ss : List ByteArray) (c : Nat) (w : World) (hs : Strs w A ss) (hn : ss.length ≤ 140737488355328) (hc : ss.length ≤ c) (hl : (cat ss).length ≤ 140737488355328) :
    Calls Tryd.prog 17 #[.slice A ss.length c, .string ⟨#[]⟩] w fun e w' => e = .returned (.string ⟨(cat ss).toArray⟩) ∧ Below w.heap.size w w' := by
  by_cases h0 : ss = []
  · subst h0
    refine (Any.strings_Join_none join_lays join_extra A c ⟨#[]⟩ w).mono ?_
    rintro e w' ⟨rfl, rfl⟩
    exact ⟨rfl, Below.refl _ _⟩
  · have hlen : 0 < ss.length := List.length_pos_iff.2 h0
    obtain ⟨ad, rfl, hc0, _⟩ := hs 0 hlen
    obtain ⟨bk, o, sp⟩ := ad
    have e0 : (⟨bk, o, sp⟩ : Addr).add 0 = ⟨bk, o, sp⟩ := rfl
    rw [e0] at hc0
    have hsp : sp = none := by
      cases sp with
      | none => rfl
      | some x =>
        exfalso
        unfold World.cell? at hc0
        split at hc0
        · simp at hc0
        · cases hc0
    subst hsp
    have hj : Lib.join (ss.map (·.data.toList)) (⟨#[]⟩ : ByteArray).data.toList = cat ss := join_nil _
    have h := Any.strings_Join join_lays join_extra bk o c ss ⟨#[]⟩ w (fun j x hx => by
      obtain ⟨hj, rfl⟩ := List.getElem?_eq_some_iff.1 hx
      obtain ⟨ad, h1, h2, _⟩ := hs j hj
      obtain rfl := Option.some.inj h1
      rw [← h2]
      unfold Addr.add
      split
      · rename_i h; subst h; rfl
      · rfl) (block_of_cell hc0) hn hc (by rw [hj]; exact hl)
    rw [hj] at h
    exact h
end Go.Proofs.YtcbmbajlmcoldaaDoor.Mem
