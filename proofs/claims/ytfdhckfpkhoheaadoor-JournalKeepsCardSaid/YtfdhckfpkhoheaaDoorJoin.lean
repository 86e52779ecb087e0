/-
  strings.Join, by the library's contract: texts one behind the other, with nothing between. Conditions: none.
-/
import Derived.Test.YtfdhckfpkhoheaaDoorCat
import Derived.Shelf.Strings.Builder1
import Derived.Shelf.Strings.Builder2
import Derived.Shelf.Strings.OnBuilder
namespace Go.Proofs.YtfdhckfpkhoheaaDoor.Mem
open Go.Shelf

def join_ren : Go.Shelf.Ren := ⟨fun | 156 => 34 | 165 => 40 | 166 => 30 | 169 => 31 | 240 => 39 | 241 => 44 | 276 => 43 | 277 => 46 | n => n, fun | 31 => 30 | 9 => 9 | 3 => 3 | 4 => 4 | 0 => 0 | 20 => 20 | 72 => 60 | 76 => 64 | 70 => 58 | 37 => 41 | 75 => 63 | 127 => 73 | 164 => 77 | 5 => 5 | 80 => 46 | n => n, fun | n => n⟩
theorem join_lays : Go.Proofs.Lays.n156 Tryd.prog join_ren := {
  mixed := by kernel_rfl
  f156 := Tryd.func34.trans (congrArg some (by kernel_rfl))
  f165 := Tryd.func40.trans (congrArg some (by kernel_rfl))
  f166 := Tryd.func30.trans (congrArg some (by kernel_rfl))
  f169 := Tryd.func31.trans (congrArg some (by kernel_rfl))
  f240 := Tryd.func39.trans (congrArg some (by kernel_rfl))
  f241 := Tryd.func44.trans (congrArg some (by kernel_rfl))
  f276 := Tryd.func43.trans (congrArg some (by kernel_rfl))
  f277 := Tryd.func46.trans (congrArg some (by kernel_rfl))
  t0 := Tryd.underlying0
  a0 := Tryd.isAgg0
  z0 := Tryd.sizeOf0
  v0 := Tryd.zeroValue0
  t3 := Tryd.underlying3
  a3 := Tryd.isAgg3
  z3 := Tryd.sizeOf3
  v3 := Tryd.zeroValue3
  t4 := Tryd.underlying4
  a4 := Tryd.isAgg4
  z4 := Tryd.sizeOf4
  v4 := Tryd.zeroValue4
  t9 := Tryd.underlying9
  a9 := Tryd.isAgg9
  z9 := Tryd.sizeOf9
  v9 := Tryd.zeroValue9
  t20 := Tryd.underlying20
  a20 := Tryd.isAgg20
  z20 := Tryd.sizeOf20
  v20 := Tryd.zeroValue20
  t31 := Tryd.underlying30
  a31 := Tryd.isAgg30
  z31 := Tryd.sizeOf30
  v31 := Tryd.zeroValue30
  t37 := Tryd.underlying41
  a37 := Tryd.isAgg41
  z37 := Tryd.sizeOf41
  v37 := Tryd.zeroValue41
  t70 := Tryd.underlying58
  a70 := Tryd.isAgg58
  z70 := Tryd.sizeOf58
  v70 := Tryd.zeroValue58
  t72 := Tryd.underlying60
  a72 := Tryd.isAgg60
  z72 := Tryd.sizeOf60
  v72 := Tryd.zeroValue60
  t75 := Tryd.underlying63
  a75 := Tryd.isAgg63
  z75 := Tryd.sizeOf63
  v75 := Tryd.zeroValue63
  t76 := Tryd.underlying64
  a76 := Tryd.isAgg64
  z76 := Tryd.sizeOf64
  v76 := Tryd.zeroValue64
  t127 := Tryd.underlying73
  a127 := Tryd.isAgg73
  z127 := Tryd.sizeOf73
  v127 := Tryd.zeroValue73
  t164 := Tryd.underlying77
  a164 := Tryd.isAgg77
  z164 := Tryd.sizeOf77
  v164 := Tryd.zeroValue77 }
theorem join_extra : Builder.Extra Tryd.prog join_ren := {
  sizeBuilder := by kernel_rfl
  liesBuilder := by kernel_rfl
  t5 := Tryd.underlying5
  a5 := Tryd.isAgg5
  z5 := Tryd.sizeOf5
  v5 := Tryd.zeroValue5
  infoByte := by kernel_rfl
  cellsByte := by kernel_rfl
  sizeByte := by kernel_rfl
  neB5 := by decide }

theorem join_nil (l : List (List UInt8)) : Lib.join l [] = l.flatten := by
  have h : ∀ r : List (List UInt8), Lib.joinTail [] r = r.flatten := by
    intro r
    simp [Lib.joinTail]
  cases l with
  | nil => rfl
  | cons x r => rw [Lib.join_cons, h]; simp
open Go.RowKit in
theorem join_any (A : Option Addr) (ss : List ByteArray) (c : Nat) (w : World) (hs : Strs w A ss) (hn : ss.length ≤ 140737488355328) (hc : ss.length ≤ c) (hl : (cat ss).length ≤ 140737488355328) :
    Calls Tryd.prog 34 #[.slice A ss.length c, .string ⟨#[]⟩] w fun e w' => e = .returned (.string ⟨(cat ss).toArray⟩) ∧ Below w.heap.size w w' := by
  by_cases h0 : ss = []
  · subst h0
    refine (Any.strings_Join_none join_lays join_extra A c ⟨#[]⟩ w).mono ?_
    rintro e w' ⟨rfl, rfl⟩
    exact ⟨rfl, Below.refl _ _⟩
  · have hlen : 0 < ss.length := List.length_pos_iff.2 h0
    obtain ⟨ad, rfl, hc0, _⟩ := hs 0 hlen
    obtain ⟨bk, o, sp⟩ := ad
    have e0 : (⟨bk, o, sp⟩ : Addr).add 0 = ⟨bk, o, sp⟩ := rfl
    rw [e0] at hc0
    have hsp : sp = none := by
      cases sp with
      | none => rfl
      | some x =>
        exfalso
        unfold World.cell? at hc0
        split at hc0
        · simp at hc0
        · cases hc0
    subst hsp
    have hj : Lib.join (ss.map (·.data.toList)) (⟨#[]⟩ : ByteArray).data.toList = cat ss := join_nil _
    have h := Any.strings_Join join_lays join_extra bk o c ss ⟨#[]⟩ w (fun j x hx => by
      obtain ⟨hj, rfl⟩ := List.getElem?_eq_some_iff.1 hx
      obtain ⟨ad, h1, h2, _⟩ := hs j hj
      obtain rfl := Option.some.inj h1
      rw [← h2]
      unfold Addr.add
      split
      · rename_i h; subst h; rfl
      · rfl) (block_of_cell hc0) hn hc (by rw [hj]; exact hl)
    rw [hj] at h
    exact h
end Go.Proofs.YtfdhckfpkhoheaaDoor.Mem
