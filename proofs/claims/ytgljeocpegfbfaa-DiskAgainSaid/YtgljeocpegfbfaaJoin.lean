/-
  strings.Join, by the library's contract: texts one behind the other, with nothing between. Conditions: none.
-/
import Derived.Test.YtgljeocpegfbfaaCat
import Derived.Shelf.Strings.Builder1
import Derived.Shelf.Strings.Builder2
import Derived.Shelf.Strings.OnBuilder
namespace Go.Proofs.Ytgljeocpegfbfaa.Mem
open Go.Shelf

def join_ren : Go.Shelf.Ren := ⟨fun | 156 => 29 | 165 => 33 | 166 => 34 | 169 => 35 | 240 => 36 | 241 => 37 | 276 => 38 | 277 => 39 | n => n, fun | 31 => 31 | 9 => 9 | 3 => 3 | 4 => 4 | 0 => 0 | 20 => 20 | 72 => 60 | 76 => 63 | 70 => 58 | 37 => 52 | 75 => 62 | 127 => 66 | 164 => 67 | 5 => 5 | 80 => 42 | n => n, fun | n => n⟩
theorem join_lays : Go.Proofs.Lays.n156 Try.prog join_ren := {
  mixed := by kernel_rfl
  f156 := Try.func29.trans (congrArg some (by kernel_rfl))
  f165 := Try.func33.trans (congrArg some (by kernel_rfl))
  f166 := Try.func34.trans (congrArg some (by kernel_rfl))
  f169 := Try.func35.trans (congrArg some (by kernel_rfl))
  f240 := Try.func36.trans (congrArg some (by kernel_rfl))
  f241 := Try.func37.trans (congrArg some (by kernel_rfl))
  f276 := Try.func38.trans (congrArg some (by kernel_rfl))
  f277 := Try.func39.trans (congrArg some (by kernel_rfl))
  t0 := Try.underlying0
  a0 := Try.isAgg0
  z0 := Try.sizeOf0
  v0 := Try.zeroValue0
  t3 := Try.underlying3
  a3 := Try.isAgg3
  z3 := Try.sizeOf3
  v3 := Try.zeroValue3
  t4 := Try.underlying4
  a4 := Try.isAgg4
  z4 := Try.sizeOf4
  v4 := Try.zeroValue4
  t9 := Try.underlying9
  a9 := Try.isAgg9
  z9 := Try.sizeOf9
  v9 := Try.zeroValue9
  t20 := Try.underlying20
  a20 := Try.isAgg20
  z20 := Try.sizeOf20
  v20 := Try.zeroValue20
  t31 := Try.underlying31
  a31 := Try.isAgg31
  z31 := Try.sizeOf31
  v31 := Try.zeroValue31
  t37 := Try.underlying52
  a37 := Try.isAgg52
  z37 := Try.sizeOf52
  v37 := Try.zeroValue52
  t70 := Try.underlying58
  a70 := Try.isAgg58
  z70 := Try.sizeOf58
  v70 := Try.zeroValue58
  t72 := Try.underlying60
  a72 := Try.isAgg60
  z72 := Try.sizeOf60
  v72 := Try.zeroValue60
  t75 := Try.underlying62
  a75 := Try.isAgg62
  z75 := Try.sizeOf62
  v75 := Try.zeroValue62
  t76 := Try.underlying63
  a76 := Try.isAgg63
  z76 := Try.sizeOf63
  v76 := Try.zeroValue63
  t127 := Try.underlying66
  a127 := Try.isAgg66
  z127 := Try.sizeOf66
  v127 := Try.zeroValue66
  t164 := Try.underlying67
  a164 := Try.isAgg67
  z164 := Try.sizeOf67
  v164 := Try.zeroValue67 }
theorem join_extra : Builder.Extra Try.prog join_ren := {
  sizeBuilder := by kernel_rfl
  liesBuilder := by kernel_rfl
  t5 := Try.underlying5
  a5 := Try.isAgg5
  z5 := Try.sizeOf5
  v5 := Try.zeroValue5
  infoByte := by kernel_rfl
  cellsByte := by kernel_rfl
  sizeByte := by kernel_rfl
  neB5 := by decide }

theorem join_nil (l : List (List UInt8)) : Lib.join l [] = l.flatten := by
  have h : ∀ r : List (List UInt8), Lib.joinTail [] r = r.flatten := by
    intro r
    simp [Lib.joinTail]
  cases l with
  | nil => rfl
  | cons x r => rw [Lib.join_cons, h]; simp
open Go.RowKit in
theorem join_any (A : Option Addr) (ss : List ByteArray) (c : Nat) (w : World) (hs : Strs w A ss) (hn : ss.length ≤ 140737488355328) (hc : ss.length ≤ c) (hl : (cat ss).length ≤ 140737488355328) :
    Calls Try.prog 29 #[.slice A ss.length c, .string ⟨#[]⟩] w fun e w' => e = .returned (.string ⟨(cat ss).toArray⟩) ∧ Below w.heap.size w w' := by
  by_cases h0 : ss = []
  · subst h0
    refine (Any.strings_Join_none join_lays join_extra A c ⟨#[]⟩ w).mono ?_
    rintro e w' ⟨rfl, rfl⟩
    exact ⟨rfl, Below.refl _ _⟩
  · have hlen : 0 < ss.length := List.length_pos_iff.2 h0
    obtain ⟨ad, rfl, hc0, _⟩ := hs 0 hlen
    obtain ⟨bk, o, sp⟩ := ad
    have e0 : (⟨bk, o, sp⟩ : Addr).add 0 = ⟨bk, o, sp⟩ := rfl
    rw [e0] at hc0
    have hsp : sp = none := by
      cases sp with
      | none => rfl
      | some x =>
        exfalso
        unfold World.cell? at hc0
        split at hc0
        · simp at hc0
        · cases hc0
    subst hsp
    have hj : Lib.join (ss.map (·.data.toList)) (⟨#[]⟩ : ByteArray).data.toList = cat ss := join_nil _
    have h := Any.strings_Join join_lays join_extra bk o c ss ⟨#[]⟩ w (fun j x hx => by
      obtain ⟨hj, rfl⟩ := List.getElem?_eq_some_iff.1 hx
      obtain ⟨ad, h1, h2, _⟩ := hs j hj
      obtain rfl := Option.some.inj h1
      rw [← h2]
      unfold Addr.add
      split
      · rename_i h; subst h; rfl
      · rfl) (block_of_cell hc0) hn hc (by rw [hj]; exact hl)
    rw [hj] at h
    exact h
end Go.Proofs.Ytgljeocpegfbfaa.Mem
