/-
  slices' swapRange and rotate, over a row of items.
  Conditions: none.
-/
import Derived.Test.YtjeogeablbkhgaaP14
namespace Go.Proofs.Ytjeogeablbkhgaa.Item
open Go.RowKit Go.Proofs.Ytjeogeablbkhgaa.Mem Go.Proofs.Ytjeogeablbkhgaa.Wire
theorem Row.item {w : World} {b : Nat} {l : List It} (h : Row w b l) {k : Nat} {x : It} (hk : l[k]? = some x) : ItAt w b (k * 5) x := by
 obtain ⟨hl, rfl⟩ := List.getElem?_eq_some_iff.1 hk
 exact h.at_ hl
theorem set_mid (A B : List It) (x y : It) (n : Nat) (h : n = A.length) : (A ++ x :: B).set n y = A ++ y :: B := by
 subst h
 rw [List.set_append_right _ _ (Nat.le_refl _), Nat.sub_self]
 rfl
theorem at_mid (A B : List It) (x : It) (n : Nat) (h : n = A.length) : (A ++ x :: B)[n]? = some x := by
 subst h
 rw [List.getElem?_append_right (Nat.le_refl _), Nat.sub_self]
 rfl
set_option maxHeartbeats 1000000 in
theorem swapRange_any (P X M Y S : List It) (b N cap a c n : Nat) (f : Value) (w : World) (h : Row w b (P ++ X ++ M ++ Y ++ S)) (hN : N = (P ++ X ++ M ++ Y ++ S).length) (ha : a = P.length) (hc : c = (P ++ X ++ M).length) (hX : X.length = n) (hY : Y.length = n) (hm : N ≤ 1000000) :
  Calls Try.prog 55 #[.slice (some ⟨b, 0, none⟩) N cap, .int .i64 (a : Int), .int .i64 (c : Int), .int .i64 (n : Int), f] w fun e w' => e = .returned (.tuple #[]) ∧ Row w' b (P ++ Y ++ M ++ X ++ S) ∧ Only (fun j => j = b) w w' := by
 have HR := Lib.hid h
 have HNN := Lib.hid hN
 have HA := Lib.hid ha
 have HC := Lib.hid hc
 have HXL := Lib.hid hX
 have HYL := Lib.hid hY
 have hlen : N = P.length + X.length + M.length + Y.length + S.length := by rw [hN]; simp only [List.length_append]
 have hcl : c = P.length + X.length + M.length := by rw [hc]; simp only [List.length_append]
 have HB : Hid (a + n ≤ N ∧ c + n ≤ N) := Lib.hid (by omega)
 have hn1 : n ≤ 1000000 := by omega
 have HCL := Lib.hid hcl
 have HLEN := Lib.hid hlen
 clear h hN ha hc hX hY hlen hcl
 go_enter Try.func55, Try.ntmps55
 go_wp2_with fail
 go_loopw [10] (fun i wr => ∃ (k : Nat) (X1 X2 Y1 Y2 : List It), k ≤ n ∧ i = .int .i64 (k : Int) ∧ Hid (X = X1 ++ X2 ∧ Y = Y1 ++ Y2 ∧ X1.length = k ∧ Y1.length = k) ∧ Row wr b (P ++ Y1 ++ X2 ++ M ++ X1 ++ Y2 ++ S) ∧ Only (fun j => j = b) w wr) (fun i _ => n - (intOf i).toNat)
 case atStart => exact ⟨0, [], X, [], Y, Nat.zero_le _, rfl, Lib.hid ⟨rfl, rfl, rfl, rfl⟩, by simpa using HR.out, Only.refl _ _⟩
 case round =>
  obtain ⟨k, X1, X2, Y1, Y2, hk, rfl, hp, hrow, ho⟩ := hrel
  by_cases hlt : k < n
  ·obtain ⟨x, X3, rfl⟩ : ∃ x X3, X2 = x :: X3 := by
    cases X2 with
    | nil => have h1 := hp.out.1; have h2 := hp.out.2.2.1; have := HXL.out; rw [h1] at this; simp at this; omega
    | cons x X3 => exact ⟨x, X3, rfl⟩
   obtain ⟨y, Y3, rfl⟩ : ∃ y Y3, Y2 = y :: Y3 := by
    cases Y2 with
    | nil => have h1 := hp.out.2.1; have h2 := hp.out.2.2.2; have := HYL.out; rw [h1] at this; simp at this; omega
    | cons y Y3 => exact ⟨y, Y3, rfl⟩
   obtain ⟨hX, hY, hX1, hY1⟩ := hp.out
   obtain ⟨l, hl⟩ : ∃ l, l = P ++ Y1 ++ x :: X3 ++ M ++ X1 ++ y :: Y3 ++ S := ⟨_, rfl⟩
   obtain ⟨u, hu⟩ : ∃ u, u = a + k := ⟨_, rfl⟩
   obtain ⟨v, hv⟩ : ∃ v, v = c + k := ⟨_, rfl⟩
   have hXl : X.length = k + (X3.length + 1) := by rw [hX, List.length_append, hX1]; rfl
   have hYl : Y.length = k + (Y3.length + 1) := by rw [hY, List.length_append, hY1]; rfl
   have hu2 : u = (P ++ Y1).length := by rw [hu, List.length_append, hY1, HA.out]
   have hv2 : v = (P ++ Y1 ++ x :: X3 ++ M ++ X1).length := by
    rw [hv, HCL.out]
    simp only [List.length_append, List.length_cons]
    omega
   have hv3 : v = (P ++ Y1 ++ y :: X3 ++ M ++ X1).length := by
    rw [hv2]
    simp only [List.length_append, List.length_cons]
   have e1 : l = (P ++ Y1) ++ x :: (X3 ++ M ++ X1 ++ y :: Y3 ++ S) := by rw [hl]; simp
   have e2 : l = (P ++ Y1 ++ x :: X3 ++ M ++ X1) ++ y :: (Y3 ++ S) := by rw [hl]; simp
   have HX : Hid (l[u]? = some x) := Lib.hid (by rw [e1]; exact at_mid _ _ _ _ hu2)
   have HY : Hid (l[v]? = some y) := Lib.hid (by rw [e2]; exact at_mid _ _ _ _ hv2)
   have HFIN : Hid (swapAt l u v x y = P ++ (Y1 ++ [y]) ++ X3 ++ M ++ (X1 ++ [x]) ++ Y3 ++ S) := Lib.hid (by
    unfold swapAt
    rw [e1, set_mid _ _ _ _ _ hu2, show (P ++ Y1) ++ y :: (X3 ++ M ++ X1 ++ y :: Y3 ++ S) = (P ++ Y1 ++ y :: X3 ++ M ++ X1) ++ y :: (Y3 ++ S) by simp, set_mid _ _ _ _ _ hv3]
    simp)
   have HLU : Hid (u < l.length) := Lib.hid (List.getElem?_eq_some_iff.1 HX.out).1
   have HLV : Hid (v < l.length) := Lib.hid (List.getElem?_eq_some_iff.1 HY.out).1
   have HLN : Hid (l.length = N) := Lib.hid (by
    rw [HLEN.out, hl]
    simp only [List.length_append, List.length_cons]
    omega)
   have HUN : Hid (u < N) := Lib.hid (by have h1 := HLU.out; have h2 := HLN.out; omega)
   have HVN : Hid (v < N) := Lib.hid (by have h1 := HLV.out; have h2 := HLN.out; omega)
   have HWU : Hid (IntKind.i64.wrap ((a : Int) + (k : Int)) = (u : Int)) := Lib.hid (by rw [hu, Int.natCast_add]; exact IntWalk.i64_in _ (by have := HB.out; omega))
   have HWV : Hid (IntKind.i64.wrap ((c : Int) + (k : Int)) = (v : Int)) := Lib.hid (by rw [hv, Int.natCast_add]; exact IntWalk.i64_in _ (by have := HB.out; omega))
   have HPN : Hid (X = (X1 ++ [x]) ++ X3 ∧ Y = (Y1 ++ [y]) ++ Y3 ∧ (X1 ++ [x]).length = k + 1 ∧ (Y1 ++ [y]).length = k + 1) := Lib.hid ⟨by rw [hX]; simp, by rw [hY]; simp, by simp [hX1], by simp [hY1]⟩
   rw [← hl] at hrow
   have HSW : Hid (swSt b u v l false false x y wr wr.drew) := Lib.hid ⟨hrow.later (Below.refl _ _).drew, Only.of_below (Below.refl _ _).drew⟩
   have HO := Lib.hid ho
   clear hp hX hY hX1 hY1 hl hu hv hXl hYl hu2 hv2 hv3 e1 e2 hrow ho
   go_wp2_with fail
   refine Reg.region_inv (by kernel_rfl) (fun i => ([some (.slice (some ⟨b, 0, none⟩) N cap), some (.int .i64 (a : Int)), some (.int .i64 (k : Int)), some (.int .i64 (u : Int)), some (.slice (some ⟨b, 0, none⟩) N cap), some (.int .i64 (c : Int)), some (.int .i64 (k : Int)), some (.int .i64 (v : Int)), some (.slice (some ⟨b, 0, none⟩) N cap), some (.int .i64 (c : Int)), some (.int .i64 (k : Int)), some (.int .i64 (v : Int)), some (.pointer (some ⟨b, v * 5, none⟩)), some (.agg #[.int .i64 y.cell, .int .i64 y.version, .int .i64 y.value, .bool y.write, .int .i64 y.new]), some (.slice (some ⟨b, 0, none⟩) N cap), some (.int .i64 (a : Int)), some (.int .i64 (k : Int)), some (.int .i64 (u : Int)), some (.pointer (some ⟨b, u * 5, none⟩)), some (.agg #[.int .i64 x.cell, .int .i64 x.version, .int .i64 x.value, .bool x.write, .int .i64 x.new]), some (.pointer (some ⟨b, u * 5, none⟩)), none, some (.pointer (some ⟨b, v * 5, none⟩)), none] : List (Option Value)).getD i none) (fun D V W => swSt b u v l (D 21) (D 23) x y wr W) (fun V => [(some 16, V 0), (some 17, V 1), (some 18, V 2), (some 19, V 3), (some 20, V 4), (some 21, V 5), (some 22, V 6), (some 23, V 7), (some 24, V 8), (some 25, V 9), (some 26, V 10), (some 27, V 11), (some 28, V 12), (some 29, V 13), (some 30, V 14), (some 31, V 15), (some 32, V 16), (some 33, V 17), (some 34, V 18), (some 35, V 19), (some 36, V 20), (none, V 21), (some 37, V 22), (none, V 23)]) (by kernel_rfl) (by kernel_rfl) (fun V => rfl) ?_ ?_ ?_
   ·intro V
    exact HSW.out
   ·intro i o ho
    have hi : i < 24 := (Array.getElem?_eq_some_iff.1 ho).1
    rcases i with _ | _ | _ | _ | _ | _ | _ | _ | _ | _ | _ | _ | _ | _ | _ | _ | _ | _ | _ | _ | _ | _ | _ | _ | i
    rotate_right
    ·omega
    all_goals obtain rfl := Option.some.inj ho
    all_goals intro D V ρ wi hE hI hDi hT hF hs hd hk
    ·have e0 : ρ (.tmp 0) = .slice (some ⟨b, 0, none⟩) N cap := hs 0; clear hT hF hk
     exact Reg.Gives.value (v := .slice (some ⟨b, 0, none⟩) N cap) (w' := wi) (by go_simp) ⟨fun x h => Option.some.inj h, hI⟩
    ·have e1 : ρ (.tmp 1) = .int .i64 (a : Int) := hs 1; clear hT hF hk
     exact Reg.Gives.value (v := .int .i64 (a : Int)) (w' := wi) (by go_simp) ⟨fun x h => Option.some.inj h, hI⟩
    ·have e10 : ρ (.tmp 10) = .int .i64 (k : Int) := hs 10; clear hT hF hk
     exact Reg.Gives.value (v := .int .i64 (k : Int)) (w' := wi) (by go_simp) ⟨fun x h => Option.some.inj h, hI⟩
    ·have e17 : ρ (.tmp 17) = .int .i64 (a : Int) := (hd 1 17).trans (hk 1 _ rfl); have e18 : ρ (.tmp 18) = .int .i64 (k : Int) := (hd 2 18).trans (hk 2 _ rfl); clear hT hF hk; have hx1 := HWU.out
     exact Reg.Gives.value (v := .int .i64 (u : Int)) (w' := wi) (by go_simp) ⟨fun x h => Option.some.inj h, hI⟩
    ·have e0 : ρ (.tmp 0) = .slice (some ⟨b, 0, none⟩) N cap := hs 0; clear hT hF hk
     exact Reg.Gives.value (v := .slice (some ⟨b, 0, none⟩) N cap) (w' := wi) (by go_simp) ⟨fun x h => Option.some.inj h, hI⟩
    ·have e2 : ρ (.tmp 2) = .int .i64 (c : Int) := hs 2; clear hT hF hk
     exact Reg.Gives.value (v := .int .i64 (c : Int)) (w' := wi) (by go_simp) ⟨fun x h => Option.some.inj h, hI⟩
    ·have e10 : ρ (.tmp 10) = .int .i64 (k : Int) := hs 10; clear hT hF hk
     exact Reg.Gives.value (v := .int .i64 (k : Int)) (w' := wi) (by go_simp) ⟨fun x h => Option.some.inj h, hI⟩
    ·have e21 : ρ (.tmp 21) = .int .i64 (c : Int) := (hd 5 21).trans (hk 5 _ rfl); have e22 : ρ (.tmp 22) = .int .i64 (k : Int) := (hd 6 22).trans (hk 6 _ rfl); clear hT hF hk; have hx1 := HWV.out
     exact Reg.Gives.value (v := .int .i64 (v : Int)) (w' := wi) (by go_simp) ⟨fun x h => Option.some.inj h, hI⟩
    ·have e0 : ρ (.tmp 0) = .slice (some ⟨b, 0, none⟩) N cap := hs 0; clear hT hF hk
     exact Reg.Gives.value (v := .slice (some ⟨b, 0, none⟩) N cap) (w' := wi) (by go_simp) ⟨fun x h => Option.some.inj h, hI⟩
    ·have e2 : ρ (.tmp 2) = .int .i64 (c : Int) := hs 2; clear hT hF hk
     exact Reg.Gives.value (v := .int .i64 (c : Int)) (w' := wi) (by go_simp) ⟨fun x h => Option.some.inj h, hI⟩
    ·have e10 : ρ (.tmp 10) = .int .i64 (k : Int) := hs 10; clear hT hF hk
     exact Reg.Gives.value (v := .int .i64 (k : Int)) (w' := wi) (by go_simp) ⟨fun x h => Option.some.inj h, hI⟩
    ·have e25 : ρ (.tmp 25) = .int .i64 (c : Int) := (hd 9 25).trans (hk 9 _ rfl); have e26 : ρ (.tmp 26) = .int .i64 (k : Int) := (hd 10 26).trans (hk 10 _ rfl); clear hT hF hk; have hx1 := HWV.out
     exact Reg.Gives.value (v := .int .i64 (v : Int)) (w' := wi) (by go_simp) ⟨fun x h => Option.some.inj h, hI⟩
    ·have e24 : ρ (.tmp 24) = .slice (some ⟨b, 0, none⟩) N cap := (hd 8 24).trans (hk 8 _ rfl); have e27 : ρ (.tmp 27) = .int .i64 (v : Int) := (hd 11 27).trans (hk 11 _ rfl); clear hT hF hk; have hx1 := HVN.out
     exact Reg.Gives.value (v := .pointer (some ⟨b, v * 5, none⟩)) (w' := wi) (by go_simp) ⟨fun x h => Option.some.inj h, hI⟩
    ·have e28 : ρ (.tmp 28) = .pointer (some ⟨b, v * 5, none⟩) := (hd 12 28).trans (hk 12 _ rfl); have hD21 : D 21 = false := hF 1 21; have hD23 : D 23 = false := hF 1 23; clear hT hF
     rw [hD21, hD23] at hI
     have hr : Row wi b l := hI.row; have hit := hr.item HY.out; have c0 := hit.cell; have c1 := hit.version; have c2 := hit.value; have c3 := hit.write; have c4 := hit.new
     exact Reg.Gives.value (v := .agg #[.int .i64 y.cell, .int .i64 y.version, .int .i64 y.value, .bool y.write, .int .i64 y.new]) (w' := wi) (by go_simp) ⟨fun x h => Option.some.inj h, by show swSt b u v l (D 21) (D 23) x y wr wi; rw [hD21, hD23]; exact hI⟩
    ·have e0 : ρ (.tmp 0) = .slice (some ⟨b, 0, none⟩) N cap := hs 0; clear hT hF hk
     exact Reg.Gives.value (v := .slice (some ⟨b, 0, none⟩) N cap) (w' := wi) (by go_simp) ⟨fun x h => Option.some.inj h, hI⟩
    ·have e1 : ρ (.tmp 1) = .int .i64 (a : Int) := hs 1; clear hT hF hk
     exact Reg.Gives.value (v := .int .i64 (a : Int)) (w' := wi) (by go_simp) ⟨fun x h => Option.some.inj h, hI⟩
    ·have e10 : ρ (.tmp 10) = .int .i64 (k : Int) := hs 10; clear hT hF hk
     exact Reg.Gives.value (v := .int .i64 (k : Int)) (w' := wi) (by go_simp) ⟨fun x h => Option.some.inj h, hI⟩
    ·have e31 : ρ (.tmp 31) = .int .i64 (a : Int) := (hd 15 31).trans (hk 15 _ rfl); have e32 : ρ (.tmp 32) = .int .i64 (k : Int) := (hd 16 32).trans (hk 16 _ rfl); clear hT hF hk; have hx1 := HWU.out
     exact Reg.Gives.value (v := .int .i64 (u : Int)) (w' := wi) (by go_simp) ⟨fun x h => Option.some.inj h, hI⟩
    ·have e30 : ρ (.tmp 30) = .slice (some ⟨b, 0, none⟩) N cap := (hd 14 30).trans (hk 14 _ rfl); have e33 : ρ (.tmp 33) = .int .i64 (u : Int) := (hd 17 33).trans (hk 17 _ rfl); clear hT hF hk; have hx1 := HUN.out
     exact Reg.Gives.value (v := .pointer (some ⟨b, u * 5, none⟩)) (w' := wi) (by go_simp) ⟨fun x h => Option.some.inj h, hI⟩
    ·have e34 : ρ (.tmp 34) = .pointer (some ⟨b, u * 5, none⟩) := (hd 18 34).trans (hk 18 _ rfl); have hD21 : D 21 = false := hF 1 21; have hD23 : D 23 = false := hF 1 23; clear hT hF
     rw [hD21, hD23] at hI
     have hr : Row wi b l := hI.row; have hit := hr.item HX.out; have c0 := hit.cell; have c1 := hit.version; have c2 := hit.value; have c3 := hit.write; have c4 := hit.new
     exact Reg.Gives.value (v := .agg #[.int .i64 x.cell, .int .i64 x.version, .int .i64 x.value, .bool x.write, .int .i64 x.new]) (w' := wi) (by go_simp) ⟨fun x h => Option.some.inj h, by show swSt b u v l (D 21) (D 23) x y wr wi; rw [hD21, hD23]; exact hI⟩
    ·have e16 : ρ (.tmp 16) = .slice (some ⟨b, 0, none⟩) N cap := (hd 0 16).trans (hk 0 _ rfl); have e19 : ρ (.tmp 19) = .int .i64 (u : Int) := (hd 3 19).trans (hk 3 _ rfl); clear hT hF hk; have hx1 := HUN.out
     exact Reg.Gives.value (v := .pointer (some ⟨b, u * 5, none⟩)) (w' := wi) (by go_simp) ⟨fun x h => Option.some.inj h, hI⟩
    ·have e36 : ρ (.tmp 36) = .pointer (some ⟨b, u * 5, none⟩) := (hd 20 36).trans (hk 20 _ rfl); have e29 : ρ (.tmp 29) = .agg #[.int .i64 y.cell, .int .i64 y.version, .int .i64 y.value, .bool y.write, .int .i64 y.new] := (hd 13 29).trans (hk 13 _ rfl); have hD21 : D 21 = false := hDi; have hD23 : D 23 = false := hF 1 23; clear hT hF
     rw [hD21, hD23] at hI
     have hr : Row wi b l := hI.row; have hl := HLU.out; have hit := hr.at_ hl; have c0 := hit.cell; have c1 := hit.version; have c2 := hit.value; have c3 := hit.write; have c4 := hit.new
     have f0 : wi.frozen? ⟨b, u * 5, none⟩ = false := hr.frozen hl 0 (by decide)
     have f1 : wi.frozen? ⟨b, u * 5 + 1, none⟩ = false := hr.frozen hl 1 (by decide)
     have f2 : wi.frozen? ⟨b, u * 5 + 2, none⟩ = false := hr.frozen hl 2 (by decide)
     have f3 : wi.frozen? ⟨b, u * 5 + 3, none⟩ = false := hr.frozen hl 3 (by decide)
     have f4 : wi.frozen? ⟨b, u * 5 + 4, none⟩ = false := hr.frozen hl 4 (by decide)
     clear hr hit
     exact Reg.Gives.skip (w' := put5 wi b (u * 5) y) (by unfold put5; go_simp) ⟨fun x h => (by cases h), by show swSt b u v l true (D 23) x y wr _; rw [hD23]; exact hI.put1 hl⟩
    ·have e20 : ρ (.tmp 20) = .slice (some ⟨b, 0, none⟩) N cap := (hd 4 20).trans (hk 4 _ rfl); have e23 : ρ (.tmp 23) = .int .i64 (v : Int) := (hd 7 23).trans (hk 7 _ rfl); clear hT hF hk; have hx1 := HVN.out
     exact Reg.Gives.value (v := .pointer (some ⟨b, v * 5, none⟩)) (w' := wi) (by go_simp) ⟨fun x h => Option.some.inj h, hI⟩
    ·have e37 : ρ (.tmp 37) = .pointer (some ⟨b, v * 5, none⟩) := (hd 22 37).trans (hk 22 _ rfl); have e35 : ρ (.tmp 35) = .agg #[.int .i64 x.cell, .int .i64 x.version, .int .i64 x.value, .bool x.write, .int .i64 x.new] := (hd 19 35).trans (hk 19 _ rfl); have hD21 : D 21 = true := hT 1 21; have hD23 : D 23 = false := hDi; clear hT hF
     rw [hD21, hD23] at hI
     have hr : Row wi b (l.set u y) := hI.row
     have hl : v < (l.set u y).length := by rw [List.length_set]; exact HLV.out
     have hit := hr.at_ hl; have c0 := hit.cell; have c1 := hit.version; have c2 := hit.value; have c3 := hit.write; have c4 := hit.new
     have f0 : wi.frozen? ⟨b, v * 5, none⟩ = false := hr.frozen hl 0 (by decide)
     have f1 : wi.frozen? ⟨b, v * 5 + 1, none⟩ = false := hr.frozen hl 1 (by decide)
     have f2 : wi.frozen? ⟨b, v * 5 + 2, none⟩ = false := hr.frozen hl 2 (by decide)
     have f3 : wi.frozen? ⟨b, v * 5 + 3, none⟩ = false := hr.frozen hl 3 (by decide)
     have f4 : wi.frozen? ⟨b, v * 5 + 4, none⟩ = false := hr.frozen hl 4 (by decide)
     clear hr hit
     exact Reg.Gives.skip (w' := put5 wi b (v * 5) x) (by unfold put5; go_simp) ⟨fun x h => (by cases h), by show swSt b u v l (D 21) true x y wr _; rw [hD21]; exact hI.put2 HLV.out⟩
   ·intro V w1 hk hI
    simp only [Reg.putsO, List.foldl_cons, List.foldl_nil, Act.put, List.setIfInBounds_toArray, List.set_cons_succ, List.set_cons_zero]
    replace hI : swSt b u v l true true x y wr w1 := hI
    clear hk
    have hrow := hI.row
    simp only [cond_true] at hrow
    rw [HFIN.out] at hrow
    have HROW := Lib.hid hrow
    have HON := Lib.hid (HO.out.trans hI.only fun _ _ e => e)
    clear hrow hI
    go_wp2_with fail
    go_roundw
    case rel => exact ⟨k + 1, X1 ++ [x], X3, Y1 ++ [y], Y3, by omega, by go_num, HPN, HROW.out, HON.out⟩
    case measure => simp [intOf]; omega
  ·have HFIN : Hid (Row wr b (P ++ Y ++ M ++ X ++ S)) := Lib.hid (by
    obtain ⟨hX, hY, hX1, hY1⟩ := hp.out
    have hXl := HXL.out
    have hYl := HYL.out
    rw [hX, List.length_append] at hXl
    rw [hY, List.length_append] at hYl
    obtain rfl : X2 = [] := List.eq_nil_of_length_eq_zero (by omega)
    obtain rfl : Y2 = [] := List.eq_nil_of_length_eq_zero (by omega)
    rw [List.append_nil] at hX hY
    rw [hX, hY]
    simpa using hrow)
   have HO := Lib.hid ho
   clear hp hrow ho
   go_wp2_with fail
   go_returns
   exact ⟨rfl, HFIN.out, HO.out⟩
end Go.Proofs.Ytjeogeablbkhgaa.Item
