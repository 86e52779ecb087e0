/-
  ItemJoins is proved: all items of two lists, by their cells, are what the document says, and each is found; nothing is written into. Conditions: none.
-/
import Derived.Test.YtdmncoemgaighaaSortRef
import Derived.Test.YtdmncoemgaighaaItemSame
import Derived.Test.YtdmncoemgaighaaItemAwake
namespace Go.Proofs.Ytdmncoemgaighaa.ItemJoins
set_option maxRecDepth 100000
open Go.ChangeShapes Go.WideShapes Go.ChangeAt Go.RowKit Go.Proofs.Ytdmncoemgaighaa.Mem Go.Proofs.Ytdmncoemgaighaa.Wire Go.Proofs.Ytdmncoemgaighaa.Item

theorem own_items {w : World} {base : Nat} {v : Value} {l : List It} (h : w.ownsRow base 29 5 v l.length (flat l)) : ∃ A c, v = .slice A l.length c ∧ Items w A l ∧ (A = none → c = 0) := by
  by_cases h0 : 0 < l.length
  · obtain ⟨g, c, rfl⟩ := own_some h h0
    obtain ⟨hr, _, _⟩ := row_of_own h
    exact ⟨_, c, rfl, row_items hr, fun e => by cases e⟩
  · have hl : l = [] := List.length_eq_zero_iff.1 (by omega)
    subst hl
    rcases h.2 with ⟨h1, _⟩ | ⟨g, c, cur, h1, _⟩
    · exact ⟨none, 0, h1, items_nil _ _, fun _ => rfl⟩
    · exact ⟨_, c, h1, items_nil _ _, fun e => by cases e⟩
theorem cells_items {w : World} {b : Nat} {L : List It} {ms : List Value} (h : Cells w b 29 (flat L ++ ms)) : Items w (some ⟨b, 0, none⟩) L := fun k hk => by
  have hx : ∀ j (hj : j < 5), (flat L ++ ms)[k * 5 + j]? = L[k].vals[j]? := fun j hj => by
    rw [List.getElem?_append_left (by rw [flat_len]; omega)]
    exact flat_at L k hk j hj
  refine ⟨b, 0, rfl, ?_⟩
  rw [Nat.zero_add]
  exact ⟨h.cell (j := k * 5) (hx 0 (by omega)), h.cell (hx 1 (by omega)), h.cell (hx 2 (by omega)), h.cell (hx 3 (by omega)), h.cell (hx 4 (by omega))⟩
theorem join_items {w w' : World} {L : List It} {A : Option Addr} {c : Nat} (h : (L = [] ∧ A = none ∧ c = 0) ∨ ∃ b ms, A = some ⟨b, 0, none⟩ ∧ w.heap.size ≤ b ∧ L.length ≤ c ∧ Cells w' b 29 (flat L ++ ms)) : Items w' A L := by
  rcases h with ⟨rfl, _, _⟩ | ⟨b, ms, rfl, _, _, h⟩
  · exact items_nil _ _
  · exact cells_items h
theorem same_any (A B : Option Addr) (l : List It) (c d : Nat) (w : World) (ha : Items w A l) (hb : Items w B l) (hl : l.length ≤ 1000000) :
    Calls Try.prog 8 #[.slice A l.length c, .slice B l.length d] w fun e w' => e = .returned (.bool true) ∧ Below w.heap.size w w' :=
  (sameItems_any A B l l c d w ha hb hl).mono fun _ _ h => ⟨by rw [h.1, decide_eq_true rfl], h.2⟩
theorem lists_nil (w : World) (O : Option Addr) : Lists w O [] := fun k hk => absurd hk (by simp)
theorem lists_one {w : World} {g : Nat} {A : Option Addr} {c : Nat} {l : List It} {t : TypeId} (h : Cells w g t [.slice A l.length c]) (hi : Items w A l) (hc : A = none → c = 0) : Lists w (some ⟨g, 0, none⟩) [(A, c, l)] := fun k hk => by
  have hk0 : k = 0 := by simp at hk; omega
  subst hk0
  exact ⟨g, 0, rfl, h.cell (j := 0) rfl, hi, hc⟩
theorem lists_two {w : World} {g : Nat} {A B : Option Addr} {c d : Nat} {l m : List It} {t : TypeId} (h : Cells w g t [.slice A l.length c, .slice B m.length d]) (hi : Items w A l) (hc : A = none → c = 0) (hj : Items w B m) (hd : B = none → d = 0) : Lists w (some ⟨g, 0, none⟩) [(A, c, l), (B, d, m)] := fun k hk => by
  rcases (show k = 0 ∨ k = 1 by simp at hk; omega) with rfl | rfl
  · exact ⟨g, 0, rfl, h.cell (j := 0) rfl, hi, hc⟩
  · exact ⟨g, 0, rfl, h.cell (j := 1) rfl, hj, hd⟩
theorem isJoin_nil : IsJoin [] [] := ⟨List.Pairwise.nil, fun _ => rfl⟩
/-- While values are counted up: what the block still holds. -/
def Ups (w : World) (A : Option Addr) (n : Nat) (wr : World) : Prop := n = 0 ∨ ∃ b xs, A = some ⟨b, 0, none⟩ ∧ w.heap.size ≤ b ∧ (∀ j, j < n → ∃ z, xs[j * 5 + 2]? = some (.int .i64 z)) ∧ Cells wr b 29 xs
theorem Ups.start {w w' : World} {L : List It} {A : Option Addr} {c : Nat} {w0 : World} (h : (L = [] ∧ A = none ∧ c = 0) ∨ ∃ b ms, A = some ⟨b, 0, none⟩ ∧ w.heap.size ≤ b ∧ L.length ≤ c ∧ Cells w' b 29 (flat L ++ ms)) (h0 : w0.heap.size ≤ w.heap.size) : Ups w0 A L.length w' := by
  rcases h with ⟨rfl, _, _⟩ | ⟨b, ms, rfl, hb, _, h⟩
  · exact Or.inl rfl
  · refine Or.inr ⟨b, _, rfl, Nat.le_trans h0 hb, fun j hj => ⟨L[j].value, ?_⟩, h⟩
    rw [List.getElem?_append_left (by rw [flat_len]; omega)]
    exact flat_at L j hj 2 (by omega)
theorem Ups.later {w wr wr' : World} {A : Option Addr} {n : Nat} (h : Ups w A n wr) (hb : Below wr.heap.size wr wr') : Ups w A n wr' := by
  rcases h with h | ⟨b, xs, h1, h2, h3, h4⟩
  · exact Or.inl h
  · exact Or.inr ⟨b, xs, h1, h2, h3, h4.later hb⟩

set_option maxHeartbeats 3000000 in
theorem walk (A B : Option Addr) (la lb : List It) (ca cb : Nat) (c : Int) (w : World) (hA : Items w A la) (hB : Items w B lb) (hcA : A = none → ca = 0) (hcB : B = none → cb = 0) (hla : la.length ≤ maxLen) (hlb : lb.length ≤ maxLen) :
    Calls Try.prog 3 #[.slice A la.length ca, .slice B lb.length cb, .int .i64 c] w fun e w' => e = .returned (.bool true) ∧ Below w.heap.size w w' := by
  unfold maxLen at hla hlb
  obtain ⟨na, hna⟩ : ∃ n, la.length = n := ⟨_, rfl⟩
  obtain ⟨nb, hnb⟩ : ∃ n, lb.length = n := ⟨_, rfl⟩
  have HNA := Lib.hid (And.intro hna hnb)
  have HIA := Lib.hid hA
  have HIB := Lib.hid hB
  have HCA := Lib.hid (And.intro hcA hcB)
  have HAW := Lib.hid (awake_any w)
  rw [hna] at hla ⊢
  rw [hnb] at hlb ⊢
  clear hA hB hcA hcB hna hnb
  go_enter Try.func3, Try.ntmps3
  go_wp2_with fail
  refine HAW.out.mono ?_
  rintro e w1 ⟨rfl, hb1⟩
  have HB1 := Lib.hid hb1
  have HA1 := Lib.hid (HIA.out.later hb1)
  have HD1 := Lib.hid (HIB.out.later hb1)
  clear hb1 HAW HIA HIB
  by_cases h1 : 60 < na
  · go_wp2_with fail
    go_returns
    exact ⟨rfl, HB1.out⟩
  by_cases h2 : 60 < nb
  · go_wp2_with fail
    go_returns
    exact ⟨rfl, HB1.out⟩
  -- the copies
  obtain ⟨wB1, hwB1⟩ : ∃ v, v = w1.alloc (.cells #[] 29) := ⟨_, rfl⟩
  have hbB1 : Below w1.heap.size w1 wB1 := by rw [hwB1]; exact below_alloc _ _
  have ho1 : wB1.ownsRow w1.heap.size 29 5 (.slice (some ⟨w1.heap.size, 0, none⟩) 0 0) 0 [] := by
    rw [hwB1]
    exact World.ownsRow_made (base := w1.heap.size) (e := 29) (size := 5) w1 #[] 0 (Nat.le_refl _) (Nat.zero_le _) rfl
  obtain ⟨v1, w2, hrun1, hrow1, hg1, _⟩ := run_append_items wB1 22 w1.heap.size _ [] la A ca ho1 (HA1.out.later hbB1) HCA.out.1 (by have := HNA.out; simp only [List.length_nil]; omega) hbB1.size
  have hb2 : Below w1.heap.size w1 w2 := Below.grown hbB1 hg1 hbB1.size (fun k hk => (ho1.lt k hk).1)
  obtain ⟨wB2, hwB2⟩ : ∃ v, v = w2.alloc (.cells #[] 29) := ⟨_, rfl⟩
  have hbB2 : Below w2.heap.size w2 wB2 := by rw [hwB2]; exact below_alloc _ _
  have ho2 : wB2.ownsRow w2.heap.size 29 5 (.slice (some ⟨w2.heap.size, 0, none⟩) 0 0) 0 [] := by
    rw [hwB2]
    exact World.ownsRow_made (base := w2.heap.size) (e := 29) (size := 5) w2 #[] 0 (Nat.le_refl _) (Nat.zero_le _) rfl
  obtain ⟨v2, w3, hrun2, hrow2, hg2, _⟩ := run_append_items wB2 22 w2.heap.size _ [] lb B cb ho2 ((HD1.out.later hb2).later hbB2) HCA.out.2 (by have := HNA.out; simp only [List.length_nil]; omega) hbB2.size
  have hb3 : Below w2.heap.size w2 w3 := Below.grown hbB2 hg2 hbB2.size (fun k hk => (ho2.lt k hk).1)
  rw [List.nil_append] at hrow1 hrow2
  obtain ⟨V1, c1, rfl, hi1, hn1⟩ := own_items (row_only hrow1 (Only.of_below hb3) (fun _ _ hh => hh))
  obtain ⟨V2, c2, rfl, hi2, hn2⟩ := own_items hrow2
  rw [HNA.out.1] at hrun1
  rw [HNA.out.2] at hrun2
  have HRUN1 := Lib.hid hrun1
  have HRUN2 := Lib.hid hrun2
  have HB3 := Lib.hid (HB1.out.trans ((hb2.trans (hb3.mono hb2.size)).mono HB1.out.size))
  have HIV := Lib.hid (And.intro hi1 hi2)
  have HCV := Lib.hid (And.intro hn1 hn2)
  have HA3 := Lib.hid ((HA1.out.later hb2).later hb3)
  have HD3 := Lib.hid ((HD1.out.later hb2).later hb3)
  obtain ⟨w4, hw4⟩ : ∃ v, v = w3.alloc (.cells #[.slice A na ca, .slice B nb cb] 22) := ⟨_, rfl⟩
  have hb4 : Below w3.heap.size w3 w4 := by rw [hw4]; exact below_alloc _ _
  have hce : Cells w4 w3.heap.size 22 [.slice A la.length ca, .slice B lb.length cb] := by
    rw [HNA.out.1, HNA.out.2, hw4]
    exact cells_new w3 _ _ _ rfl
  have HJ := Lib.hid (join_any (some ⟨w3.heap.size, 0, none⟩) [(A, ca, la), (B, cb, lb)] 2 w4 (lists_two hce (HA3.out.later hb4) HCA.out.1 (HD3.out.later hb4) HCA.out.2) (by show 2 ≤ 100; decide) (by have := HNA.out; simp [allOf]; omega))
  have HB4 := Lib.hid hb4
  clear hbB1 ho1 hrun1 hrow1 hg1 hb2 hbB2 ho2 hrun2 hrow2 hg2 hb3 hi1 hi2 hn1 hn2 hb4 hce HA1 HD1
  go_wp2_with (at_builtin
               first
                 | (rw [← hwB1]
                    refine Lib.wpList_append_run wB1 rfl (.tmp 22) (.tmp 23) 22 22 rfl (.slice (some ⟨w1.heap.size, 0, none⟩) 0 0) (.slice A na ca) rfl rfl _ _ HRUN1.out ?_)
                 | (rw [← hwB2]
                    refine Lib.wpList_append_run wB2 rfl (.tmp 25) (.tmp 26) 22 22 rfl (.slice (some ⟨w2.heap.size, 0, none⟩) 0 0) (.slice B nb cb) rfl rfl _ _ HRUN2.out ?_))
  rw [← hw4]
  refine HJ.out.mono ?_
  rintro e w5 ⟨⟨v, rfl, hjo⟩, hb5⟩
  obtain ⟨L, A9, c9, hL, rfl, hcase⟩ := hjo
  have hall : allOf [(A, ca, la), (B, cb, lb)] = la ++ lb := by simp [allOf]
  rw [hall] at hL
  have HL := Lib.hid hL
  have HB5 : Hid (Below w3.heap.size w3 w5) := Lib.hid (HB4.out.trans (hb5.mono HB4.out.size))
  have HUP : Hid (Ups w3 A9 L.length w5) := Lib.hid (Ups.start hcase HB4.out.size)
  have HI9 := Lib.hid (join_items hcase)
  have HR := Lib.hid (refJoin_any V1 V2 la lb c1 c2 w5 (HIV.out.1.later HB5.out) (HIV.out.2.later HB5.out) HCV.out.1 HCV.out.2 (by have := HNA.out; omega) (by have := HNA.out; omega))
  rw [HNA.out.1, HNA.out.2] at HR
  obtain ⟨n9, hn9⟩ : ∃ n, L.length = n := ⟨_, rfl⟩
  have HN9 := Lib.hid hn9
  rw [hn9]
  clear hL hb5 hcase hall HJ hn9 hw4 hwB1 hwB2
  go_wp2_with fail
  refine HR.out.mono ?_
  rintro e w6 ⟨⟨v, M, rfl, hM, hlen, hrow⟩, hb6⟩
  have hML : M = L := hM.eq HL.out
  rw [hML] at hrow hlen
  obtain ⟨V3, c3, rfl, hi3, hn3⟩ := own_items hrow
  have hn9' : n9 ≤ 120 := by have := HN9.out; omega
  have HS1 := Lib.hid (same_any A9 V3 L c9 c3 w6 (HI9.out.later hb6) hi3 (by omega))
  have HB6 : Hid (Below w3.heap.size w3 w6) := Lib.hid (HB5.out.trans (hb6.mono HB5.out.size))
  have HU6 : Hid (Ups w3 A9 n9 w6) := Lib.hid (by rw [← HN9.out]; exact HUP.out.later hb6)
  have HI6 := Lib.hid (And.intro (HI9.out.later hb6) hi3)
  have HL9 := Lib.hid hlen
  rw [HN9.out] at HS1 ⊢
  clear hM hML hrow hlen hi3 hn3 hb6 HR HI9 HUP
  go_wp2_with fail
  refine HS1.out.mono ?_
  rintro e w7 ⟨rfl, hb7⟩
  obtain ⟨F1, hF1⟩ : ∃ F, findI L c = F := ⟨_, rfl⟩
  obtain ⟨F2, hF2⟩ : ∃ F, findI la c = F := ⟨_, rfl⟩
  have HFF := Lib.hid (And.intro hF1 hF2)
  have HF1 := Lib.hid (find_any A9 L c9 c w7 (HI6.out.1.later hb7) (by have := HN9.out; omega))
  have HI7 := Lib.hid (HI6.out.2.later hb7)
  have HB7 : Hid (Below w3.heap.size w3 w7) := Lib.hid (HB6.out.trans (hb7.mono HB6.out.size))
  have HU7 := Lib.hid (HU6.out.later hb7)
  rw [HN9.out, hF1] at HF1
  clear hb7 HS1 HI6 HB6 HU6 hF1 hF2
  go_wp2_with fail
  refine HF1.out.mono ?_
  rintro e w8 ⟨rfl, hb8⟩
  have HF2 := Lib.hid (refFind_any V3 L c3 c w8 (HI7.out.later hb8) (by have := HN9.out; omega))
  have HB8 : Hid (Below w3.heap.size w3 w8) := Lib.hid (HB7.out.trans (hb8.mono HB7.out.size))
  have HU8 := Lib.hid (HU7.out.later hb8)
  rw [HN9.out, HFF.out.1] at HF2
  clear hb8 HF1 HI7 HB7 HU7
  go_wp2_with fail
  refine HF2.out.mono ?_
  rintro e wz ⟨rfl, rfl⟩
  have HF3 := Lib.hid (find_any A la ca c w8 (HA3.out.later HB8.out) (by have := HNA.out; omega))
  rw [HNA.out.1, HFF.out.2] at HF3
  clear HF2
  go_wp2_with fail
  refine HF3.out.mono ?_
  rintro e w9 ⟨rfl, hb9⟩
  have HB9 : Hid (Below w3.heap.size w3 w9) := Lib.hid (HB8.out.trans (hb9.mono HB8.out.size))
  have HU9 := Lib.hid (HU8.out.later hb9)
  have HF4 := Lib.hid (refFind_any V1 la c1 c w9 (HIV.out.1.later HB9.out) (by have := HNA.out; omega))
  rw [HNA.out.1, HFF.out.2] at HF4
  clear hb9 HF3 HB8 HU8
  go_wp2_with fail
  refine HF4.out.mono ?_
  rintro e wz ⟨rfl, rfl⟩
  clear HF4
  go_wp2_with fail
  go_loopw [11, 59] (fun _ i wr => ∃ k : Nat, k ≤ n9 ∧ i = .int .i64 (k : Int) ∧ Hid (Below w3.heap.size w3 wr) ∧ Hid (Ups w3 A9 n9 wr)) (fun _ i _ => n9 - (intOf i).toNat)
  case atStart => exact ⟨0, Nat.zero_le _, rfl, HB9, HU9⟩
  case round =>
    obtain ⟨k, hk, rfl, HBR, HUR⟩ := hrel
    by_cases hlt : k < n9
    · obtain ⟨b, xs, rfl, hb, hx, hc⟩ := HUR.out.resolve_left (by omega)
      obtain ⟨z, hz⟩ := hx k hlt
      have z0 := hc.cell hz
      have z1 := hc.frozen (List.getElem?_eq_some_iff.1 hz).1
      have HCX := Lib.hid hc
      have HXX := Lib.hid hx
      clear hc hx hz
      go_wp2_with fail
      go_roundw
      case rel =>
        refine ⟨k + 1, hlt, by go_num, Lib.hid (HBR.out.trans ((Only.of_set wr ⟨b, k * 5 + 2, none⟩ _).below HBR.out.size (fun j e => by rw [e]; exact hb))), Lib.hid (Or.inr ⟨b, _, rfl, hb, fun j hj => ?_, HCX.out.set_ (k * 5 + 2) _⟩)⟩
        obtain ⟨y, hy⟩ := HXX.out j hj
        rw [List.getElem?_set]
        by_cases e : k * 5 + 2 = j * 5 + 2
        · rw [if_pos e, if_pos (by rw [e]; exact (List.getElem?_eq_some_iff.1 hy).1)]
          exact ⟨_, rfl⟩
        · rw [if_neg e]
          exact ⟨y, hy⟩
      case measure => simp [intOf]; omega
    · have HSA := Lib.hid (same_any A V1 la ca c1 wr (HA3.out.later HBR.out) (HIV.out.1.later HBR.out) (by have := HNA.out; omega))
      rw [HNA.out.1] at HSA
      clear HUR
      go_wp2_with fail
      refine HSA.out.mono ?_
      rintro e x1 ⟨rfl, hb1⟩
      have HX1 : Hid (Below w3.heap.size w3 x1) := Lib.hid (HBR.out.trans (hb1.mono HBR.out.size))
      have HSB := Lib.hid (same_any B V2 lb cb c2 x1 (HD3.out.later HX1.out) (HIV.out.2.later HX1.out) (by have := HNA.out; omega))
      rw [HNA.out.2] at HSB
      clear hb1 HSA HBR
      go_wp2_with fail
      refine HSB.out.mono ?_
      rintro e x2 ⟨rfl, hb2⟩
      have HX2 : Hid (Below w3.heap.size w3 x2) := Lib.hid (HX1.out.trans (hb2.mono HX1.out.size))
      have HJ0 := Lib.hid (join_any none [] 0 x2 (lists_nil _ _) (by decide) (by decide))
      clear hb2 HSB HX1
      go_wp2_with fail
      refine HJ0.out.mono ?_
      rintro e x3 ⟨⟨v, rfl, hjo⟩, hb3⟩
      obtain ⟨L0, A0, c0, hL0, rfl, _⟩ := hjo
      have hnil : L0 = [] := IsJoin.eq hL0 isJoin_nil
      subst hnil
      have HX3 : Hid (Below w3.heap.size w3 x3) := Lib.hid (HX2.out.trans (hb3.mono HX2.out.size))
      obtain ⟨x4, hx4⟩ : ∃ v, v = x3.alloc (.cells #[.slice A na ca] 22) := ⟨_, rfl⟩
      have hb4 : Below x3.heap.size x3 x4 := by rw [hx4]; exact below_alloc _ _
      have HX4 : Hid (Below w3.heap.size w3 x4) := Lib.hid (HX3.out.trans (hb4.mono HX3.out.size))
      have hce : Cells x4 x3.heap.size 22 [.slice A la.length ca] := by
        rw [HNA.out.1, hx4]
        exact cells_new x3 _ _ _ rfl
      have HJ1 := Lib.hid (join_any (some ⟨x3.heap.size, 0, none⟩) [(A, ca, la)] 1 x4 (lists_one hce (HA3.out.later HX4.out) HCA.out.1) (by show 1 ≤ 100; decide) (by have := HNA.out; simp [allOf]; omega))
      clear hb3 hL0 hb4 hce HJ0 HX2
      go_wp2_with fail
      rw [← hx4]
      refine HJ1.out.mono ?_
      rintro e x5 ⟨⟨v, rfl, hjo⟩, hb5⟩
      obtain ⟨L1, A1, d1, hL1, rfl, hcase⟩ := hjo
      have hall : allOf [(A, ca, la)] = la ++ [] := by simp [allOf]
      rw [hall] at hL1
      have HL1 := Lib.hid hL1
      have HX5 : Hid (Below w3.heap.size w3 x5) := Lib.hid (HX4.out.trans (hb5.mono HX4.out.size))
      have HI1 := Lib.hid (join_items hcase)
      have HR1 := Lib.hid (refJoin_any V1 none la [] c1 0 x5 (HIV.out.1.later HX5.out) (items_nil _ _) HCV.out.1 (fun _ => rfl) (by have := HNA.out; omega) (by decide))
      rw [HNA.out.1] at HR1
      obtain ⟨n1, hn1⟩ : ∃ n, L1.length = n := ⟨_, rfl⟩
      have HN1 := Lib.hid hn1
      rw [hn1]
      clear hb5 hL1 hcase hall HJ1 HX3 HX4 hn1 hx4
      go_wp2_with fail
      refine HR1.out.mono ?_
      rintro e x6 ⟨⟨v, M, rfl, hM, hlen, hrow⟩, hb6⟩
      have hML : M = L1 := hM.eq HL1.out
      rw [hML] at hrow hlen
      obtain ⟨V3, c3, rfl, hi3, hn3⟩ := own_items hrow
      have HX6 : Hid (Below w3.heap.size w3 x6) := Lib.hid (HX5.out.trans (hb6.mono HX5.out.size))
      have HS2 := Lib.hid (same_any A1 V3 L1 d1 c3 x6 (HI1.out.later hb6) hi3 (by simp only [List.length_nil] at hlen; omega))
      rw [HN1.out] at HS2 ⊢
      clear hM hML hrow hlen hi3 hn3 hb6 HR1 HI1 HX5
      go_wp2_with fail
      refine HS2.out.mono ?_
      rintro e x7 ⟨rfl, hb7⟩
      have HX7 : Hid (Below w3.heap.size w3 x7) := Lib.hid (HX6.out.trans (hb7.mono HX6.out.size))
      clear hb7 HS2 HX6
      go_wp2_with fail
      go_returns
      exact ⟨rfl, HB3.out.trans (HX7.out.mono HB3.out.size)⟩

theorem opened {H : Type} {enc : TypeId × Value → H} {W : World} {base : Nat} {gs : List (DataW H)} (v0 : Value) (d0 : DataW H) (p0 : List MemPlace) (v1 : Value) (d1 : DataW H) (p1 : List MemPlace) (v2 : Value) (d2 : DataW H) (p2 : List MemPlace)
    (o0 : Value.okWide Try.prog W .any base 22 v0) (t0 : DataW.Trod enc Try.prog W 0 (fun _ => true) true 22 v0 d0 p0)
    (o1 : Value.okWide Try.prog W .any base 22 v1) (t1 : DataW.Trod enc Try.prog W 0 (fun _ => true) true 22 v1 d1 p1)
    (o2 : Value.okWide Try.prog W .any base 3 v2) (t2 : DataW.Trod enc Try.prog W 0 (fun _ => true) true 3 v2 d2 p2)
    (_hsz : (DataW.weightsEach Try.prog ([22, 22, 3] ++ []) ([d0, d1, d2] ++ gs)).all (· ≤ reachBytes) = true) :
    Calls Try.prog 3 #[v0, v1, v2] W fun e W' => e = .returned (.bool true) ∧ Below W.heap.size W W' := by
  obtain ⟨A, la, ca, rfl, hA, hla, _, hcA⟩ := open_items o0 t0
  obtain ⟨B, lb, cb, rfl, hB, hlb, _, hcB⟩ := open_items o1 t1
  obtain ⟨c, rfl⟩ := okWide_int Try.underlying3 o2
  exact walk A B la lb ca cb c W hA hB hcA.1 hcB.1 hla hlb

theorem contract (H : Type) (enc : TypeId × Value → H) (W : World) (base : Nat) (args : Array Value) (ds gs : List (DataW H)) (before : List MemPlace)
    (hval : ∀ (j : Nat) t v, Try.f3.params[j]? = some t → args[j]? = some v → Value.okWide Try.prog W .any base t v)
    (hW : DataW.Whole enc Try.prog Try.f3.params.toList Rows.itemJoinsSpec.vars false W args.toList ds gs before)
    (hsz : (DataW.weightsEach Try.prog (Try.f3.params.toList ++ []) (ds ++ gs)).all (· ≤ reachBytes) = true) :
    Calls Try.prog 3 args W fun e W' => ∃ v, e = .returned v ∧ Rows.itemJoinsSpec.post enc Try.prog Try.f3 false true false false W args v W' := by
  have hW0 := hW
  obtain ⟨p, q, hA0, hV, rfl, _, _⟩ := hW
  have hA : DataW.TrodAll enc Try.prog W 0 (fun _ => true) true Try.f3.params.toList args.toList ds p := hA0
  rw [Try.params3] at hA hval hsz
  obtain ⟨v0, vs0, d0, ds0, p0, q0, hargs, rfl, rfl, h0, r0⟩ := trodAll_cons hA
  obtain ⟨v1, vs1, d1, ds1, p1, q1, rfl, rfl, rfl, h1, r1⟩ := trodAll_cons r0
  obtain ⟨v2, vs2, d2, ds2, p2, q2, rfl, rfl, rfl, h2, r2⟩ := trodAll_cons r1
  obtain ⟨rfl, rfl, rfl⟩ := trodAll_nil r2
  obtain rfl : args = #[v0, v1, v2] := by cases args; simp_all
  refine (opened v0 d0 p0 v1 d1 p1 v2 d2 p2 (hval 0 22 v0 rfl rfl) h0 (hval 1 22 v1 rfl rfl) h1 (hval 2 3 v2 rfl rfl) h2 hsz).mono fun e W' ⟨he, hb⟩ => ⟨_, he, ?_⟩
  exact Base.law_post (tb := 4) Base.laidOut (by kernel_rfl) rfl Try.underlying4 rfl (fun l hl => by
    rw [Try.params3] at hl
    match l, hl with
    | [_, _, _], _ => rfl) (by rw [Try.params3]; rfl) hW0 hb

theorem laid_met (os : Os) : laidMet Try.prog Rows.itemJoinsRow.laid ((Base.plainWorld os).forCall (fun _ _ => 0) ⟨#[], #[.slice none 0 0, .slice none 0 0, .int .i64 0], []⟩).memory := laidMet_nil _ _
theorem reads (os : Os) {H : Type} (enc : TypeId × Value → H) : ∃ places, DataW.whole enc Try.prog ((Base.plainWorld os).forCall (fun _ _ => 0) ⟨#[], #[.slice none 0 0, .slice none 0 0, .int .i64 0], []⟩).memory Try.f3.params.toList Rows.itemJoinsSpec.vars false (#[.slice none 0 0, .slice none 0 0, .int .i64 0] : Array Value).toList 8 = some ([.nil, .nil, .lit (.int .i64 0)], [], places) :=
  ⟨[], by kernel_rfl⟩

set_option maxRecDepth 100000 in
theorem lifted (os : Os) (started : os.Started) (H : Type) (enc : TypeId × Value → H) (F : Stop.Interp) :
    ReturnsInHanded {} Try.checked os 3 .any ((OpenSpec.ofChange Rows.itemJoinsSpec).preRow enc Try.prog Try.f3 Rows.itemJoinsRow.domain false Rows.itemJoinsRow.laid) (((OpenSpec.ofChange Rows.itemJoinsSpec).at F).post enc Try.prog Try.f3 false true false false) := by
  obtain ⟨places, hx⟩ := reads os enc
  refine returnsInHanded_of_row (C := Try.checked) (s := OpenSpec.ofChange Rows.itemJoinsSpec) Base.own started (by kernel_rfl) Try.func3
    (witness_row_at (enc := enc) (C := Try.checked) false (Base.plainWorld os) #[.slice none 0 0, .slice none 0 0, .int .i64 0] rfl (by kernel_rfl) (by kernel_rfl) (by kernel_rfl)
      (OpenSpec.preRow_of_cond 8 hx (by kernel_rfl) (fun k hk => by cases hk) (by kernel_rfl) (laid_met os))) ?_
  intro W base args ds gs before hval hW _ _ hsz _ _ _
  exact contract H enc W base args ds gs before hval hW hsz

theorem said : Rows.ItemJoinsSaid :=
  OpenClaim.holds_of_cond 3 Try.f3 rfl rfl rfl rfl rfl rfl rfl ⟨rfl, rfl, rfl, rfl, rfl⟩ rfl rfl rfl rfl rfl (by kernel_rfl) Try.func3 (by kernel_rfl)
    (of_decide_eq_true (by kernel_rfl)) (by unfold Func.isWrapper; rw [if_neg (of_decide_eq_false (by kernel_rfl))]; exact ⟨rfl, rfl⟩)
    (fun os started H enc _ F => by rw [OpenClaim.pre_eq_preRow]; exact lifted os started H enc F)
#print axioms said
end Go.Proofs.Ytdmncoemgaighaa.ItemJoins
