/-
  Layer 14, SessionOnce: a packet comes.
  Conditions: none.
-/
import Derived.Test.YtccdpgbmkiapdaaL46
import Derived.StillTailTactics
namespace Go.Proofs.Ytccdpgbmkiapdaa.Ses
set_option maxRecDepth 100000
open Go.ChangeShapes Go.WideShapes Go.ChangeAt Go.RowKit Go.Deep Go.Proofs.Ytccdpgbmkiapdaa.Mem Go.Proofs.Ytccdpgbmkiapdaa.Win Go.ChangeMaps Go.MapKept
def ex1 : Value → Value
 | .tuple a => a.getD 1 default
 | _ => default
def sesCm9 (pb kb t : Nat) (epn : Int) (pz nb : ByteArray) : Nat → Value → World → Prop
 | 0, v, _ => v = .string pz
 | 1, v, _ => v = .pointer (some ⟨pb, 0, none⟩)
 | 2, v, _ => v = .pointer (some ⟨kb, 0, none⟩)
 | 3, v, _ => v = .int .i64 (t : Int)
 | 4, v, _ => v = .pointer (some ⟨pb, 0, none⟩)
 | 5, v, _ => v = .pointer (some ⟨pb, 2, none⟩)
 | 6, v, _ => v = .pointer (some ⟨pb, 2 + t, none⟩)
 | 7, v, _ => v = .int .i64 epn
 | 8, v, _ => v = .string nb
 | 9, v, _ => v = .string (pz ++ nb)
 | 10, v, _ => v = .string (pz ++ nb)
 | _, _, _ => True
theorem sesCm9_later {pb kb t : Nat} {epn : Int} {pz nb : ByteArray} {j : Nat} {v : Value} {w w' : World} (_hb : Below w.heap.size w w') (h : sesCm9 pb kb t epn pz nb j v w) : sesCm9 pb kb t epn pz nb j v w' := by
 match j, h with
 | 0, h | 1, h | 2, h | 3, h | 4, h | 5, h | 6, h | 7, h | 8, h | 9, h | 10, h => exact h
 | _ + 11, _ => exact trivial
set_option maxHeartbeats 2000000 in
theorem come_any {B pb k j : Nat} {w : World} {P : Pr} (h : PAtE B w pb P) (hJ : PJ k j P) (hk : k ≤ 1000) (hj : j ≤ 1000000) {i : Nat} {x : Wy} (hw? : P.way[i]? = some x) :
  Calls Try.prog 32 #[.pointer (some ⟨pb, 0, none⟩), .int .i64 (i : Int)] w fun e w' => e = .returned (.bool true) ∧ PAtE B w' pb (comeM P i x).2 ∧ Below B w w' := by
 obtain ⟨s0, s1, F0, F1, V, vc, mf, mt, m, h⟩ := h
 have hi : i < P.way.length := (List.getElem?_eq_some_iff.1 hw?).1
 have hx : P.way[i] = x := (List.getElem?_eq_some_iff.1 hw?).2
 obtain ⟨g, rfl⟩ := h.way.first hi
 have hel := (OwnG.elem fit_wy h.way.row hi)
 obtain ⟨g', hg', hel⟩ := hel
 obtain rfl : g = g' := by cases hg'; rfl
 rw [hx] at hel
 have z0 : w.cell? ⟨g, i * 6, none⟩ = _ := hel.cell (j := 0) rfl
 have z1 := hel.cell (j := 1) rfl
 have z2 := hel.cell (j := 2) rfl
 have z3 := hel.cell (j := 3) rfl
 have z4 := hel.cell (j := 4) rfl
 have z5 := hel.cell (j := 5) rfl
 obtain ⟨n, hn⟩ : ∃ n, P.way.length = n := ⟨_, rfl⟩
 have hfew := hJ.pi.few
 have hcap : P.way.length ≤ vc := by
  obtain ⟨_, h2⟩ := h.way.row
  rcases h2 with ⟨h2, _⟩ | ⟨g', cap, cur, h2, h3, _⟩
  ·cases h2
  ·simp only [Value.slice.injEq] at h2
   omega
 have c4 : w.cell? ⟨pb, 4, none⟩ = _ := h.way.box.cell (j := 4) rfl
 rw [hn] at c4
 have HN := Lib.hid hn
 have HJ := Lib.hid hJ
 have HX := Lib.hid hw?
 obtain ⟨kb, hkb⟩ : ∃ q, w.heap.size = q := ⟨_, rfl⟩
 obtain ⟨wb, hwb⟩ : ∃ W, W = w.alloc (.cells #[.int .i64 (x.tgt : Int), .int .i64 x.e.kind, .int .i64 x.e.epoch, .int .i64 x.e.peer, .int .i64 x.e.seq, .string x.e.pay] 134) := ⟨_, rfl⟩
 have hbb : Below w.heap.size w wb := by rw [hwb]; exact below_alloc _ _
 have hcb : Cells wb w.heap.size 134 x.vals := by rw [hwb]; exact cells_new _ _ _ _ rfl
 have hFk : ∀ q, F0 q ∨ F1 q → q < kb := fun q e => by rw [← hkb]; exact e.elim (SAt.lt h.a0 q) (SAt.lt h.a1 q)
 have hVk : g < kb := by rw [← hkb]; exact (h.vlow g rfl).2
 have hpk : pb < kb := by rw [← hkb]; exact h.way.box.lt
 have hB := h.size
 have hp := h.later hbb
 have hBb : B ≤ wb.heap.size := hp.size
 obtain ⟨V1, n1, c1, w1, hr1, hq1', V2, n2, c2, w2, hr2, hn2, ho2, hq2'⟩ := way_cut hp.way (i := i) hi hfew (Below.refl _ _)
 have d4 : wb.cell? ⟨pb, 4, none⟩ = some (.slice (some ⟨g, 0, none⟩) n vc) := by rw [← hn]; exact hp.way.box.cell (j := 4) rfl
 have e4 : w1.cell? ⟨pb, 4, none⟩ = some (.slice (some ⟨g, 0, none⟩) n vc) := by rw [← hn]; exact (hp.way.box.later hq1').cell (j := 4) rfl
 obtain ⟨f4, g4, hst⟩ := hp.way.swap hBb hq2' hn2 ho2
 have hVn : ∀ q, blk V2 = some q → kb < q := fun q e => by
  have h9 := (World.ownsRow.lt ho2 q (by rw [own_blk]; exact e)).1
  have := hcb.lt
  omega
 obtain ⟨⟨V3, vc3, hp3, hv3⟩, hon3, hbl3⟩ := hp.puts hst
 have hV3 : ∀ q, blk V3 = some q → q ≠ kb := fun q e => by
  rcases hv3 q e with e2 | e2
  ·have : g = q := Option.some.inj e2
   omega
  ·have := hcb.lt
   omega
 obtain ⟨w3, hw3⟩ : ∃ W, W = w2.setCell ⟨pb, 4, none⟩ (.slice V2 n2 c2) := ⟨_, rfl⟩
 rw [← hw3] at hp3 hon3 hbl3
 rw [hn] at f4 hr2
 rw [hkb] at hcb
 have hcx : Cells w3 kb 134 x.vals := cells_only hcb hon3 fun e => by
  rcases e with e | e
  ·omega
  ·have : g = kb := Option.some.inj e
   omega
 obtain ⟨AD, hAD, hr2'⟩ : ∃ AD : Addr, (if vc = i + 1 then some ⟨g, 0, none⟩ else some ⟨g, (i + 1) * 6, none⟩ : Option Addr) = some AD ∧ (Builtin.append_ #[83, 83] 83 #[.slice V1 n1 c1, .slice (some AD) (n - (i + 1)) (vc - (i + 1))]).run Try.prog w1 = .ok (.slice V2 n2 c2) w2 := by
  by_cases e : vc = i + 1
  ·rw [if_pos e] at hr2
   exact ⟨_, if_pos e, hr2⟩
  ·rw [if_neg e, Option.map_some, addr_add] at hr2
   exact ⟨_, if_neg e, hr2⟩
 have hltb : pb < wb.heap.size := hp.way.box.lt
 have HP3 := Lib.hid hp3
 have HCX := Lib.hid hcx
 have HR1 := Lib.hid hr1
 have HR2 := Lib.hid hr2'
 have HV3 := Lib.hid hV3
 have HFK := Lib.hid hFk
 have HPK := Lib.hid hpk
 have HMK : Hid (mt < kb) := Lib.hid (by rw [← hkb]; exact h.took.lt)
 have HB3 : Hid (Below B w w3) := Lib.hid ((hbb.mono hB).trans hbl3)
 rw [hn] at hi hcap hfew
 clear hel hx hw? hn h hJ hbb hcb hr1 hr2 hr2' hn2 ho2 hst hp3 hon3 hbl3 hcx hq1' hq2' hV3 hFk hpk hv3 hVk hp hBb hB
 go_enter Try.func32, Try.ntmps32
 go_upto_region 2 with (fail)
 rw [← hwb]
 clear hwb c4
 go_upto_region 3 with (at_builtin; refine Lib.wpList_append_run (wb.alloc (.cells #[] 134)) rfl (.tmp 20) (.tmp 26) 83 83 rfl (.slice (some ⟨wb.heap.size, 0, none⟩) 0 0) (.slice (some ⟨g, 0, none⟩) i vc) rfl rfl _ _ HR1.out ?_)
 clear HR1 z0 z1 z2 z3 z4 z5
 go_upto_region 4 with (at_builtin; refine Lib.wpList_append_run w1 rfl (.tmp 29) (.tmp 36) 83 83 rfl (.slice V1 n1 c1) (.slice (some AD) (n - (i + 1)) (vc - (i + 1))) rfl rfl _ _ HR2.out ?_)
 rw [← hw3]
 clear hw3 HR2 hAD d4 e4 f4 g4 hltb
 obtain ⟨t, ht⟩ : ∃ t, x.tgt = t := ⟨_, rfl⟩
 have hway := HJ.out.pi.way x (List.mem_of_getElem? HX.out)
 rw [ht] at hway
 have ht2 := hway.1
 obtain ⟨st, Ft, cs0, ce0, hsat, hfk, hstep⟩ := HP3.out.side ht2
 have hq := HJ.out.q t ht2
 obtain ⟨R, hR⟩ : ∃ R, takeM (P.s t) (xo t) x.e = R := ⟨_, rfl⟩
 obtain ⟨pz, hpz⟩ : ∃ q, R.1 = q := ⟨_, rfl⟩
 obtain ⟨ez, hez⟩ : ∃ q, R.2.2.1 = q := ⟨_, rfl⟩
 have F := takeF x.e (other_xo ht2 (HJ.out.pi.node _ ht2) (HJ.out.pi.len _ ht2))
 rw [hR] at F
 obtain ⟨CE, hCE⟩ : ∃ CE : Option Addr → Nat → Nat → World → Prop, CE = fun Vx nx cx W => nx = R.2.1.length ∧ Sl W Vx 6 (R.2.1.map Ot.vals) ∧ (∀ q, blk Vx = some q → w3.heap.size ≤ q ∧ q < W.heap.size) ∧ (∃ G0 G1, PrAt B W pb { P with s := setS P.s t R.2.2.2, way := P.way.eraseIdx i } s0 s1 G0 G1 V3 vc3 mf mt m) ∧ Below B w3 W ∧ Cells W kb 134 x.vals := ⟨_, rfl⟩
 have HTK : Hid (∀ wi, Below w3.heap.size w3 wi → Calls Try.prog 21 #[.pointer (some ⟨st, 0, none⟩), .int .i64 (2 - (t : Int)), .agg #[.int .i64 x.e.kind, .int .i64 x.e.epoch, .int .i64 x.e.peer, .int .i64 x.e.seq, .string x.e.pay]] wi fun e w' => ∃ Vx nx cx, e = .returned (.tuple #[.string pz, .slice Vx nx cx, .int .i64 ez]) ∧ CE Vx nx cx w') := Lib.hid fun wi hb => by
  refine (Take_any (hsat.later hb) hq.ok (Nat.le_trans HP3.out.size hb.size) (xo t) x.e (Nat.le_trans (HJ.out.sm x (List.mem_of_getElem? HX.out)) (by decide))).mono ?_
  rintro e w' ⟨Vx, nx, cx, F', rfl, hrow, hst, hnf⟩
  rw [hR] at hrow hst ⊢
  have hsl := OwnG.sl fit_ot hrow
  obtain ⟨⟨G0, G1, hpr⟩, hbl⟩ := hstep (SStep.before hb hst) F.fix.epoch
  refine ⟨Vx, nx, cx, by rw [hpz, hez], ?_⟩
  rw [hCE]
  refine ⟨hsl.1, hsl.2, fun q e => ?_, ⟨G0, G1, hpr⟩, hbl, ?_⟩
  ·have h9 := World.ownsRow.lt hrow q (by rw [own_blk]; exact e)
   exact ⟨Nat.le_trans hb.size h9.1, h9.2⟩
  ·exact cells_only (HCX.out.later hb) hst.only fun e => by
    have := HFK.out kb (hfk kb e)
    omega
 have hcx := HCX.out
 unfold Wy.vals at hcx
 rw [ht] at hcx
 have HCY := Lib.hid hcx
 have CS0 := Lib.hid cs0
 have HT2 := Lib.hid ht2
 have HWY := Lib.hid hway
 have HF := Lib.hid F
 have HRE := Lib.hid hR
 have HPE := Lib.hid (And.intro hpz hez)
 have HTT := Lib.hid ht
 clear hcx cs0 ce0 hstep hsat hfk hq hway F hR hpz hez ht
 refine Reg.region_inv (by kernel_rfl) (fun i => ([some (.pointer (some ⟨pb, 0, none⟩)), some (.pointer (some ⟨kb, 0, none⟩)), some (.int .i64 (t : Int)), some (.pointer (some ⟨pb, 0, none⟩)), some (.pointer (some ⟨pb, 0, none⟩)), some (.pointer (some ⟨pb, t, none⟩)), some (.pointer (some ⟨st, 0, none⟩)), some (.pointer (some ⟨kb, 0, none⟩)), some (.int .i64 (t : Int)), some (.int .i64 (2 - (t : Int))), some (.pointer (some ⟨kb, 1, none⟩)), some (.agg #[.int .i64 x.e.kind, .int .i64 x.e.epoch, .int .i64 x.e.peer, .int .i64 x.e.seq, .string x.e.pay]), none, none, some (.string pz), none, some (.int .i64 ez), some (.string pz), none, some (.int .i64 ez)] : List (Option Value)).getD i none) (fun D V W => (D 12 = false → Below w3.heap.size w3 (W)) ∧ (D 12 = true → ∃ Vx nx cx, (V 12) = Value.tuple #[.string pz, .slice Vx nx cx, .int .i64 ez] ∧ CE Vx nx cx (W)) ∧ (D 13 = true → (V 13) = (V 12)) ∧ (D 15 = true → (V 15) = ex1 (V 12)) ∧ (D 18 = true → (V 18) = (V 15))) (fun V => [(some 41, V 0), (some 42, V 1), (some 43, V 2), (some 44, V 3), (some 45, V 4), (some 46, V 5), (some 47, V 6), (some 48, V 7), (some 49, V 8), (some 50, V 9), (some 51, V 10), (some 52, V 11), (some 53, V 12), (some 40, V 13), (some 54, V 14), (some 55, V 15), (some 56, V 16), (some 7, V 17), (some 8, V 18), (some 9, V 19)]) (by kernel_rfl) (by kernel_rfl) (fun V => rfl) ?_ ?_ ?_
 ·intro V
  exact ⟨fun _ => (Below.refl _ _).drew, fun e => (by cases e), fun e => (by cases e), fun e => (by cases e), fun e => (by cases e)⟩
 ·intro i o ho
  have hi : i < 20 := (Array.getElem?_eq_some_iff.1 ho).1
  rcases i with _ | _ | _ | _ | _ | _ | _ | _ | _ | _ | _ | _ | _ | _ | _ | _ | _ | _ | _ | _ | i
  rotate_right
  ·omega
  all_goals obtain rfl := Option.some.inj ho
  all_goals intro D V ρ wi hE hI hDi hT hF hs hd hk
  ·have e0 : ρ (.tmp 0) = .pointer (some ⟨pb, 0, none⟩) := hs 0; clear hT hF hk
   exact Reg.Gives.value (v := .pointer (some ⟨pb, 0, none⟩)) (w' := wi) (by go_simp) ⟨fun x h => Option.some.inj h, hI⟩
  ·have e5 : ρ (.tmp 5) = .pointer (some ⟨kb, 0, none⟩) := hs 5; clear hT hF hk
   exact Reg.Gives.value (v := .pointer (some ⟨kb, 0, none⟩)) (w' := wi) (by go_simp) ⟨fun x h => Option.some.inj h, hI⟩
  ·have e42 : ρ (.tmp 42) = .pointer (some ⟨kb, 0, none⟩) := (hd 1 42).trans (hk 1 _ rfl); have hD12 : D 12 = false := hF 3 12; clear hT hF; have hL : Below w3.heap.size w3 wi := hI.1 hD12; have x0 := (HCY.out.later hL).cell (j := 0) rfl
   exact Reg.Gives.value (v := .int .i64 (t : Int)) (w' := wi) (by go_simp) ⟨fun x h => Option.some.inj h, hI⟩
  ·have e41 : ρ (.tmp 41) = .pointer (some ⟨pb, 0, none⟩) := (hd 0 41).trans (hk 0 _ rfl); clear hT hF hk
   exact Reg.Gives.value (v := .pointer (some ⟨pb, 0, none⟩)) (w' := wi) (by go_simp) ⟨fun x h => Option.some.inj h, hI⟩
  ·have e44 : ρ (.tmp 44) = .pointer (some ⟨pb, 0, none⟩) := (hd 3 44).trans (hk 3 _ rfl); clear hT hF hk
   exact Reg.Gives.value (v := .pointer (some ⟨pb, 0, none⟩)) (w' := wi) (by go_simp) ⟨fun x h => Option.some.inj h, hI⟩
  ·have e45 : ρ (.tmp 45) = .pointer (some ⟨pb, 0, none⟩) := (hd 4 45).trans (hk 4 _ rfl); have e43 : ρ (.tmp 43) = .int .i64 (t : Int) := (hd 2 43).trans (hk 2 _ rfl); clear hT hF; have z1 : t < 2 := HT2.out
   have z2 : (t : Int) < 2 := by omega
   exact Reg.Gives.value (v := .pointer (some ⟨pb, t, none⟩)) (w' := wi) (by go_simp) ⟨fun x h => Option.some.inj h, hI⟩
  ·have e46 : ρ (.tmp 46) = .pointer (some ⟨pb, t, none⟩) := (hd 5 46).trans (hk 5 _ rfl); have hD12 : D 12 = false := hF 1 12; clear hT hF; have hL : Below w3.heap.size w3 wi := hI.1 hD12; have x0 := (hL.cell (block_of_cell CS0.out)).trans CS0.out
   exact Reg.Gives.value (v := .pointer (some ⟨st, 0, none⟩)) (w' := wi) (by go_simp) ⟨fun x h => Option.some.inj h, hI⟩
  ·have e5 : ρ (.tmp 5) = .pointer (some ⟨kb, 0, none⟩) := hs 5; clear hT hF hk
   exact Reg.Gives.value (v := .pointer (some ⟨kb, 0, none⟩)) (w' := wi) (by go_simp) ⟨fun x h => Option.some.inj h, hI⟩
  ·have e48 : ρ (.tmp 48) = .pointer (some ⟨kb, 0, none⟩) := (hd 7 48).trans (hk 7 _ rfl); have hD12 : D 12 = false := hF 2 12; clear hT hF; have hL : Below w3.heap.size w3 wi := hI.1 hD12; have x0 := (HCY.out.later hL).cell (j := 0) rfl
   exact Reg.Gives.value (v := .int .i64 (t : Int)) (w' := wi) (by go_simp) ⟨fun x h => Option.some.inj h, hI⟩
  ·have e49 : ρ (.tmp 49) = .int .i64 (t : Int) := (hd 8 49).trans (hk 8 _ rfl); have hc := hE.const; clear hT hF
   have hw : IntKind.i64.wrap (2 - (t : Int)) = 2 - (t : Int) := by rw [IntKind.wrap_i64]; have := HT2.out; omega
   exact Reg.Gives.value (v := .int .i64 (2 - (t : Int))) (w' := wi) (by go_simp) ⟨fun x h => Option.some.inj h, hI⟩
  ·have e5 : ρ (.tmp 5) = .pointer (some ⟨kb, 0, none⟩) := hs 5; clear hT hF hk
   exact Reg.Gives.value (v := .pointer (some ⟨kb, 1, none⟩)) (w' := wi) (by go_simp) ⟨fun x h => Option.some.inj h, hI⟩
  ·have e51 : ρ (.tmp 51) = .pointer (some ⟨kb, 1, none⟩) := (hd 10 51).trans (hk 10 _ rfl); have hD12 : D 12 = false := hF 1 12; clear hT hF; have hL : Below w3.heap.size w3 wi := hI.1 hD12; have hq := HCY.out.later hL; have x1 := hq.cell (j := 1) rfl; have x2 := hq.cell (j := 2) rfl; have x3 := hq.cell (j := 3) rfl; have x4 := hq.cell (j := 4) rfl; have x5 := hq.cell (j := 5) rfl
   exact Reg.Gives.value (v := .agg #[.int .i64 x.e.kind, .int .i64 x.e.epoch, .int .i64 x.e.peer, .int .i64 x.e.seq, .string x.e.pay]) (w' := wi) (by go_simp) ⟨fun x h => Option.some.inj h, hI⟩
  ·have e47 : ρ (.tmp 47) = .pointer (some ⟨st, 0, none⟩) := (hd 6 47).trans (hk 6 _ rfl); have e50 : ρ (.tmp 50) = .int .i64 (2 - (t : Int)) := (hd 9 50).trans (hk 9 _ rfl); have e52 : ρ (.tmp 52) = .agg #[.int .i64 x.e.kind, .int .i64 x.e.epoch, .int .i64 x.e.peer, .int .i64 x.e.seq, .string x.e.pay] := (hd 11 52).trans (hk 11 _ rfl); have hf := hE.func; have hD12 : D 12 = false := hDi
   have hD13 : D 13 = false := hF 1 13; have hD15 : D 15 = false := hF 2 15; have hD18 : D 18 = false := hF 1 18; clear hT hF; have hL : Below w3.heap.size w3 wi := hI.1 hD12
   refine Reg.Gives.call (f := 21) (args := #[.pointer (some ⟨st, 0, none⟩), .int .i64 (2 - (t : Int)), .agg #[.int .i64 x.e.kind, .int .i64 x.e.epoch, .int .i64 x.e.peer, .int .i64 x.e.seq, .string x.e.pay]]) (w' := wi) (by go_simp) ?_
   refine (HTK.out wi hL).mono ?_
   rintro e w'' ⟨Vy, ny, cy, rfl, hce⟩
   refine ⟨_, rfl, fun x h => (by cases h), ?_⟩
   show (true = false → Below w3.heap.size w3 (w'')) ∧ (true = true → ∃ Vx nx cx, (Value.tuple #[.string pz, .slice Vy ny cy, .int .i64 ez]) = Value.tuple #[.string pz, .slice Vx nx cx, .int .i64 ez] ∧ CE Vx nx cx (w'')) ∧ (D 13 = true → (V 13) = (Value.tuple #[.string pz, .slice Vy ny cy, .int .i64 ez])) ∧ (D 15 = true → (V 15) = ex1 (Value.tuple #[.string pz, .slice Vy ny cy, .int .i64 ez])) ∧ (D 18 = true → (V 18) = (V 15))
   exact ⟨fun e => (by cases e), fun _ => ⟨Vy, ny, cy, rfl, hce⟩, fun e => (by rw [hD13] at e; cases e), fun e => (by rw [hD15] at e; cases e), fun e => (by rw [hD18] at e; cases e)⟩
  ·have e53 : ρ (.tmp 53) = V 12 := hd 12 53; clear hT hF
   exact Reg.Gives.value (v := V 12) (w' := wi) (by go_simp) ⟨fun x h => (by cases h), by show (D 12 = false → Below w3.heap.size w3 (wi)) ∧ (D 12 = true → ∃ Vx nx cx, (V 12) = Value.tuple #[.string pz, .slice Vx nx cx, .int .i64 ez] ∧ CE Vx nx cx (wi)) ∧ (true = true → (V 12) = (V 12)) ∧ (D 15 = true → (V 15) = ex1 (V 12)) ∧ (D 18 = true → (V 18) = (V 15)); exact ⟨hI.1, hI.2.1, fun _ => rfl, hI.2.2.2.1, hI.2.2.2.2⟩⟩
  ·have e40 : ρ (.tmp 40) = V 13 := hd 13 40; have hD12 : D 12 = true := hT 2 12; have hD13 : D 13 = true := hT 1 13; clear hT hF; obtain ⟨Vy, ny, cy, hv, hce⟩ := hI.2.1 hD12; have h13 := hI.2.2.1 hD13
   rw [h13, hv] at e40
   have hx : (.slice Vy ny cy : Value) = ex1 (V 12) := by rw [hv]; rfl
   clear hce h13 hv; have HX9 := Lib.hid hx; clear hx
   exact Reg.Gives.value (v := .string pz) (w' := wi) (by go_simp) ⟨fun x h => Option.some.inj h, hI⟩
  ·have e40 : ρ (.tmp 40) = V 13 := hd 13 40; have hD12 : D 12 = true := hT 2 12; have hD13 : D 13 = true := hT 1 13; have hD18 : D 18 = false := hF 1 18; clear hT hF; obtain ⟨Vy, ny, cy, hv, hce⟩ := hI.2.1 hD12; have h13 := hI.2.2.1 hD13
   rw [h13, hv] at e40
   have hx : (.slice Vy ny cy : Value) = ex1 (V 12) := by rw [hv]; rfl
   clear hce h13 hv; have HX9 := Lib.hid hx; clear hx
   exact Reg.Gives.value (v := .slice Vy ny cy) (w' := wi) (by go_simp) ⟨fun x h => (by cases h), by show (D 12 = false → Below w3.heap.size w3 (wi)) ∧ (D 12 = true → ∃ Vx nx cx, (V 12) = Value.tuple #[.string pz, .slice Vx nx cx, .int .i64 ez] ∧ CE Vx nx cx (wi)) ∧ (D 13 = true → (V 13) = (V 12)) ∧ (true = true → (.slice Vy ny cy) = ex1 (V 12)) ∧ (D 18 = true → (V 18) = (.slice Vy ny cy)); exact ⟨hI.1, hI.2.1, hI.2.2.1, fun _ => HX9.out, fun e => (by rw [hD18] at e; cases e)⟩⟩
  ·have e40 : ρ (.tmp 40) = V 13 := hd 13 40; have hD12 : D 12 = true := hT 2 12; have hD13 : D 13 = true := hT 1 13; clear hT hF; obtain ⟨Vy, ny, cy, hv, hce⟩ := hI.2.1 hD12; have h13 := hI.2.2.1 hD13
   rw [h13, hv] at e40
   have hx : (.slice Vy ny cy : Value) = ex1 (V 12) := by rw [hv]; rfl
   clear hce h13 hv; have HX9 := Lib.hid hx; clear hx
   exact Reg.Gives.value (v := .int .i64 ez) (w' := wi) (by go_simp) ⟨fun x h => Option.some.inj h, hI⟩
  ·have e54 : ρ (.tmp 54) = .string pz := (hd 14 54).trans (hk 14 _ rfl); clear hT hF hk
   exact Reg.Gives.value (v := .string pz) (w' := wi) (by go_simp) ⟨fun x h => Option.some.inj h, hI⟩
  ·have e55 : ρ (.tmp 55) = V 15 := hd 15 55; clear hT hF
   exact Reg.Gives.value (v := V 15) (w' := wi) (by go_simp) ⟨fun x h => (by cases h), by show (D 12 = false → Below w3.heap.size w3 (wi)) ∧ (D 12 = true → ∃ Vx nx cx, (V 12) = Value.tuple #[.string pz, .slice Vx nx cx, .int .i64 ez] ∧ CE Vx nx cx (wi)) ∧ (D 13 = true → (V 13) = (V 12)) ∧ (D 15 = true → (V 15) = ex1 (V 12)) ∧ (true = true → (V 15) = (V 15)); exact ⟨hI.1, hI.2.1, hI.2.2.1, hI.2.2.2.1, fun _ => rfl⟩⟩
  ·have e56 : ρ (.tmp 56) = .int .i64 ez := (hd 16 56).trans (hk 16 _ rfl); clear hT hF hk
   exact Reg.Gives.value (v := .int .i64 ez) (w' := wi) (by go_simp) ⟨fun x h => Option.some.inj h, hI⟩
 ·intro V w4 hk hI
  have hV17 : V 17 = .string pz := hk 17 (by show _ < 20; decide) _ rfl
  have hV19 : V 19 = .int .i64 ez := hk 19 (by show _ < 20; decide) _ rfl
  simp only [Reg.putsO, List.foldl_cons, List.foldl_nil, Act.put, List.setIfInBounds_toArray, List.set_cons_succ, List.set_cons_zero, hV17, hV19]
  replace hI : ((fun _ => true) 12 = false → Below w3.heap.size w3 (w4)) ∧ ((fun _ => true) 12 = true → ∃ Vx nx cx, (V 12) = Value.tuple #[.string pz, .slice Vx nx cx, .int .i64 ez] ∧ CE Vx nx cx (w4)) ∧ ((fun _ => true) 13 = true → (V 13) = (V 12)) ∧ ((fun _ => true) 15 = true → (V 15) = ex1 (V 12)) ∧ ((fun _ => true) 18 = true → (V 18) = (V 15)) := hI
  clear hk hV17 hV19
  obtain ⟨_, hI2, h13, h15, h18⟩ := hI
  obtain ⟨Vx, nx, cx, hv, hce⟩ := hI2 rfl
  have h18 := h18 rfl
  rw [h15 rfl, hv] at h18
  rw [show V 18 = .slice Vx nx cx from h18]
  rw [hCE] at hce
  obtain ⟨hn9, hsl, hfr, ⟨G0, G1, hpr⟩, hbl, hkc⟩ := hce
  rw [hn9]
  have hfew9 := takeM_few (HJ.out.q t ht2).ok (by omega) (xo t) x.e
  rw [HRE.out] at hfew9
  have hput := put_any hpr.way hpr.size (by
   show (P.way.eraseIdx i).length ≤ 300
   have := List.length_eraseIdx_le P.way i
   have := HJ.out.pi.few
   omega) R.2.1 Vx cx hsl (by omega) (fun o ho => by
   have := (HF.out.out o ho).1
   unfold xo at this
   omega) (fun q e => by
   have h1 := hfr q e
   have h2 := HP3.out.way.box.lt
   refine ⟨by omega, fun e2 => ?_⟩
   have h3 := (HP3.out.vlow q e2).2
   omega) (fun q e => (hfr q e).2)
  have HPUT := Lib.hid hput
  have HPR := Lib.hid hpr
  have HB4 := Lib.hid (HB3.out.trans hbl)
  have HKC := Lib.hid hkc
  obtain ⟨nn, hnn⟩ : ∃ q, R.2.1.length = q := ⟨_, rfl⟩
  rw [hnn] at HPUT ⊢
  clear hput hpr hbl hkc hfr hsl hn9 h15 h18 hv hI2 h13 hfew9 hnn HTK HP3 HB3 HCX HCY CS0
  go_upto_region 5 with (fail)
  go_wp2_with fail
  refine HPUT.out.mono ?_
  rintro e w5 ⟨rfl, hws⟩
  obtain ⟨⟨V5, vc5, hp5, _⟩, hon5, hbl5⟩ := HPR.out.puts hws
  have hk5 := cells_only HKC.out hon5 fun e => by
   have := HPK.out
   rcases e with e | e
   ·omega
   ·exact HV3.out kb e rfl
  have HP5 : Hid (PrAt B w5 pb { P with s := setS P.s t R.2.2.2, way := putW (P.way.eraseIdx i) R.2.1 } s0 s1 G0 G1 V5 vc5 mf mt m) := Lib.hid hp5
  have HB5 := Lib.hid (HB4.out.trans hbl5)
  have HK5 := Lib.hid hk5
  have hcm : comeM P i x = (if R.2.2.1 ≠ 0 ∨ x.e.kind ≠ 1 then (true, { P with s := setS P.s t R.2.2.2, way := putW (P.way.eraseIdx i) R.2.1 })
   else (decide (∃ r ∈ P.log, r.pay = R.1 ∧ r.side = 1 - t) && decide (∀ q ∈ P.took, q ≠ (R.1, (P.s t).epoch)), { P with s := setS P.s t R.2.2.2, way := putW (P.way.eraseIdx i) R.2.1, took := (R.1, (P.s t).epoch) :: P.took })) := by
   unfold comeM
   rw [HTT.out]
   dsimp only
   rw [HRE.out]
  have hcome := (HJ.out.pi.come HX.out).1
  have z0 := hk5.cell (j := 0) rfl
  have z1 := hk5.cell (j := 1) rfl
  rw [HTT.out] at z0
  clear hws hp5 hon5 hbl5 hk5 HPUT HPR HB4 HKC
  by_cases hez : ez = 0
  ·by_cases hkd : x.e.kind = 1
   ·subst hez
    have hne : ¬ (R.2.2.1 ≠ 0 ∨ x.e.kind ≠ 1) := fun e => e.elim (fun e => e HPE.out.2) fun e => e hkd
    rw [if_neg hne] at hcm
    rw [hcm, Bool.and_eq_true] at hcome
    obtain ⟨hc1, hc2⟩ := hcome
    obtain ⟨r, hr, hr1, hr2⟩ := of_decide_eq_true hc1
    have hc2 := of_decide_eq_true hc2
    have hrz := HJ.out.pi.small r hr
    have hhit := HP5.out.fromHit HJ.out.pi.uniq hr (by omega)
    rw [hr1, HPE.out.1, hr2] at hhit
    have hpz2 : pz.size = 2 := by rw [← HPE.out.1, ← hr1]; exact hrz
    obtain ⟨ep, hep⟩ : ∃ q, (P.s t).epoch = q := ⟨_, rfl⟩
    have hep1 := HJ.out.pi.e0 t ht2
    have hep2 := HJ.out.pi.e1 t ht2
    rw [hep] at hep1 hep2 hc2
    rw [hep] at hcm
    obtain ⟨epn, rfl⟩ : ∃ q : Nat, ep = (q : Int) := ⟨ep.toNat, by omega⟩
    have hepc : w5.cell? ⟨pb, 2 + t, none⟩ = some (.int .i64 (epn : Int)) := by
     obtain ⟨_, _, _, h9, _⟩ := HP5.out.side ht2
     rw [h9]
     show some (Value.int .i64 (setS P.s t R.2.2.2 t).epoch) = _
     rw [setS_same, HF.out.fix.epoch, hep]
    have hmiss : ∀ q ∈ P.took, q.1 ++ nameB q.2.toNat ≠ pz ++ nameB epn := fun q hq e => by
     obtain ⟨e1, e2⟩ := app_inj (nameB_size _) (nameB_size _) e
     obtain ⟨r', hr', h1, h2, _⟩ := HJ.out.pi.took q hq
     have h3 := HJ.out.pi.e1 (1 - r'.side) (by have := HJ.out.pi.side r' hr'; omega)
     have h4 := nameB_inj (by omega) (by omega) e2
     refine hc2 q hq ?_
     rw [HPE.out.1, ← e1]
     have h5 : q.2 = (epn : Int) := by omega
     rw [← h5]
    have HMISS := Lib.hid hmiss
    have HCM := Lib.hid hcm
    have HNM : Hid (∀ wq, Calls Try.prog 60 #[.int .i64 (epn : Int)] wq fun e w' => e = .returned (.string (nameB epn)) ∧ Below wq.heap.size wq w') := Lib.hid fun wq => name_any epn (by omega) wq
    have hbx6 : w5.cell? ⟨pb, 6, none⟩ = some (.map (some mf)) := HP5.out.way.box.cell (j := 6) rfl
    have hnn2 := nameB_size epn
    obtain ⟨nb, hnb⟩ : ∃ q, nameB epn = q := ⟨_, rfl⟩
    have HNB := Lib.hid hnb
    rw [hnb] at HNM hnn2
    clear hc1 hc2 hr hr1 hr2 hrz hep hep1 hep2 hne hcm hmiss hnb
    have HEPC := Lib.hid hepc
    have HSZ := Lib.hid (And.intro hpz2 hnn2)
    go_upto_region 9 with (fail)
    clear hhit hepc
    refine Reg.region_heavy (by kernel_rfl) 10 [10] (sesCm9 pb kb t (epn : Int) pz nb) (fun a => Below w5.heap.size w5 a) (fun a => Below w5.heap.size w5 a) (fun V => [(some 77, V 0), (some 78, V 1), (some 79, V 2), (some 80, V 3), (some 81, V 4), (some 82, V 5), (some 83, V 6), (some 84, V 7), (some 85, V 8), (some 86, V 9), (some 12, V 10)]) (by kernel_rfl) (by kernel_rfl) (by kernel_rfl) (fun V => rfl) ?_ ?_ ?_
    ·exact (Below.refl _ _).drew
    ·intro i o ho
     have hi : i < 11 := (Array.getElem?_eq_some_iff.1 ho).1
     rcases i with _ | _ | _ | _ | _ | _ | _ | _ | _ | _ | _ | i
     rotate_right
     ·omega
     all_goals obtain rfl := Option.some.inj ho
     all_goals intro ρ wi hE hI hs hd
     all_goals try dsimp only at hI
     ·have e7 : ρ (.tmp 7) = .string pz := hs 7; exact Reg.gw hI
     ·have e0 : ρ (.tmp 0) = .pointer (some ⟨pb, 0, none⟩) := hs 0; exact Reg.gw hI
     ·have e5 : ρ (.tmp 5) = .pointer (some ⟨kb, 0, none⟩) := hs 5; exact Reg.gw hI
     ·obtain ⟨_, rfl, e79⟩ := hd 2 79; have x0 := (HK5.out.later hI).cell (j := 0) rfl
      rw [HTT.out] at x0
      exact Reg.gw hI
     ·obtain ⟨_, rfl, e78⟩ := hd 1 78; exact Reg.gw hI
     ·obtain ⟨_, rfl, e81⟩ := hd 4 81; exact Reg.gw hI
     ·obtain ⟨_, rfl, e82⟩ := hd 5 82; obtain ⟨_, rfl, e80⟩ := hd 3 80; have z1 : t < 2 := HT2.out
      have z2 : (t : Int) < 2 := by omega
      exact Reg.gw hI
     ·obtain ⟨_, rfl, e83⟩ := hd 6 83; have x0 := (hI.cell (block_of_cell HEPC.out)).trans HEPC.out; exact Reg.gw hI
     ·obtain ⟨_, rfl, e84⟩ := hd 7 84; have hf := hE.func
      refine Reg.Gives.call (f := 60) (args := #[.int .i64 (epn : Int)]) (w' := wi) (by go_simp) ?_
      refine (HNM.out wi).mono ?_
      rintro e w'' ⟨rfl, hbb⟩
      exact ⟨_, rfl, ⟨rfl, hI.trans (hbb.mono hI.size), fun j u _ _ h => sesCm9_later hbb h⟩⟩
     ·obtain ⟨_, rfl, e77⟩ := hd 0 77; obtain ⟨_, rfl, e85⟩ := hd 8 85; have s1 := HSZ.out.1; have s2 := HSZ.out.2; exact Reg.gw hI
     ·obtain ⟨_, rfl, e86⟩ := hd 9 86; exact Reg.gw hI
    ·intro V w6 hV hI
     have hV10 : V 10 = .string (pz ++ nb) := hV 10 (by decide) rfl
     simp only [Reg.putsO, List.foldl_cons, List.foldl_nil, Act.put, List.setIfInBounds_toArray, List.set_cons_succ, List.set_cons_zero, hV10]
     replace hI : (fun a => Below w5.heap.size w5 a) w6 := hI
     clear hV hV10
     have hp6 := HP5.out.later hI
     have hbx7 : w6.cell? ⟨pb, 7, none⟩ = some (.map (some mt)) := hp6.way.box.cell (j := 7) rfl
     have hlk := hp6.tookMiss (key := pz ++ nb) (by rw [ByteArray.size_append]; omega) (by rw [← HNB.out]; exact HMISS.out)
     have hz9 : (pz ++ nameB ((epn : Int)).toNat).size ≤ 1000 := by rw [ByteArray.size_append, nameB_size]; omega
     obtain ⟨w7, hst7, hp7, ho7, hbl7, hlk7⟩ := hp6.tookPut pz (epn : Int) hz9
     rw [Int.toNat_natCast, HNB.out] at hst7 hlk7
     have hbx8 : w7.cell? ⟨pb, 7, none⟩ = some (.map (some mt)) := hp7.way.box.cell (j := 7) rfl
     have hk7 := cells_only (HK5.out.later hI) ho7 fun e => by
      have := HP5.out.dm
      have h9 := HP5.out.took.lt
      have h8 := HMK.out
      omega
     have y0 := hk7.cell (j := 0) rfl
     rw [HTT.out] at y0
     have HFIN : Hid (PAtE B w7 pb (comeM P i x).2 ∧ Below B w w7) := Lib.hid ⟨by rw [HCM.out]; rw [HPE.out.1]; exact ⟨_, _, _, _, _, _, _, _, _, hp7⟩, (HB5.out.trans (hI.mono HP5.out.size)).trans hbl7⟩
     have e1t : ((1 - t : Nat) : Int) = 1 - (t : Int) := by have := HT2.out; omega
     clear hp6 hp7 ho7 hbl7 hk7 hz9
     go_wp2_with fail
     go_returns
     exact ⟨rfl, HFIN.out.1, HFIN.out.2⟩
   ·have hne : R.2.2.1 ≠ 0 ∨ x.e.kind ≠ 1 := Or.inr hkd
    rw [if_pos hne] at hcm
    subst hez
    have e3 : (x.e.kind == 1) = false := by simpa using hkd
    have e4 : (x.e.kind != 1) = true := by simpa using hkd
    have HFIN : Hid (PAtE B w5 pb (comeM P i x).2) := Lib.hid (by rw [hcm]; exact ⟨_, _, _, _, _, _, _, _, _, HP5.out⟩)
    clear hcm hne hkd hcome
    go_wp2_with fail
    go_returns
    exact ⟨rfl, HFIN.out, HB5.out⟩
  ·have hne : R.2.2.1 ≠ 0 ∨ x.e.kind ≠ 1 := Or.inl (by rw [HPE.out.2]; exact hez)
   rw [if_pos hne] at hcm
   have e3 : (ez == 0) = false := by simpa using hez
   have e4 : (ez != 0) = true := by simpa using hez
   have HFIN : Hid (PAtE B w5 pb (comeM P i x).2) := Lib.hid (by rw [hcm]; exact ⟨_, _, _, _, _, _, _, _, _, HP5.out⟩)
   clear hcm hne hez hcome
   go_wp2_with fail
   go_returns
   exact ⟨rfl, HFIN.out, HB5.out⟩
end Go.Proofs.Ytccdpgbmkiapdaa.Ses
