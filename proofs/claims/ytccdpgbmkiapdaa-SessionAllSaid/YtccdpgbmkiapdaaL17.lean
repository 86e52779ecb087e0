/-
  Layer 14: payloads are held.
  Conditions: none.
-/
import Derived.Test.YtccdpgbmkiapdaaL15
import Derived.Test.YtccdpgbmkiapdaaL16
namespace Go.Proofs.Ytccdpgbmkiapdaa.Ses
set_option maxRecDepth 100000
open Go.RowKit Go.Deep Go.Proofs.Ytccdpgbmkiapdaa.Mem Go.Proofs.Ytccdpgbmkiapdaa.Win
/-- A payload is appended, and not put in yet. -/
def HPend (B : Nat) (w0 : World) (A : Option Addr) (p : Pm) (x : Hd) (v : Value) (W : World) : Prop :=
 ∃ A2 n2 c2, v = .slice A2 n2 c2 ∧ n2 = (p.held ++ [x]).length ∧ OwnG 144 4 Hd.vals B W (.slice A2 n2 c2) (p.held ++ [x]) ∧ Only (fun k => some k = blk A) w0 W ∧ ∀ k, blk A2 = some k → some k = blk A ∨ w0.heap.size ≤ k
section
variable {B pb o ac N : Nat} {w w1 wi : World} {p : Pm} {A : Option Addr}
theorem PAt.grow (h : PAt B w pb o p A ac) (hB : B ≤ w.heap.size) (hb : Below w.heap.size w wi) {kk : Nat} {x : Hd} (hc : Cells wi kk 144 x.vals) (hl : p.held.length ≤ 1000) :
  ∃ v2 w5, (Builtin.append_ #[116, 116] 116 #[.slice A p.held.length ac, .slice (some ⟨kk, 0, none⟩) 1 1]).run Try.prog wi = .ok v2 w5 ∧ HPend B w A p x v2 w5 := by
 obtain ⟨V2, n2, c2, w2, hrun, hrow, hn2, hon, hnb⟩ := OwnG.appS el_hd fit_hd ((h.later hb).row) (m := [x]) (cells_sl (by simpa using hc) (fun v hv => (fit_hd [_]).len v hv)) (fun e => by cases e) (Nat.le_trans hB hb.size) (by simp only [List.length_singleton]; omega)
 refine ⟨_, w2, hrun, V2, n2, c2, rfl, hn2, hrow, ?_, fun k e => ?_⟩
 ·refine (Only.of_below hb).trans hon fun k _ e => ?_
  rw [own_blk] at e
  exact e.symm
 ·rcases hnb k e with e2 | e2
  ·rw [own_blk] at e2
   exact Or.inl e2.symm
  ·exact Or.inr (Nat.le_trans hb.size e2)
theorem HPend.put {x : Hd} {v : Value} (h : HPend B w A p x v w1) (hp : PAt B w pb o p A ac) :
  ∃ A2 n2 c2, v = .slice A2 n2 c2 ∧ w1.cell? ⟨pb, o + 4, none⟩ = some (.slice A p.held.length ac) ∧ w1.frozen? ⟨pb, o + 4, none⟩ = false ∧ PStep B pb o A w ⟨p.L, p.known, p.last, p.held ++ [x]⟩ A2 c2 (w1.setCell ⟨pb, o + 4, none⟩ (.slice A2 n2 c2)) := by
 obtain ⟨A2, n2, c2, rfl, rfl, hrow, ho, hg⟩ := h
 have hc := hp.cel.only ho fun e => hp.nA pb e.symm rfl
 exact ⟨A2, _, c2, rfl, hc.cell (j := 2) rfl, hc.frozen (j := 2) (by simp), hp.setHeld ho hrow hg⟩
/-- A part of what is held, from some place on. -/
theorem held_from (h : PAt B w pb o p A ac) {m n : Nat} (hn : p.held.length = m + n) (hac : m + n ≤ ac) : ∃ A2, Sl w A2 4 ((p.held.drop m).map Hd.vals) ∧
  (A2 = if ac = m then A else A.map fun a => a.add (m * 4)) := by
 refine ⟨_, ?_, rfl⟩
 split
 ·rename_i e
  have : p.held.drop m = [] := List.drop_of_length_le (by omega)
  rw [this]
  exact sl_nil _ _ _
 ·cases A with
  | none =>
   have := (OwnG.sl fit_hd h.row).2
   have hz := sl_none this
   have hz2 : p.held = [] := by simpa using hz
   rw [hz2, List.drop_nil]
   exact sl_nil _ _ _
  | some a =>
   by_cases hk : 0 < p.held.length
   ·obtain ⟨g, e, _⟩ := OwnG.elem fit_hd h.row hk
    simp only [Option.some.injEq] at e
    subst e
    have := sl_drop' (OwnG.sl fit_hd h.row).2 m
    rw [List.map_drop]
    show Sl w (some ((⟨g, 0, none⟩ : Addr).add (m * 4))) 4 _
    rw [addr_add]
    simpa using this
   ·have : p.held.drop m = [] := List.drop_of_length_le (by omega)
    rw [this]
    exact sl_nil _ _ _
theorem Strs.only {S : Nat → Prop} {SA : Option Addr} {ss : List ByteArray} (h : Strs w SA ss) (ho : Only S w w1) (hn : ∀ ad, SA = some ad → ss ≠ [] → ¬ S ad.block) : Strs w1 SA ss := by
 intro k hk
 obtain ⟨ad, e, hc, hz⟩ := h k hk
 refine ⟨ad, e, cell_only hc ho ?_, hz⟩
 rw [show (ad.add k).block = ad.block by unfold Addr.add; split <;> rfl]
 exact hn ad e (by rintro rfl; cases hk)
set_option maxHeartbeats 1000000 in
theorem hold_any (h : PAt B w pb o p A ac) (hp : Pok N p) (hN : N ≤ 1000000000000) (hB : B ≤ w.heap.size) (SA : Option Addr) (ss : List ByteArray) (c : Nat) (hs : Strs w SA ss) (hne : ∀ ad, SA = some ad → ss ≠ [] → ad.block ≠ pb ∧ some ad.block ≠ blk A) (hl : p.held.length + ss.length ≤ 32) :
  Calls Try.prog 50 #[.pointer (some ⟨pb, o, none⟩), .slice SA ss.length c] w fun e w' => ∃ A' ac' A2 c2, e = .returned (.slice A2 ss.length c2) ∧ PStep B pb o A w (holdP p ss) A' ac' w' ∧ Sl w' A2 4 ((newHd p.last ss).map Hd.vals) := by
 have HP := Lib.hid h
 have HSS := Lib.hid hs
 have HNE := Lib.hid hne
 have HBW := Lib.hid hB
 have HL0 := Lib.hid hp.l0
 have HL1 := Lib.hid hp.l1
 have HNN := Lib.hid hN
 have HLL := Lib.hid hl
 obtain ⟨n, hn⟩ : ∃ n, ss.length = n := ⟨_, rfl⟩
 have HN := Lib.hid hn
 have hn32 : n ≤ 32 := by omega
 rw [hn]
 clear h hs hne hB hp hN hl hn
 go_enter Try.func50, Try.ntmps50
 go_wp2_with fail
 go_loopw [6, 7, 10] (fun _ _ j wr => ∃ (k : Nat) (A1 : Option Addr) (ac1 : Nat), k ≤ n ∧ j = .int .i64 (k : Int) ∧ Hid (PStep B pb o A w (holdP p (ss.take k)) A1 ac1 wr)) (fun _ _ j _ => n - (intOf j).toNat)
 case atStart => exact ⟨0, A, ac, Nat.zero_le _, rfl, Lib.hid (by
  have e : holdP p (ss.take 0) = p := by cases p; simp [holdP, newHd]
  rw [e]
  exact PStep.same HP.out (Below.refl _ _))⟩
 case round =>
  obtain ⟨k, A1, ac1, hkn, rfl, HST⟩ := hrel
  by_cases hlt : k < n
  ·have hkl : k < ss.length := by rw [HN.out]; exact hlt
   have hsr := Strs.only HSS.out HST.out.only (fun ad e e0 e2 => by
    rcases e2 with e2 | e2
    ·exact (HNE.out ad e e0).1 e2
    ·exact (HNE.out ad e e0).2 e2)
   obtain ⟨ad, rfl, hcs, hsz⟩ := hsr k hkl
   obtain ⟨s, hsk⟩ : ∃ s, ss[k] = s := ⟨_, rfl⟩
   rw [hsk] at hcs hsz
   obtain ⟨p0, hp0⟩ : ∃ p0, holdP p (ss.take k) = p0 := ⟨_, rfl⟩
   rw [hp0] at HST
   have hlast : p0.last = p.last + k := by
    rw [← hp0]
    show p.last + ((ss.take k).length : Nat) = _
    rw [List.length_take, Nat.min_eq_left (by omega)]
   have hheld : p0.held.length = p.held.length + k := by
    rw [← hp0]
    show (p.held ++ newHd p.last (ss.take k)).length = _
    rw [List.length_append, newHd_len, List.length_take, Nat.min_eq_left (by omega)]
   have hnext : holdP p (ss.take (k + 1)) = ⟨p0.L, p0.known, p0.last + 1, p0.held ++ [⟨p0.last + 1, s, 4, 4⟩]⟩ := by
    rw [List.take_succ_eq_append_getElem hkl, hsk, hlast, ← hp0]
    unfold holdP
    rw [newHd_snoc, List.length_append, List.length_take, Nat.min_eq_left (by omega), List.length_singleton, List.append_assoc]
    congr 1
    omega
   have hc3 : wr.cell? ⟨pb, o + 3, none⟩ = _ := HST.out.at'.cel.cell (j := 1) rfl
   have hf3 : wr.frozen? ⟨pb, o + 3, none⟩ = _ := HST.out.at'.cel.frozen (j := 1) (by simp)
   have hwr1 : IntKind.i64.wrap (p0.last + 1) = p0.last + 1 := by rw [IntKind.wrap_i64]; have := HL0.out; have := HL1.out; have := HNN.out; omega
   have hst1 := HST.out.at'.setLast (p0.last + 1)
   obtain ⟨w1, hw1⟩ : ∃ W, W = wr.setCell ⟨pb, o + 3, none⟩ (.int .i64 (p0.last + 1)) := ⟨_, rfl⟩
   rw [← hw1] at hst1
   obtain ⟨p1, hp1⟩ : ∃ p1 : Pm, (⟨p0.L, p0.known, p0.last + 1, p0.held⟩ : Pm) = p1 := ⟨_, rfl⟩
   rw [hp1] at hst1
   have HST1 := Lib.hid (HST.out.trans hst1)
   have HP1 := Lib.hid hst1.at'
   have HSZ := Lib.hid hsz
   have HNX : Hid (holdP p (ss.take (k + 1)) = ⟨p1.L, p1.known, p1.last, p1.held ++ [⟨p1.last, s, 4, 4⟩]⟩) := Lib.hid (by rw [hnext, ← hp1])
   have HFL : Hid (p1.held.length ≤ 1000) := Lib.hid (by rw [← hp1]; show p0.held.length ≤ 1000; have := HLL.out; omega)
   have HBW1 : Hid (B ≤ w1.heap.size) := Lib.hid (Nat.le_trans HBW.out HST1.out.only.size)
   clear hsr hkl hsk hp0 hlast hheld hnext hst1 hsz hp1 HST
   go_upto_region 5 with (fail)
   rw [← hw1]
   clear hw1 hc3 hf3 hcs
   refine Reg.region_inv (by kernel_rfl) (fun i => ([some (.pointer (some ⟨pb, o, none⟩)), some (.pointer (some ⟨pb, o, none⟩)), some (.pointer (some ⟨pb, o + 3, none⟩)), some (.int .i64 p1.last), some (.string s), some (.string s), some (.agg #[.int .i64 p1.last, .string s, .int .i64 0, .int .i64 0]), none, none] : List (Option Value)).getD i none) (fun D V W => (D 8 = false → Below w1.heap.size w1 W ∧ (D 7 = true → ∃ kz, V 7 = Value.pointer (some ⟨kz, 0, none⟩) ∧ w1.heap.size ≤ kz ∧ Cells W kz 144 [.int .i64 0, .string ⟨#[]⟩, .int .i64 0, .int .i64 0])) ∧ (D 8 = true → ∃ kz, V 7 = Value.pointer (some ⟨kz, 0, none⟩) ∧ w1.heap.size ≤ kz ∧ Cells W kz 144 [.int .i64 (p1.last), .string s, .int .i64 0, .int .i64 0] ∧ Below w1.heap.size w1 W)) (fun V => [(some 21, V 0), (some 22, V 1), (some 23, V 2), (some 24, V 3), (some 25, V 4), (some 26, V 5), (some 27, V 6), (some 7, V 7), (none, V 8)]) (by kernel_rfl) (by kernel_rfl) (fun V => rfl) ?_ ?_ ?_
   ·intro V
    exact ⟨fun _ => ⟨(Below.refl _ _).drew, fun e => (by cases e)⟩, fun e => (by cases e)⟩
   ·intro i o ho
    have hi : i < 9 := (Array.getElem?_eq_some_iff.1 ho).1
    rcases i with _ | _ | _ | _ | _ | _ | _ | _ | _ | i
    rotate_right
    ·omega
    all_goals obtain rfl := Option.some.inj ho
    all_goals intro D V ρ wi hE hI hDi hT hF hs hd hk
    ·have e0 : ρ (.tmp 0) = .pointer (some ⟨pb, o, none⟩) := hs 0; clear hT hF hk
     exact Reg.Gives.value (v := .pointer (some ⟨pb, o, none⟩)) (w' := wi) (by go_simp) ⟨fun x h => Option.some.inj h, hI⟩
    ·have e21 : ρ (.tmp 21) = .pointer (some ⟨pb, o, none⟩) := (hd 0 21).trans (hk 0 _ rfl); clear hT hF hk
     exact Reg.Gives.value (v := .pointer (some ⟨pb, o, none⟩)) (w' := wi) (by go_simp) ⟨fun x h => Option.some.inj h, hI⟩
    ·have e22 : ρ (.tmp 22) = .pointer (some ⟨pb, o, none⟩) := (hd 1 22).trans (hk 1 _ rfl); clear hT hF hk
     exact Reg.Gives.value (v := .pointer (some ⟨pb, o + 3, none⟩)) (w' := wi) (by go_simp) ⟨fun x h => Option.some.inj h, hI⟩
    ·have e23 : ρ (.tmp 23) = .pointer (some ⟨pb, o + 3, none⟩) := (hd 2 23).trans (hk 2 _ rfl); have hD8 : D 8 = false := hF 1 8; clear hT hF; have hL : Below w1.heap.size w1 wi := (hI.1 hD8).1; have x0 : wi.cell? ⟨pb, o + 3, none⟩ = _ := (HP1.out.later hL).cel.cell (j := 1) rfl
     exact Reg.Gives.value (v := .int .i64 p1.last) (w' := wi) (by go_simp) ⟨fun x h => Option.some.inj h, hI⟩
    ·have e6 : ρ (.tmp 6) = .string s := hs 6; clear hT hF hk
     exact Reg.Gives.value (v := .string s) (w' := wi) (by go_simp) ⟨fun x h => Option.some.inj h, hI⟩
    ·have e25 : ρ (.tmp 25) = .string s := (hd 4 25).trans (hk 4 _ rfl); have hf := hE.func; have hD8 : D 8 = false := hF 1 8; clear hT hF; have h1 := hI.1 hD8
     refine Reg.Gives.call (f := 56) (args := #[.string s]) (w' := wi) (by go_simp) ?_
     refine (clone_any s wi HSZ.out).mono ?_
     rintro e w'' ⟨rfl, hbb⟩
     refine ⟨_, rfl, fun x h => Option.some.inj h, ?_⟩
     show ((D 8) = false → Below w1.heap.size w1 w'' ∧ ((D 7) = true → ∃ kz, V 7 = Value.pointer (some ⟨kz, 0, none⟩) ∧ w1.heap.size ≤ kz ∧ Cells w'' kz 144 [.int .i64 0, .string ⟨#[]⟩, .int .i64 0, .int .i64 0])) ∧ ((D 8) = true → ∃ kz, V 7 = Value.pointer (some ⟨kz, 0, none⟩) ∧ w1.heap.size ≤ kz ∧ Cells w'' kz 144 [.int .i64 (p1.last), .string s, .int .i64 0, .int .i64 0] ∧ Below w1.heap.size w1 w'')
     exact ⟨fun _ => ⟨h1.1.trans (hbb.mono h1.1.size), fun e => (by obtain ⟨kk, a1, a2, a3⟩ := h1.2 e; exact ⟨kk, a1, a2, a3.later hbb⟩)⟩, fun e => (by rw [hD8] at e; cases e)⟩
    ·have e24 : ρ (.tmp 24) = .int .i64 p1.last := (hd 3 24).trans (hk 3 _ rfl); have e26 : ρ (.tmp 26) = .string s := (hd 5 26).trans (hk 5 _ rfl); clear hT hF hk
     exact Reg.Gives.value (v := .agg #[.int .i64 p1.last, .string s, .int .i64 0, .int .i64 0]) (w' := wi) (by go_simp) ⟨fun x h => Option.some.inj h, hI⟩
    ·have hD8 : D 8 = false := hF 1 8; clear hT hF; have h1 := hI.1 hD8; have hal := below_alloc wi (.cells #[.int .i64 0, .string ⟨#[]⟩, .int .i64 0, .int .i64 0] 144)
     exact Reg.Gives.value (v := .pointer (some ⟨wi.heap.size, 0, none⟩)) (w' := wi.alloc (.cells #[.int .i64 0, .string ⟨#[]⟩, .int .i64 0, .int .i64 0] 144)) (by go_simp) ⟨fun x h => (by cases h), by show ((D 8) = false → Below w1.heap.size w1 (wi.alloc (.cells #[.int .i64 0, .string ⟨#[]⟩, .int .i64 0, .int .i64 0] 144)) ∧ (true = true → ∃ kz, (Value.pointer (some ⟨wi.heap.size, 0, none⟩)) = Value.pointer (some ⟨kz, 0, none⟩) ∧ w1.heap.size ≤ kz ∧ Cells (wi.alloc (.cells #[.int .i64 0, .string ⟨#[]⟩, .int .i64 0, .int .i64 0] 144)) kz 144 [.int .i64 0, .string ⟨#[]⟩, .int .i64 0, .int .i64 0])) ∧ ((D 8) = true → ∃ kz, (Value.pointer (some ⟨wi.heap.size, 0, none⟩)) = Value.pointer (some ⟨kz, 0, none⟩) ∧ w1.heap.size ≤ kz ∧ Cells (wi.alloc (.cells #[.int .i64 0, .string ⟨#[]⟩, .int .i64 0, .int .i64 0] 144)) kz 144 [.int .i64 (p1.last), .string s, .int .i64 0, .int .i64 0] ∧ Below w1.heap.size w1 (wi.alloc (.cells #[.int .i64 0, .string ⟨#[]⟩, .int .i64 0, .int .i64 0] 144))); exact ⟨fun _ => ⟨h1.1.trans (hal.mono h1.1.size), fun _ => ⟨_, rfl, h1.1.size, cells_new _ _ _ _ rfl⟩⟩, fun e => (by rw [hD8] at e; cases e)⟩⟩
    ·have e7 : ρ (.tmp 7) = V 7 := hd 7 7; have e27 : ρ (.tmp 27) = .agg #[.int .i64 p1.last, .string s, .int .i64 0, .int .i64 0] := (hd 6 27).trans (hk 6 _ rfl); have hD7 : D 7 = true := hT 1 7; have hD8 : D 8 = false := hDi; clear hT hF; have h1 := hI.1 hD8; obtain ⟨kk, a1, a2, a3⟩ := h1.2 hD7
     rw [a1] at e7
     obtain ⟨k1, k2⟩ := a3.put (l := [.int .i64 (p1.last), .string s, .int .i64 0, .int .i64 0]) rfl; have k3 := a3.there (n := 4) (Nat.le_refl 4)
     exact Reg.Gives.skip (exec_store 144 _ _ rfl kk 0 #[.int .i64 p1.last, .string s, .int .i64 0, .int .i64 0] (by assumption) (by assumption) (run_storeVar_mid _ kk 0 144 #[.int .i64 p1.last, .string s, .int .i64 0, .int .i64 0] k3 (by kernel_rfl) (by simp [Value.oneCell']))) ⟨fun x h => (by cases h), by show (true = false → Below w1.heap.size w1 (wi.setCells kk 0 [.int .i64 (p1.last), .string s, .int .i64 0, .int .i64 0]) ∧ ((D 7) = true → ∃ kz, V 7 = Value.pointer (some ⟨kz, 0, none⟩) ∧ w1.heap.size ≤ kz ∧ Cells (wi.setCells kk 0 [.int .i64 (p1.last), .string s, .int .i64 0, .int .i64 0]) kz 144 [.int .i64 0, .string ⟨#[]⟩, .int .i64 0, .int .i64 0])) ∧ (true = true → ∃ kz, V 7 = Value.pointer (some ⟨kz, 0, none⟩) ∧ w1.heap.size ≤ kz ∧ Cells (wi.setCells kk 0 [.int .i64 (p1.last), .string s, .int .i64 0, .int .i64 0]) kz 144 [.int .i64 (p1.last), .string s, .int .i64 0, .int .i64 0] ∧ Below w1.heap.size w1 (wi.setCells kk 0 [.int .i64 (p1.last), .string s, .int .i64 0, .int .i64 0])); exact ⟨fun e => (by cases e), fun _ => ⟨kk, a1, a2, k1, h1.1.trans (k2.below h1.1.size fun k e => by rw [e]; exact a2)⟩⟩⟩
   ·intro V w2 hk hI
    simp only [Reg.putsO, List.foldl_cons, List.foldl_nil, Act.put, List.setIfInBounds_toArray, List.set_cons_succ, List.set_cons_zero]
    replace hI : ((fun _ => true) 8 = false → Below w1.heap.size w1 w2 ∧ ((fun _ => true) 7 = true → ∃ kz, V 7 = Value.pointer (some ⟨kz, 0, none⟩) ∧ w1.heap.size ≤ kz ∧ Cells w2 kz 144 [.int .i64 0, .string ⟨#[]⟩, .int .i64 0, .int .i64 0])) ∧ ((fun _ => true) 8 = true → ∃ kz, V 7 = Value.pointer (some ⟨kz, 0, none⟩) ∧ w1.heap.size ≤ kz ∧ Cells w2 kz 144 [.int .i64 (p1.last), .string s, .int .i64 0, .int .i64 0] ∧ Below w1.heap.size w1 w2) := hI
    clear hk
    obtain ⟨kk, hv7, hkk, hck, hb2⟩ := hI.2 rfl
    rw [hv7]
    clear hI hv7
    have HBG := Lib.hid (begin_any (h := ⟨p1.last, s, 0, 0⟩) (CellsO.of hck))
    have hcx : Cells ((w2.setCell ⟨kk, 2, none⟩ (.int .i64 4)).setCell ⟨kk, 3, none⟩ (.int .i64 4)) kk 144 (Hd.vals ⟨p1.last, s, 4, 4⟩) := (hck.set_ 2 (.int .i64 4)).set_ 3 (.int .i64 4)
    have hb3 : Below w1.heap.size w1 ((w2.setCell ⟨kk, 2, none⟩ (.int .i64 4)).setCell ⟨kk, 3, none⟩ (.int .i64 4)) := hb2.trans (((Only.of_set w2 ⟨kk, 2, none⟩ (.int .i64 4)).trans (Only.of_set _ ⟨kk, 3, none⟩ (.int .i64 4)) fun _ _ e => e).below hb2.size fun i e => by rw [e]; exact hkk)
    have HCX0 := Lib.hid hcx
    have HB3 := Lib.hid hb3
    clear hcx hb3 hck hb2 hkk
    go_wp2_with fail
    refine HBG.out.mono ?_
    rintro e w3 ⟨rfl, hw3⟩
    have hw3' : (w2.setCell ⟨kk, 2, none⟩ (.int .i64 4)).setCell ⟨kk, 3, none⟩ (.int .i64 4) = w3 := by
     rw [hw3]
    rw [hw3'] at HCX0 HB3
    obtain ⟨x, hx⟩ : ∃ x : Hd, (⟨p1.last, s, 4, 4⟩ : Hd) = x := ⟨_, rfl⟩
    rw [hx] at HCX0 HNX
    have HCX := HCX0
    have HP3 := Lib.hid (HP1.out.later HB3.out)
    have HST3 := Lib.hid (HST1.out.after HB3.out)
    have HBW3 : Hid (B ≤ w3.heap.size) := Lib.hid (Nat.le_trans HBW1.out HB3.out.size)
    obtain ⟨n1, hn1⟩ : ∃ n1, p1.held.length = n1 := ⟨_, rfl⟩
    have HN1 := Lib.hid hn1
    obtain ⟨kb, hkb⟩ : ∃ kb, kb = kk := ⟨_, rfl⟩
    subst hkb
    clear hw3 hw3' HBG hx HCX0 hn1 HBW1 HB3
    go_upto_region 7 with (fail)
    refine Reg.region_inv (by kernel_rfl) (fun i => ([some (.pointer (some ⟨pb, o, none⟩)), some (.pointer (some ⟨pb, o, none⟩)), some (.pointer (some ⟨pb, o, none⟩)), some (.pointer (some ⟨pb, o + 4, none⟩)), some (.slice A1 n1 ac1), some (.agg #[.int .i64 x.seq, .string x.pay, .int .i64 x.delay, .int .i64 x.left]), none, none, some (.pointer (some ⟨pb, o, none⟩)), some (.pointer (some ⟨pb, o + 4, none⟩)), none] : List (Option Value)).getD i none) (fun D V W => (D 7 = false → Below w3.heap.size w3 W ∧ (D 6 = true → ∃ kz, V 6 = Value.slice (some ⟨kz, 0, none⟩) 1 1 ∧ Cells W kz 144 (Hd.vals x))) ∧ (D 7 = true → D 10 = false → HPend B w3 A1 p1 x (V 7) W) ∧ (D 10 = true → ∃ A9 c9, PStep B pb o A1 w3 ⟨p1.L, p1.known, p1.last, p1.held ++ [x]⟩ A9 c9 W)) (fun V => [(some 29, V 0), (some 30, V 1), (some 31, V 2), (some 32, V 3), (some 33, V 4), (some 34, V 5), (some 35, V 6), (some 36, V 7), (some 37, V 8), (some 38, V 9), (none, V 10)]) (by kernel_rfl) (by kernel_rfl) (fun V => rfl) ?_ ?_ ?_
    ·intro V
     exact ⟨fun _ => ⟨(Below.refl _ _).drew, fun e => (by cases e)⟩, fun e => (by cases e), fun e => (by cases e)⟩
    ·intro i o ho
     have hi : i < 11 := (Array.getElem?_eq_some_iff.1 ho).1
     rcases i with _ | _ | _ | _ | _ | _ | _ | _ | _ | _ | _ | i
     rotate_right
     ·omega
     all_goals obtain rfl := Option.some.inj ho
     all_goals intro D V ρ wi hE hI hDi hT hF hs hd hk
     ·have e0 : ρ (.tmp 0) = .pointer (some ⟨pb, o, none⟩) := hs 0; clear hT hF hk
      exact Reg.Gives.value (v := .pointer (some ⟨pb, o, none⟩)) (w' := wi) (by go_simp) ⟨fun x h => Option.some.inj h, hI⟩
     ·have e0 : ρ (.tmp 0) = .pointer (some ⟨pb, o, none⟩) := hs 0; clear hT hF hk
      exact Reg.Gives.value (v := .pointer (some ⟨pb, o, none⟩)) (w' := wi) (by go_simp) ⟨fun x h => Option.some.inj h, hI⟩
     ·have e30 : ρ (.tmp 30) = .pointer (some ⟨pb, o, none⟩) := (hd 1 30).trans (hk 1 _ rfl); clear hT hF hk
      exact Reg.Gives.value (v := .pointer (some ⟨pb, o, none⟩)) (w' := wi) (by go_simp) ⟨fun x h => Option.some.inj h, hI⟩
     ·have e31 : ρ (.tmp 31) = .pointer (some ⟨pb, o, none⟩) := (hd 2 31).trans (hk 2 _ rfl); clear hT hF hk
      exact Reg.Gives.value (v := .pointer (some ⟨pb, o + 4, none⟩)) (w' := wi) (by go_simp) ⟨fun x h => Option.some.inj h, hI⟩
     ·have e32 : ρ (.tmp 32) = .pointer (some ⟨pb, o + 4, none⟩) := (hd 3 32).trans (hk 3 _ rfl); have hD7 : D 7 = false := hF 1 7; clear hT hF; have hL : Below w3.heap.size w3 wi := (hI.1 hD7).1; have x0 : wi.cell? ⟨pb, o + 4, none⟩ = _ := (HP3.out.later hL).cel.cell (j := 2) rfl
      rw [HN1.out] at x0
      exact Reg.Gives.value (v := .slice A1 n1 ac1) (w' := wi) (by go_simp) ⟨fun x h => Option.some.inj h, hI⟩
     ·have e7 : ρ (.tmp 7) = .pointer (some ⟨kb, 0, none⟩) := hs 7; have hD7 : D 7 = false := hF 2 7; clear hT hF; have hL : Below w3.heap.size w3 wi := (hI.1 hD7).1; have hq := HCX.out.later hL; have y0 := hq.cell (j := 0) rfl; have y1 := hq.cell (j := 1) rfl; have y2 := hq.cell (j := 2) rfl; have y3 := hq.cell (j := 3) rfl
      exact Reg.Gives.value (v := .agg #[.int .i64 x.seq, .string x.pay, .int .i64 x.delay, .int .i64 x.left]) (w' := wi) (by go_simp) ⟨fun x h => Option.some.inj h, hI⟩
     ·have e34 : ρ (.tmp 34) = .agg #[.int .i64 x.seq, .string x.pay, .int .i64 x.delay, .int .i64 x.left] := (hd 5 34).trans (hk 5 _ rfl); have hD7 : D 7 = false := hF 1 7; have hD10 : D 10 = false := hF 1 10; clear hT hF; have h1 := hI.1 hD7; have hal := below_alloc wi (.cells #[.int .i64 x.seq, .string x.pay, .int .i64 x.delay, .int .i64 x.left] 144)
      exact Reg.Gives.value (v := .slice (some ⟨wi.heap.size, 0, none⟩) 1 1) (w' := wi.alloc (.cells #[.int .i64 x.seq, .string x.pay, .int .i64 x.delay, .int .i64 x.left] 144)) (by go_simp) ⟨fun x h => (by cases h), by show ((D 7) = false → Below w3.heap.size w3 (wi.alloc (.cells #[.int .i64 x.seq, .string x.pay, .int .i64 x.delay, .int .i64 x.left] 144)) ∧ (true = true → ∃ kz, (Value.slice (some ⟨wi.heap.size, 0, none⟩) 1 1) = Value.slice (some ⟨kz, 0, none⟩) 1 1 ∧ Cells (wi.alloc (.cells #[.int .i64 x.seq, .string x.pay, .int .i64 x.delay, .int .i64 x.left] 144)) kz 144 (Hd.vals x))) ∧ ((D 7) = true → (D 10) = false → HPend B w3 A1 p1 x (V 7) (wi.alloc (.cells #[.int .i64 x.seq, .string x.pay, .int .i64 x.delay, .int .i64 x.left] 144))) ∧ ((D 10) = true → ∃ A9 c9, PStep B pb o A1 w3 ⟨p1.L, p1.known, p1.last, p1.held ++ [x]⟩ A9 c9 (wi.alloc (.cells #[.int .i64 x.seq, .string x.pay, .int .i64 x.delay, .int .i64 x.left] 144))); exact ⟨fun _ => ⟨h1.1.trans (hal.mono h1.1.size), fun _ => ⟨_, rfl, cells_new _ _ _ _ rfl⟩⟩, fun e => (by rw [hD7] at e; cases e), fun e => (by rw [hD10] at e; cases e)⟩⟩
     ·have e33 : ρ (.tmp 33) = .slice A1 n1 ac1 := (hd 4 33).trans (hk 4 _ rfl); have e35 : ρ (.tmp 35) = V 6 := hd 6 35; have hD6 : D 6 = true := hT 1 6; have hD7 : D 7 = false := hDi; have hD10 : D 10 = false := hF 1 10; clear hT hF; have h1 := hI.1 hD7; obtain ⟨kk, hv2, hcs⟩ := h1.2 hD6
      rw [hv2] at e35
      obtain ⟨v2, w5, hrun, hpd⟩ := HP3.out.grow HBW3.out h1.1 hcs HFL.out
      rw [HN1.out] at hrun
      exact Reg.Gives.value (v := v2) (w' := w5) (Reg.exec_append rfl e33 e35 hrun) ⟨fun x h => (by cases h), by show (true = false → Below w3.heap.size w3 w5 ∧ ((D 6) = true → ∃ kz, (V 6) = Value.slice (some ⟨kz, 0, none⟩) 1 1 ∧ Cells w5 kz 144 (Hd.vals x))) ∧ (true = true → (D 10) = false → HPend B w3 A1 p1 x v2 w5) ∧ ((D 10) = true → ∃ A9 c9, PStep B pb o A1 w3 ⟨p1.L, p1.known, p1.last, p1.held ++ [x]⟩ A9 c9 w5); exact ⟨fun e => (by cases e), fun _ _ => hpd, fun e => (by rw [hD10] at e; cases e)⟩⟩
     ·have e29 : ρ (.tmp 29) = .pointer (some ⟨pb, o, none⟩) := (hd 0 29).trans (hk 0 _ rfl); clear hT hF hk
      exact Reg.Gives.value (v := .pointer (some ⟨pb, o, none⟩)) (w' := wi) (by go_simp) ⟨fun x h => Option.some.inj h, hI⟩
     ·have e37 : ρ (.tmp 37) = .pointer (some ⟨pb, o, none⟩) := (hd 8 37).trans (hk 8 _ rfl); clear hT hF hk
      exact Reg.Gives.value (v := .pointer (some ⟨pb, o + 4, none⟩)) (w' := wi) (by go_simp) ⟨fun x h => Option.some.inj h, hI⟩
     ·have e38 : ρ (.tmp 38) = .pointer (some ⟨pb, o + 4, none⟩) := (hd 9 38).trans (hk 9 _ rfl); have e36 : ρ (.tmp 36) = V 7 := hd 7 36; have hD7 : D 7 = true := hT 1 7; have hD10 : D 10 = false := hDi; clear hT hF; have h2 := hI.2.1 hD7 hD10; obtain ⟨A2, n2, c2, hv2, x1, x2, hfin⟩ := h2.put HP3.out; have e9 := e36
      rw [hv2] at e9
      clear e36
      exact Reg.Gives.skip (w' := wi.setCell ⟨pb, o + 4, none⟩ (.slice A2 n2 c2)) (by go_simp) ⟨fun x h => (by cases h), by show ((D 7) = false → Below w3.heap.size w3 (wi.setCell ⟨pb, o + 4, none⟩ (.slice A2 n2 c2)) ∧ ((D 6) = true → ∃ kz, (V 6) = Value.slice (some ⟨kz, 0, none⟩) 1 1 ∧ Cells (wi.setCell ⟨pb, o + 4, none⟩ (.slice A2 n2 c2)) kz 144 (Hd.vals x))) ∧ ((D 7) = true → true = false → HPend B w3 A1 p1 x (V 7) (wi.setCell ⟨pb, o + 4, none⟩ (.slice A2 n2 c2))) ∧ (true = true → ∃ A9 c9, PStep B pb o A1 w3 ⟨p1.L, p1.known, p1.last, p1.held ++ [x]⟩ A9 c9 (wi.setCell ⟨pb, o + 4, none⟩ (.slice A2 n2 c2))); exact ⟨fun e => (by rw [hD7] at e; cases e), fun _ e => (by cases e), fun _ => ⟨A2, c2, hfin⟩⟩⟩
    ·intro V w4 hk hI
     simp only [Reg.putsO, List.foldl_cons, List.foldl_nil, Act.put, List.setIfInBounds_toArray, List.set_cons_succ, List.set_cons_zero]
     replace hI : ((fun _ => true) 7 = false → Below w3.heap.size w3 w4 ∧ ((fun _ => true) 6 = true → ∃ kz, V 6 = Value.slice (some ⟨kz, 0, none⟩) 1 1 ∧ Cells w4 kz 144 (Hd.vals x))) ∧ ((fun _ => true) 7 = true → (fun _ => true) 10 = false → HPend B w3 A1 p1 x (V 7) w4) ∧ ((fun _ => true) 10 = true → ∃ A9 c9, PStep B pb o A1 w3 ⟨p1.L, p1.known, p1.last, p1.held ++ [x]⟩ A9 c9 w4) := hI
     clear hk
     obtain ⟨A2, c2, hst4⟩ := hI.2.2 rfl
     have hst5 := HST3.out.trans hst4
     rw [← HNX.out] at hst5
     have HST5 := Lib.hid hst5
     clear hI hst4 hst5
     go_wp2_with fail
     go_roundw
     case rel => exact ⟨k + 1, A2, c2, by omega, by go_num, HST5⟩
     case measure => simp [intOf]; omega
  ·obtain rfl : k = n := by omega
   have htk : ss.take k = ss := List.take_of_length_le (by rw [HN.out]; exact Nat.le_refl _)
   rw [htk] at HST
   have hat := HST.out.at'
   have hm : (holdP p ss).held.length = p.held.length + k := by
    show (p.held ++ newHd p.last ss).length = _
    rw [List.length_append, newHd_len, HN.out]
   have hdr : (holdP p ss).held.drop p.held.length = newHd p.last ss := by
    show (p.held ++ newHd p.last ss).drop _ = _
    rw [List.drop_left]
   have hc4 : wr.cell? ⟨pb, o + 4, none⟩ = _ := hat.cel.cell (j := 2) rfl
   rw [hm] at hc4
   obtain ⟨m, hmm⟩ : ∃ m, p.held.length = m := ⟨_, rfl⟩
   have hwr : IntKind.i64.wrap (m : Int) = (m : Int) := by rw [IntKind.wrap_i64]; have := HLL.out; omega
   have hacc : m + k ≤ ac1 := by
    have h1 := hat.row
    unfold OwnG at h1
    rcases h1.2 with ⟨e1, e2⟩ | ⟨g', cap', cur, e, k2, k3, k4, k5, k6, k7⟩
    ·rw [hm, hmm] at e2
     omega
    ·simp only [Value.slice.injEq] at e
     rw [hm, hmm] at k4
     omega
   obtain ⟨A2, hsl, hA2⟩ := held_from hat (m := m) (n := k) (by rw [hm, hmm]) hacc
   have hdr2 : (holdP p ss).held.drop m = newHd p.last ss := by rw [← hmm]; exact hdr
   rw [hdr2] at hsl
   rw [hmm] at hc4
   have HSL := Lib.hid hsl
   have HA2 := Lib.hid hA2
   have b1 : m ≤ ac1 := by omega
   have b2 : (m : Int) ≤ (m : Int) + (k : Int) := by omega
   have b3 : (m : Int) + (k : Int) ≤ (ac1 : Int) := by omega
   have b4 : m ≤ m + k := by omega
   clear hat hm hdr hdr2 hmm hsl hA2 htk
   by_cases hcm : ac1 = m
   ·subst hcm
    have hk0 : k = 0 := by omega
    subst hk0
    rw [if_pos rfl] at HA2
    go_wp2_with fail
    go_quiet (fail)
    go_wp2_with fail
    go_returns
    exact ⟨A1, ac1, A2, _, by rw [HA2.out]; rfl, HST.out.after (below_drewN (Below.refl _ _) _), HSL.out.later (below_drewN (Below.refl _ _) _)⟩
   ·rw [if_neg hcm] at HA2
    go_wp2_with fail
    go_quiet (fail)
    go_wp2_with fail
    go_returns
    exact ⟨A1, ac1, A2, _, by rw [HA2.out]; rfl, HST.out.after (below_drewN (Below.refl _ _) _), HSL.out.later (below_drewN (Below.refl _ _) _)⟩
end
end Go.Proofs.Ytccdpgbmkiapdaa.Ses
