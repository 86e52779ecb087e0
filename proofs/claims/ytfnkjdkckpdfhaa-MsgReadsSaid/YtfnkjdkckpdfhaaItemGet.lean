/-
  Layer 6: names read of bytes: a reader in memory, and what it reads. Conditions: none.
-/
import Derived.Test.YtfnkjdkckpdfhaaItemMem
import Derived.Test.YtfnkjdkckpdfhaaRd
import Derived.Test.YtfnkjdkckpdfhaaReg4
namespace Go.Proofs.Ytfnkjdkckpdfhaa.Item
open Go.RowKit Go.Proofs.Ytfnkjdkckpdfhaa.Mem Go.Proofs.Ytfnkjdkckpdfhaa.Wire

/-- Layer 6's reader in block p, over layer 2's in block g: s is left; b: it is broken. -/
structure IRd (w : World) (p g : Nat) (s : ByteArray) (b : Bool) : Prop where
  ptr : ∃ t, Cells w p t [.pointer (some ⟨g, 0, none⟩)]
  far : p ≠ g
  rd : Rd w (some g) s b
theorem IRd.lt {w : World} {p g : Nat} {s : ByteArray} {b : Bool} (h : IRd w p g s b) : p < w.heap.size ∧ g < w.heap.size := by
  obtain ⟨t, hc⟩ := h.ptr
  exact ⟨hc.lt, (h.rd.cells g rfl).lt⟩
theorem IRd.only {S : Nat → Prop} {w w' : World} {p g : Nat} {s : ByteArray} {b : Bool} (h : IRd w p g s b) (ho : Only S w w') (hp : ¬ S p) (hg : ¬ S g) : IRd w' p g s b := by
  obtain ⟨t, hc⟩ := h.ptr
  exact ⟨⟨t, cells_only hc ho hp⟩, h.far, h.rd.only ho fun k hk => by obtain rfl := Option.some.inj hk; exact hg⟩
theorem IRd.later {w w' : World} {p g : Nat} {s : ByteArray} {b : Bool} (h : IRd w p g s b) (hb : Below w.heap.size w w') : IRd w' p g s b := h.only (S := fun _ => False) (Only.of_below hb) (fun h => h) fun h => h
/-- It goes on: the reader of layer 2 alone has turned. -/
theorem IRd.move {w w' : World} {p g : Nat} {s s' : ByteArray} {b b' : Bool} (h : IRd w p g s b) (hr : Rd w' (some g) s' b') (hf : Wire.Foot (some g) w w') : IRd w' p g s' b' := by
  obtain ⟨t, hc⟩ := h.ptr
  exact ⟨⟨t, cells_only hc hf (by intro e; exact h.far (Option.some.inj e))⟩, h.far, hr⟩
theorem IRd.cell {w : World} {p g : Nat} {s : ByteArray} {b : Bool} (h : IRd w p g s b) : w.cell? ⟨p, 0, none⟩ = some (.pointer (some ⟨g, 0, none⟩)) := by
  obtain ⟨t, hc⟩ := h.ptr
  exact hc.cell rfl

theorem inew_any (w : World) (s : ByteArray) (hs : s.size ≤ 140737488355328) :
    Calls Try.prog 29 #[.string s] w fun e w' => ∃ p g, e = .returned (.pointer (some ⟨p, 0, none⟩)) ∧ IRd w' p g s false ∧ w.heap.size ≤ p ∧ w.heap.size ≤ g ∧ Below w.heap.size w w' := by
  go_enter Try.func29, Try.ntmps29
  go_wp2_with fail
  refine (newReader_any w s hs).mono ?_
  rintro e w1 ⟨rfl, hr, hb⟩
  have hlt := (hr.cells _ rfl).lt
  have HR : Hid (IRd (w1.alloc (.cells #[.pointer (some ⟨w.heap.size, 0, none⟩)] 67)) w1.heap.size w.heap.size s false) := Lib.hid ⟨⟨_, cells_new w1 _ _ _ rfl⟩, by omega, hr.later (below_alloc _ _)⟩
  have HB := Lib.hid (hb.alloc hb.size (.cells #[.pointer (some ⟨w.heap.size, 0, none⟩)] 67))
  have HS := Lib.hid hb.size
  clear hr hb hlt
  unfold Wire.ptr
  go_wp2_with fail
  go_returns
  exact ⟨w1.heap.size, w.heap.size, rfl, HR.out, HS.out, Nat.le_refl _, HB.out⟩
theorem broken_any (w : World) (p g : Nat) (s : ByteArray) (b : Bool) (h : IRd w p g s b) :
    Calls Try.prog 66 #[.pointer (some ⟨p, 0, none⟩)] w fun e w' => e = .returned (.bool b) ∧ w = w' := by
  have hc := h.cell
  have HE := Lib.hid (end_any w (some g) s b h.rd)
  have HV : Hid ((endV s b == 2) = b) := Lib.hid (by
    unfold endV
    cases b
    · by_cases hs : s = nil <;> simp [hs]
    · simp)
  clear h
  go_enter Try.func66, Try.ntmps66
  go_wp2_with fail
  refine HE.out.mono ?_
  rintro e w1 ⟨rfl, rfl⟩
  go_wp2_with fail
  go_returns
  exact ⟨ret_val (congrArg Value.bool HV.out), rfl⟩

/-- The three numbers of a name. -/
def n1 (s : ByteArray) : Int := IntKind.i64.wrap (num s 8 : Nat)
def n2 (s : ByteArray) : Int := IntKind.i64.wrap (num (rest s 8) 8 : Nat)
def n3 (s : ByteArray) : Int := IntKind.i64.wrap (num (rest (rest s 8) 8) 8 : Nat)
/-- What is left behind a name, and whether the reader is broken then. -/
def restTid (s : ByteArray) : ByteArray := rest (rest (rest s 8) 8) 8
def brkTid (s : ByteArray) (b : Bool) : Bool := brk (rest (rest s 8) 8) (brk (rest s 8) (brk s b 8) 8) 8
def readTid (s : ByteArray) (b : Bool) : Tid := if brkTid s b then ⟨0, 0, 0⟩ else ⟨n1 s, n2 s, n3 s⟩

theorem foot_set {w w' : World} {p : Option Nat} {a : Addr} (h : Wire.Foot p w w') (ha : w.heap.size ≤ a.block) (u : Value) : Wire.Foot p w (w'.setCell a u) :=
  ⟨h.os, h.tape, h.output, by simpa [World.setCell] using h.size, fun k hk hn => (Below.heap_setCell w' a u k (by omega)).trans (h.block k hk hn)⟩
/-- While a name is read: which of the three numbers were read; a block of the name's own; was it written? -/
structure tidSt (p g : Nat) (s : ByteArray) (b d4 d9 d14 d16 d17 : Bool) (v : Value) (w0 w : World) : Prop where
  it : IRd w p g (cond d14 (restTid s) (cond d9 (rest (rest s 8) 8) (cond d4 (rest s 8) s))) (cond d14 (brkTid s b) (cond d9 (brk (rest s 8) (brk s b 8) 8) (cond d4 (brk s b 8) b)))
  foot : Wire.Foot (some g) w0 w
  low : g < w0.heap.size
  blk : d16 = true → ∃ k, v = .pointer (some ⟨k, 0, none⟩) ∧ w0.heap.size ≤ k ∧ Cells w k 23 (cond d17 [.int .i64 (n1 s), .int .i64 (n2 s), .int .i64 (n3 s)] [.int .i64 0, .int .i64 0, .int .i64 0])
section
variable {p g : Nat} {s : ByteArray} {b d4 d9 d14 d16 d17 : Bool} {v : Value} {w0 w w' : World}
theorem tidSt.ptr (h : tidSt p g s b d4 d9 d14 d16 d17 v w0 w) : w.cell? ⟨p, 0, none⟩ = some (.pointer (some ⟨g, 0, none⟩)) := h.it.cell
theorem tidSt.rd (h : tidSt p g s b d4 d9 d14 d16 d17 v w0 w) : Rd w (some g) (cond d14 (restTid s) (cond d9 (rest (rest s 8) 8) (cond d4 (rest s 8) s))) (cond d14 (brkTid s b) (cond d9 (brk (rest s 8) (brk s b 8) 8) (cond d4 (brk s b 8) b))) := h.it.rd
theorem tidSt.move {e4 e9 e14 : Bool} (h : tidSt p g s b d4 d9 d14 d16 d17 v w0 w) (hr : Rd w' (some g) (cond e14 (restTid s) (cond e9 (rest (rest s 8) 8) (cond e4 (rest s 8) s))) (cond e14 (brkTid s b) (cond e9 (brk (rest s 8) (brk s b 8) 8) (cond e4 (brk s b 8) b)))) (hf : Wire.Foot (some g) w w') :
    tidSt p g s b e4 e9 e14 d16 d17 v w0 w' := by
  refine ⟨h.it.move hr hf, foot_trans h.foot hf, h.low, fun hd => ?_⟩
  obtain ⟨k, h1, h2, h3⟩ := h.blk hd
  exact ⟨k, h1, h2, cells_only h3 hf (by intro e; have := Option.some.inj e; have := h.low; omega)⟩
theorem tidSt.alloc (h : tidSt p g s b d4 d9 d14 false false v w0 w) : tidSt p g s b d4 d9 d14 true false (.pointer (some ⟨w.heap.size, 0, none⟩)) w0 (w.alloc (.cells #[.int .i64 0, .int .i64 0, .int .i64 0] 23)) :=
  ⟨h.it.later (below_alloc _ _), foot_after h.foot (below_alloc _ _), h.low, fun _ => ⟨_, rfl, h.foot.size, cells_new w _ _ _ rfl⟩⟩
theorem tidSt.store {k : Nat} (h : tidSt p g s b d4 d9 d14 true false v w0 w) (hv : v = .pointer (some ⟨k, 0, none⟩)) (hk : w0.heap.size ≤ k) :
    tidSt p g s b d4 d9 d14 true true v w0 (((w.setCell ⟨k, 0, none⟩ (.int .i64 (n1 s))).setCell ⟨k, 1, none⟩ (.int .i64 (n2 s))).setCell ⟨k, 2, none⟩ (.int .i64 (n3 s))) := by
  obtain ⟨k', h1, _, h3⟩ := h.blk rfl
  obtain rfl : k = k' := by
    rw [hv] at h1
    simpa using h1
  have ho : Only (fun i => i = k) w (((w.setCell ⟨k, 0, none⟩ (.int .i64 (n1 s))).setCell ⟨k, 1, none⟩ (.int .i64 (n2 s))).setCell ⟨k, 2, none⟩ (.int .i64 (n3 s))) :=
    ((Only.of_set w ⟨k, 0, none⟩ _).trans (Only.of_set _ ⟨k, 1, none⟩ _) fun _ _ h => h).trans (Only.of_set _ ⟨k, 2, none⟩ _) fun _ _ h => h
  have hlow := h.low
  have hp : p ≠ k → ¬ (fun i => i = k) p := fun h => h
  have hpk : p ≠ k := by
    obtain ⟨t, hc⟩ := h.it.ptr
    intro e
    subst e
    have c1 := hc.cell (j := 0) rfl
    have c2 := h3.cell (j := 0) rfl
    rw [c1] at c2
    cases c2
  refine ⟨h.it.only ho hpk (by omega), ?_, h.low, fun _ => ⟨k, hv, hk, ((h3.set_ 0 _).set_ 1 _).set_ 2 _⟩⟩
  refine ⟨ho.os.trans h.foot.os, ho.tape.trans h.foot.tape, ho.output.trans h.foot.output, Nat.le_trans h.foot.size ho.size, fun i hi hn => ?_⟩
  exact (ho.block i (Nat.lt_of_lt_of_le hi h.foot.size) (by omega)).trans (h.foot.block i hi hn)
end
set_option maxHeartbeats 1000000 in
theorem rTid_any (w : World) (p g : Nat) (s : ByteArray) (b : Bool) (h : IRd w p g s b) :
    Calls Try.prog 54 #[.pointer (some ⟨p, 0, none⟩)] w fun e w' => e = .returned (readTid s b).val ∧ IRd w' p g (restTid s) (brkTid s b) ∧ Wire.Foot (some g) w w' := by
  have hb2 := below_alloc w (.cells #[.int .i64 0, .int .i64 0, .int .i64 0] 23)
  have HT := Lib.hid (h.later hb2)
  have HB2 := Lib.hid hb2
  have HC := Lib.hid (cells_new w 23 [.int .i64 0, .int .i64 0, .int .i64 0] #[.int .i64 0, .int .i64 0, .int .i64 0] rfl)
  have HN : Hid (g < w.heap.size) := Lib.hid h.lt.2
  have HPN : Hid (p < w.heap.size) := Lib.hid h.lt.1
  clear h hb2
  go_enter Try.func54, Try.ntmps54
  go_wp2_with fail
  obtain ⟨w2, hw2⟩ : ∃ w2, w2 = w.alloc (.cells #[.int .i64 0, .int .i64 0, .int .i64 0] 23) := ⟨_, rfl⟩
  rw [← hw2] at HT HB2 HC ⊢
  have HI : Hid (∀ V : Nat → Value, tidSt p g s b false false false false false (V 16) w2 w2.drew) := Lib.hid fun V => ⟨HT.out.later (Below.refl _ _).drew, Only.of_below (Below.refl _ _).drew, HT.out.lt.2, fun h => by cases h⟩
  clear hw2
  refine Reg.region_inv (by kernel_rfl) (fun i => ([some (.pointer (some ⟨p, 0, none⟩)), some (.pointer (some ⟨p, 0, none⟩)), some (.pointer (some ⟨p, 0, none⟩)), some (.pointer (some ⟨g, 0, none⟩)), some (.int .i64 (n1 s)), some (.pointer (some ⟨p, 0, none⟩)), some (.pointer (some ⟨p, 0, none⟩)), some (.pointer (some ⟨p, 0, none⟩)), some (.pointer (some ⟨g, 0, none⟩)), some (.int .i64 (n2 s)), some (.pointer (some ⟨p, 0, none⟩)), some (.pointer (some ⟨p, 0, none⟩)), some (.pointer (some ⟨p, 0, none⟩)), some (.pointer (some ⟨g, 0, none⟩)), some (.int .i64 (n3 s)), some (.agg #[.int .i64 (n1 s), .int .i64 (n2 s), .int .i64 (n3 s)]), none, none] : List (Option Value)).getD i none) (fun D V W => tidSt p g s b (D 4) (D 9) (D 14) (D 16) (D 17) (V 16) w2 W) (fun V => [(some 7, V 0), (some 8, V 1), (some 9, V 2), (some 10, V 3), (some 11, V 4), (some 12, V 5), (some 13, V 6), (some 14, V 7), (some 15, V 8), (some 16, V 9), (some 17, V 10), (some 18, V 11), (some 19, V 12), (some 20, V 13), (some 21, V 14), (some 22, V 15), (some 3, V 16), (none, V 17)]) (by kernel_rfl) (by kernel_rfl) (fun V => rfl) ?_ ?_ ?_
  · intro V
    exact HI.out V
  · intro i o ho
    have hi : i < 18 := (Array.getElem?_eq_some_iff.1 ho).1
    rcases i with _ | _ | _ | _ | _ | _ | _ | _ | _ | _ | _ | _ | _ | _ | _ | _ | _ | _ | i
    · obtain rfl := Option.some.inj ho
      intro D V ρ wi hE hI hDi hT hF hs hd hk
      have e0 : ρ (.tmp 0) = .pointer (some ⟨p, 0, none⟩) := hs 0 (by kernel_rfl)
      clear hT hF hk
      exact Reg.Gives.value (v := .pointer (some ⟨p, 0, none⟩)) (w' := wi) (by go_simp) ⟨fun x h => Option.some.inj h, hI⟩
    · obtain rfl := Option.some.inj ho
      intro D V ρ wi hE hI hDi hT hF hs hd hk
      have e7 : ρ (.tmp 7) = .pointer (some ⟨p, 0, none⟩) := (hd 0 7 (by kernel_rfl) (by kernel_rfl) (by show _ < 27; decide)).trans (hk 0 (by kernel_rfl) _ rfl)
      clear hT hF hk
      exact Reg.Gives.value (v := .pointer (some ⟨p, 0, none⟩)) (w' := wi) (by go_simp) ⟨fun x h => Option.some.inj h, hI⟩
    · obtain rfl := Option.some.inj ho
      intro D V ρ wi hE hI hDi hT hF hs hd hk
      have e8 : ρ (.tmp 8) = .pointer (some ⟨p, 0, none⟩) := (hd 1 8 (by kernel_rfl) (by kernel_rfl) (by show _ < 27; decide)).trans (hk 1 (by kernel_rfl) _ rfl)
      clear hT hF hk
      exact Reg.Gives.value (v := .pointer (some ⟨p, 0, none⟩)) (w' := wi) (by go_simp) ⟨fun x h => Option.some.inj h, hI⟩
    · obtain rfl := Option.some.inj ho
      intro D V ρ wi hE hI hDi hT hF hs hd hk
      have e9 : ρ (.tmp 9) = .pointer (some ⟨p, 0, none⟩) := (hd 2 9 (by kernel_rfl) (by kernel_rfl) (by show _ < 27; decide)).trans (hk 2 (by kernel_rfl) _ rfl)
      clear hT hF hk
      have hx := hI.ptr
      exact Reg.Gives.value (v := .pointer (some ⟨g, 0, none⟩)) (w' := wi) (by go_simp) ⟨fun x h => Option.some.inj h, hI⟩
    · obtain rfl := Option.some.inj ho
      intro D V ρ wi hE hI hDi hT hF hs hd hk
      have e10 : ρ (.tmp 10) = .pointer (some ⟨g, 0, none⟩) := (hd 3 10 (by kernel_rfl) (by kernel_rfl) (by show _ < 27; decide)).trans (hk 3 (by kernel_rfl) _ rfl)
      have hf := hE.func
      have hD4 : D 4 = false := hDi
      have hD9 : D 9 = false := hF 1 9 (by show _ < 18; decide) (by kernel_rfl)
      have hD14 : D 14 = false := hF 2 14 (by show _ < 18; decide) (by kernel_rfl)
      have hD17 : D 17 = false := hF 1 17 (by show _ < 18; decide) (by kernel_rfl)
      clear hT hF
      rw [hD4, hD9, hD14] at hI
      refine Reg.Gives.call (f := 58) (args := #[.pointer (some ⟨g, 0, none⟩)]) (w' := wi) (by go_simp) ?_
      refine (rnumber_any wi (some g) s b hI.rd).mono ?_
      rintro e w'' ⟨rfl, hr', hf'⟩
      refine ⟨_, rfl, fun x h => Option.some.inj h, ?_⟩
      show tidSt p g s b true (D 9) (D 14) (D 16) (D 17) (V 16) w2 w''
      rw [hD9, hD14]
      exact hI.move hr' hf'
    · obtain rfl := Option.some.inj ho
      intro D V ρ wi hE hI hDi hT hF hs hd hk
      have e0 : ρ (.tmp 0) = .pointer (some ⟨p, 0, none⟩) := hs 0 (by kernel_rfl)
      clear hT hF hk
      exact Reg.Gives.value (v := .pointer (some ⟨p, 0, none⟩)) (w' := wi) (by go_simp) ⟨fun x h => Option.some.inj h, hI⟩
    · obtain rfl := Option.some.inj ho
      intro D V ρ wi hE hI hDi hT hF hs hd hk
      have e12 : ρ (.tmp 12) = .pointer (some ⟨p, 0, none⟩) := (hd 5 12 (by kernel_rfl) (by kernel_rfl) (by show _ < 27; decide)).trans (hk 5 (by kernel_rfl) _ rfl)
      clear hT hF hk
      exact Reg.Gives.value (v := .pointer (some ⟨p, 0, none⟩)) (w' := wi) (by go_simp) ⟨fun x h => Option.some.inj h, hI⟩
    · obtain rfl := Option.some.inj ho
      intro D V ρ wi hE hI hDi hT hF hs hd hk
      have e13 : ρ (.tmp 13) = .pointer (some ⟨p, 0, none⟩) := (hd 6 13 (by kernel_rfl) (by kernel_rfl) (by show _ < 27; decide)).trans (hk 6 (by kernel_rfl) _ rfl)
      clear hT hF hk
      exact Reg.Gives.value (v := .pointer (some ⟨p, 0, none⟩)) (w' := wi) (by go_simp) ⟨fun x h => Option.some.inj h, hI⟩
    · obtain rfl := Option.some.inj ho
      intro D V ρ wi hE hI hDi hT hF hs hd hk
      have e14 : ρ (.tmp 14) = .pointer (some ⟨p, 0, none⟩) := (hd 7 14 (by kernel_rfl) (by kernel_rfl) (by show _ < 27; decide)).trans (hk 7 (by kernel_rfl) _ rfl)
      clear hT hF hk
      have hx := hI.ptr
      exact Reg.Gives.value (v := .pointer (some ⟨g, 0, none⟩)) (w' := wi) (by go_simp) ⟨fun x h => Option.some.inj h, hI⟩
    · obtain rfl := Option.some.inj ho
      intro D V ρ wi hE hI hDi hT hF hs hd hk
      have e15 : ρ (.tmp 15) = .pointer (some ⟨g, 0, none⟩) := (hd 8 15 (by kernel_rfl) (by kernel_rfl) (by show _ < 27; decide)).trans (hk 8 (by kernel_rfl) _ rfl)
      have hf := hE.func
      have hD4 : D 4 = true := hT 1 4 (by kernel_rfl)
      have hD9 : D 9 = false := hDi
      have hD14 : D 14 = false := hF 1 14 (by show _ < 18; decide) (by kernel_rfl)
      have hD17 : D 17 = false := hF 1 17 (by show _ < 18; decide) (by kernel_rfl)
      clear hT hF
      rw [hD4, hD9, hD14] at hI
      refine Reg.Gives.call (f := 58) (args := #[.pointer (some ⟨g, 0, none⟩)]) (w' := wi) (by go_simp) ?_
      refine (rnumber_any wi (some g) _ _ hI.rd).mono ?_
      rintro e w'' ⟨rfl, hr', hf'⟩
      refine ⟨_, rfl, fun x h => Option.some.inj h, ?_⟩
      show tidSt p g s b (D 4) true (D 14) (D 16) (D 17) (V 16) w2 w''
      rw [hD4, hD14]
      exact hI.move hr' hf'
    · obtain rfl := Option.some.inj ho
      intro D V ρ wi hE hI hDi hT hF hs hd hk
      have e0 : ρ (.tmp 0) = .pointer (some ⟨p, 0, none⟩) := hs 0 (by kernel_rfl)
      clear hT hF hk
      exact Reg.Gives.value (v := .pointer (some ⟨p, 0, none⟩)) (w' := wi) (by go_simp) ⟨fun x h => Option.some.inj h, hI⟩
    · obtain rfl := Option.some.inj ho
      intro D V ρ wi hE hI hDi hT hF hs hd hk
      have e17 : ρ (.tmp 17) = .pointer (some ⟨p, 0, none⟩) := (hd 10 17 (by kernel_rfl) (by kernel_rfl) (by show _ < 27; decide)).trans (hk 10 (by kernel_rfl) _ rfl)
      clear hT hF hk
      exact Reg.Gives.value (v := .pointer (some ⟨p, 0, none⟩)) (w' := wi) (by go_simp) ⟨fun x h => Option.some.inj h, hI⟩
    · obtain rfl := Option.some.inj ho
      intro D V ρ wi hE hI hDi hT hF hs hd hk
      have e18 : ρ (.tmp 18) = .pointer (some ⟨p, 0, none⟩) := (hd 11 18 (by kernel_rfl) (by kernel_rfl) (by show _ < 27; decide)).trans (hk 11 (by kernel_rfl) _ rfl)
      clear hT hF hk
      exact Reg.Gives.value (v := .pointer (some ⟨p, 0, none⟩)) (w' := wi) (by go_simp) ⟨fun x h => Option.some.inj h, hI⟩
    · obtain rfl := Option.some.inj ho
      intro D V ρ wi hE hI hDi hT hF hs hd hk
      have e19 : ρ (.tmp 19) = .pointer (some ⟨p, 0, none⟩) := (hd 12 19 (by kernel_rfl) (by kernel_rfl) (by show _ < 27; decide)).trans (hk 12 (by kernel_rfl) _ rfl)
      clear hT hF hk
      have hx := hI.ptr
      exact Reg.Gives.value (v := .pointer (some ⟨g, 0, none⟩)) (w' := wi) (by go_simp) ⟨fun x h => Option.some.inj h, hI⟩
    · obtain rfl := Option.some.inj ho
      intro D V ρ wi hE hI hDi hT hF hs hd hk
      have e20 : ρ (.tmp 20) = .pointer (some ⟨g, 0, none⟩) := (hd 13 20 (by kernel_rfl) (by kernel_rfl) (by show _ < 27; decide)).trans (hk 13 (by kernel_rfl) _ rfl)
      have hf := hE.func
      have hD4 : D 4 = true := hT 2 4 (by kernel_rfl)
      have hD9 : D 9 = true := hT 1 9 (by kernel_rfl)
      have hD14 : D 14 = false := hDi
      have hD17 : D 17 = false := hF 1 17 (by show _ < 18; decide) (by kernel_rfl)
      clear hT hF
      rw [hD4, hD9, hD14] at hI
      refine Reg.Gives.call (f := 58) (args := #[.pointer (some ⟨g, 0, none⟩)]) (w' := wi) (by go_simp) ?_
      refine (rnumber_any wi (some g) _ _ hI.rd).mono ?_
      rintro e w'' ⟨rfl, hr', hf'⟩
      refine ⟨_, rfl, fun x h => Option.some.inj h, ?_⟩
      show tidSt p g s b (D 4) (D 9) true (D 16) (D 17) (V 16) w2 w''
      rw [hD4, hD9]
      exact hI.move hr' hf'
    · obtain rfl := Option.some.inj ho
      intro D V ρ wi hE hI hDi hT hF hs hd hk
      have e11 : ρ (.tmp 11) = .int .i64 (n1 s) := (hd 4 11 (by kernel_rfl) (by kernel_rfl) (by show _ < 27; decide)).trans (hk 4 (by kernel_rfl) _ rfl)
      have e16 : ρ (.tmp 16) = .int .i64 (n2 s) := (hd 9 16 (by kernel_rfl) (by kernel_rfl) (by show _ < 27; decide)).trans (hk 9 (by kernel_rfl) _ rfl)
      have e21 : ρ (.tmp 21) = .int .i64 (n3 s) := (hd 14 21 (by kernel_rfl) (by kernel_rfl) (by show _ < 27; decide)).trans (hk 14 (by kernel_rfl) _ rfl)
      clear hT hF hk
      exact Reg.Gives.value (v := .agg #[.int .i64 (n1 s), .int .i64 (n2 s), .int .i64 (n3 s)]) (w' := wi) (by go_simp) ⟨fun x h => Option.some.inj h, hI⟩
    · obtain rfl := Option.some.inj ho
      intro D V ρ wi hE hI hDi hT hF hs hd hk
      have hD16 : D 16 = false := hDi
      have hD17 : D 17 = false := hF 1 17 (by show _ < 18; decide) (by kernel_rfl)
      clear hT hF
      rw [hD16, hD17] at hI
      exact Reg.Gives.value (v := .pointer (some ⟨wi.heap.size, 0, none⟩)) (w' := wi.alloc (.cells #[.int .i64 0, .int .i64 0, .int .i64 0] 23)) (by go_simp) ⟨fun x h => (by cases h), by show tidSt p g s b (D 4) (D 9) (D 14) true (D 17) (.pointer (some ⟨wi.heap.size, 0, none⟩)) w2 _; rw [hD17]; exact hI.alloc⟩
    · obtain rfl := Option.some.inj ho
      intro D V ρ wi hE hI hDi hT hF hs hd hk
      have e3 : ρ (.tmp 3) = V 16 := hd 16 3 (by kernel_rfl) (by kernel_rfl) (by show _ < 27; decide)
      have e22 : ρ (.tmp 22) = .agg #[.int .i64 (n1 s), .int .i64 (n2 s), .int .i64 (n3 s)] := (hd 15 22 (by kernel_rfl) (by kernel_rfl) (by show _ < 27; decide)).trans (hk 15 (by kernel_rfl) _ rfl)
      have hD4 : D 4 = true := hT 1 4 (by kernel_rfl)
      have hD9 : D 9 = true := hT 1 9 (by kernel_rfl)
      have hD14 : D 14 = true := hT 1 14 (by kernel_rfl)
      have hD16 : D 16 = true := hT 1 16 (by kernel_rfl)
      have hD17 : D 17 = false := hDi
      clear hT hF
      rw [hD4, hD9, hD14, hD16, hD17] at hI
      obtain ⟨k, hv, hk0, hck⟩ := hI.blk rfl
      rw [hv] at e3
      have hck : Cells wi k 23 [.int .i64 0, .int .i64 0, .int .i64 0] := hck
      have x0 := hck.cell (j := 0) rfl
      have x1 := hck.cell (j := 1) rfl
      have x2 := hck.cell (j := 2) rfl
      have f0 := hck.frozen (j := 0) (by simp)
      have f1 := hck.frozen (j := 1) (by simp)
      have f2 := hck.frozen (j := 2) (by simp)
      exact Reg.Gives.skip (w' := ((wi.setCell ⟨k, 0, none⟩ (.int .i64 (n1 s))).setCell ⟨k, 1, none⟩ (.int .i64 (n2 s))).setCell ⟨k, 2, none⟩ (.int .i64 (n3 s))) (by go_simp) ⟨fun x h => (by cases h), by show tidSt p g s b (D 4) (D 9) (D 14) (D 16) true (V 16) w2 _; rw [hD4, hD9, hD14, hD16]; exact hI.store hv hk0⟩
    · omega
  · intro V w1 hk hI
    simp only [Reg.putsO, List.foldl_cons, List.foldl_nil, Act.put, List.setIfInBounds_toArray, List.set_cons_succ, List.set_cons_zero]
    replace hI : tidSt p g s b true true true true true (V 16) w2 w1 := hI
    clear hk
    obtain ⟨k, hv, hk0, hck⟩ := hI.blk rfl
    have HS := Lib.hid hI
    have HF : Hid (Wire.Foot (some g) w w1) := Lib.hid (foot_before HB2.out hI.foot)
    have HCW : Hid (Cells w1 w.heap.size 23 [.int .i64 0, .int .i64 0, .int .i64 0]) := Lib.hid (cells_only HC.out hI.foot (by intro e; have := Option.some.inj e; have := HN.out; omega))
    have HBR := Lib.hid (broken_any w1 p g (restTid s) (brkTid s b) hI.it)
    have HIT : Hid (IRd w1 p g (restTid s) (brkTid s b)) := Lib.hid hI.it
    have HCK : Hid (Cells w1 k 23 [.int .i64 (n1 s), .int .i64 (n2 s), .int .i64 (n3 s)]) := Lib.hid hck
    have HPL : Hid (p < w.heap.size) := HPN
    clear hI hck HS
    rw [hv]
    clear hv
    go_wp2_with fail
    refine HBR.out.mono ?_
    rintro e w2' ⟨rfl, rfl⟩
    have HSET : Hid (∀ a b' c, IRd (((w1.setCell ⟨w.heap.size, 0, none⟩ a).setCell ⟨w.heap.size, 1, none⟩ b').setCell ⟨w.heap.size, 2, none⟩ c) p g (restTid s) (brkTid s b) ∧ Wire.Foot (some g) w (((w1.setCell ⟨w.heap.size, 0, none⟩ a).setCell ⟨w.heap.size, 1, none⟩ b').setCell ⟨w.heap.size, 2, none⟩ c)) := Lib.hid fun a b' c => by
      have ho : Only (fun i => i = w.heap.size) w1 (((w1.setCell ⟨w.heap.size, 0, none⟩ a).setCell ⟨w.heap.size, 1, none⟩ b').setCell ⟨w.heap.size, 2, none⟩ c) :=
        ((Only.of_set w1 ⟨w.heap.size, 0, none⟩ _).trans (Only.of_set _ ⟨w.heap.size, 1, none⟩ _) fun _ _ h => h).trans (Only.of_set _ ⟨w.heap.size, 2, none⟩ _) fun _ _ h => h
      exact ⟨HIT.out.only ho (by have := HPL.out; omega) (by have := HN.out; omega), foot_set (foot_set (foot_set HF.out (Nat.le_refl _) a) (Nat.le_refl _) b') (Nat.le_refl _) c⟩
    have hcw := HCW.out
    have f0 := hcw.frozen (j := 0) (by simp)
    have f1 := hcw.frozen (j := 1) (by simp)
    have f2 := hcw.frozen (j := 2) (by simp)
    have x0 := hcw.cell (j := 0) rfl
    have x1 := hcw.cell (j := 1) rfl
    have x2 := hcw.cell (j := 2) rfl
    have HC2 : Hid (∀ a b' c, Cells (((w1.setCell ⟨w.heap.size, 0, none⟩ a).setCell ⟨w.heap.size, 1, none⟩ b').setCell ⟨w.heap.size, 2, none⟩ c) w.heap.size 23 [a, b', c]) := Lib.hid fun a b' c => ((HCW.out.set_ 0 a).set_ 1 b').set_ 2 c
    have hck := HCK.out
    have c0 := hck.cell (j := 0) rfl
    have c1 := hck.cell (j := 1) rfl
    have c2 := hck.cell (j := 2) rfl
    clear hcw hck
    by_cases hb : brkTid s b = true
    · rw [hb]
      have HV : Hid ((readTid s b).val = .agg #[.int .i64 0, .int .i64 0, .int .i64 0]) := Lib.hid (by unfold readTid; rw [if_pos hb]; rfl)
      clear hb
      go_wp2_with fail
      have hz := HC2.out (.int .i64 0) (.int .i64 0) (.int .i64 0)
      have d0 := hz.cell (j := 0) rfl
      have d1 := hz.cell (j := 1) rfl
      have d2 := hz.cell (j := 2) rfl
      refine bodyPost_ret (v := .agg #[.int .i64 0, .int .i64 0, .int .i64 0]) (by simp [results, go_sem, *]) rfl ⟨ret_val HV.out.symm, (HSET.out _ _ _).1, (HSET.out _ _ _).2⟩
    · have hbf : brkTid s b = false := by simpa using hb
      rw [hbf]
      have HV : Hid ((readTid s b).val = .agg #[.int .i64 (n1 s), .int .i64 (n2 s), .int .i64 (n3 s)]) := Lib.hid (by unfold readTid; rw [if_neg hb]; rfl)
      clear hb hbf
      go_wp2_with fail
      have hz := HC2.out (.int .i64 (n1 s)) (.int .i64 (n2 s)) (.int .i64 (n3 s))
      have d0 := hz.cell (j := 0) rfl
      have d1 := hz.cell (j := 1) rfl
      have d2 := hz.cell (j := 2) rfl
      refine bodyPost_ret (v := .agg #[.int .i64 (n1 s), .int .i64 (n2 s), .int .i64 (n3 s)]) (by simp [results, go_sem, *]) rfl ⟨ret_val HV.out.symm, (HSET.out _ _ _).1, (HSET.out _ _ _).2⟩
end Go.Proofs.Ytfnkjdkckpdfhaa.Item
