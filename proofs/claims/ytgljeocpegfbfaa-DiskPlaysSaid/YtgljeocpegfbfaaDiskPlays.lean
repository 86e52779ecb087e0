/-
  DiskPlays is proved: whatever is asked of a disk, in any order, it answers and has what the document says. Conditions: none.
-/
import Derived.Test.YtgljeocpegfbfaaDiskImpl
import Derived.Test.YtgljeocpegfbfaaDiskLaw
import Derived.Test.YtgljeocpegfbfaaDiskRef2
import Derived.Test.YtgljeocpegfbfaaReg2
import Derived.Deep.CutBlock
import Derived.Deep.QuietTactic
import Derived.BigQuiet
import Derived.WalkSmall
namespace Go.Proofs.Ytgljeocpegfbfaa.DiskPlays
open Go.ChangeShapes Go.WideShapes Go.ChangeAt Go.RowKit Go.Proofs.Ytgljeocpegfbfaa.Mem Go.Proofs.Ytgljeocpegfbfaa.Disk

/-- The code's disk and the document's, side by side; and the law's own operation beside them. -/
structure Tri (C : Does) (w0 w : World) (g : Nat) (r : Option Nat) (d : Ds) (gr : Nat) (e : Ds) (b : Nat) (vs : List Value) : Prop where
  has : Has C w0 w g r d
  ref : RDk w gr e
  low : w0.heap.size ≤ gr
  far : Far g r gr none
  box : Cells w b 33 vs
  off : Far g r b none
  ne : gr ≠ b
  ok : e.Ok
theorem Tri.later {C : Does} {w0 w w' : World} {g gr b : Nat} {r : Option Nat} {d e : Ds} {vs : List Value} (h : Tri C w0 w g r d gr e b vs) (hb : Below w.heap.size w w') : Tri C w0 w' g r d gr e b vs :=
  ⟨h.has.later hb, h.ref.later hb, h.low, h.far, h.box.later hb, h.off, h.ne, h.ok⟩
theorem Tri.code {C : Does} {w0 w w' : World} {g gr b : Nat} {r r' : Option Nat} {d d' e : Ds} {vs : List Value} (h : Tri C w0 w g r d gr e b vs) (ht : Turn w w' g r r') (hd : C.Dk w' w0.heap.size g r' d') (ho : d'.Ok) : Tri C w0 w' g r' d' gr e b vs :=
  ⟨h.has.next ht hd ho, h.ref.only ht.1 h.far.off.1, h.low, h.far.next ht h.ref.lt fun k hk => (by cases hk), cells_only h.box ht.1 h.off.off.1, h.off.next ht h.box.lt fun k hk => (by cases hk), h.ne, h.ok⟩
theorem Tri.doc {C : Does} {w0 w w' : World} {g gr b : Nat} {r : Option Nat} {d e e' : Ds} {vs : List Value} (h : Tri C w0 w g r d gr e b vs) (hr : RDk w' gr e') (ho : Own gr w w') (hk : e'.Ok) : Tri C w0 w' g r d gr e' b vs :=
  ⟨⟨h.has.below.trans (ho.below h.has.below.size fun k hk => by rw [show k = gr from hk]; exact h.low), C.only h.has.disk ho h.far.own (fun k hk e => h.far.left (by rw [hk, show k = gr from e])), h.has.ok⟩, hr, h.low, h.far, cells_only h.box ho (fun e => h.ne (show b = gr from e).symm), h.off, h.ne, hk⟩

theorem size_append (d : Ds) (s : List UInt8) : (appendS d s).2.size = d.size := by unfold appendS; (repeat' split) <;> rfl
theorem size_sync (d : Ds) : (syncS d).2.size = d.size := by unfold syncS; (repeat' split) <;> rfl
theorem size_drop (d : Ds) (n : Int) : (dropS d n).2.size = d.size := by unfold dropS; (repeat' split) <;> rfl
theorem size_cut (d : Ds) (n : Int) : (cutS d n).2.size = d.size := by unfold cutS; (repeat' split) <;> rfl
theorem Tri.drewN {C : Does} {w0 w : World} {g gr b : Nat} {r : Option Nat} {d e : Ds} {vs : List Value} (h : Tri C w0 w g r d gr e b vs) (n : Nat) : Tri C w0 (w.drewN n) g r d gr e b vs := h.later (below_drewN (Below.refl _ _) n)
theorem quiet_left {P : Program} {f : FuncId} {args : Array Value} {w : World} {n : Nat} {v : Value} (h : Calls P f args (w.drewN n) fun e w' => e = .returned v ∧ w.drewN n = w') : Calls P f args (w.drewN n) fun e w'' => e = .returned v ∧ ∃ m, w'' = w.drewN m :=
  h.mono fun _ _ ⟨he, hm⟩ => ⟨he, n, hm.symm⟩
/-- The two disks while a statement with two calls is under way: the code's call is operation i, the document's is j. -/
def Mid (C : Does) (w0 : World) (g gr b : Nat) (vs : List Value) (d d1 : Ds) (i j : Nat) (D : Nat → Bool) (w : World) : Prop := ∃ r, Tri C w0 w g r (cond (D i) d1 d) gr (cond (D j) d1 d) b vs

set_option maxHeartbeats 8000000 in
set_option maxRecDepth 8000 in
theorem walk (C : Does) (A : Option Addr) (os : List Opn) (c : Nat) (z : Nat) (w : World) (hs : Ops w A os) (hz : z ≤ 1048576) (hsm : small os = true) :
    Calls Try.prog 3 #[.int .i64 (z : Int), .slice A os.length c] w fun e w' => e = .returned (.bool true) ∧ Below w.heap.size w w' := by
  have HS := Lib.hid hs
  have hlen : os.length ≤ 100 := by
    unfold small at hsm
    simp only [Bool.and_eq_true, decide_eq_true_eq] at hsm
    exact hsm.1.1
  have HALL : Hid (∀ k (h : k < os.length), os[k].ss.length ≤ 20 ∧ (cat os[k].ss).length ≤ 3000) := Lib.hid fun k h => by
    unfold small at hsm
    simp only [Bool.and_eq_true, decide_eq_true_eq] at hsm
    refine ⟨of_decide_eq_true (List.all_eq_true.1 hsm.1.2 _ (List.getElem_mem h)), ?_⟩
    have h1 := total_take os k h
    have h2 := total_le os (k + 1)
    omega
  have HSM := Lib.hid hsm
  clear hs hsm
  go_enter Try.func3, Try.ntmps3
  go_wp2_with fail
  refine (awake_any C _).mono ?_
  rintro e w1 ⟨rfl, hb1⟩
  go_wp2_with fail
  refine (C.news (z : Int) w1 w.heap.size hb1.size).mono ?_
  rintro e w2 ⟨hx, hb2⟩
  rw [if_neg (by omega)] at hx
  obtain ⟨g, r, rfl, hd, hg1, hr1⟩ := hx
  have hb3 := hb1.trans (hb2.mono hb1.size)
  unfold at_
  go_wp2_with fail
  refine (rnew_any (z : Int) w2).mono ?_
  rintro e w3 ⟨hx, hb4⟩
  rw [if_neg (by omega)] at hx
  obtain ⟨rfl, hrd⟩ := hx
  have hlt := C.lt hd
  have H3 : Hid (Has C w w3 g r (empty z) ∧ RDk w3 w2.heap.size (empty z) ∧ w.heap.size ≤ w2.heap.size ∧ Far g r w2.heap.size none) := Lib.hid
    ⟨⟨hb3.trans (hb4.mono hb3.size), C.later hd hb4, empty_ok z hz⟩, hrd, hb3.size, ⟨by omega, fun e => by have := hlt.2 _ e; omega, by simp, fun k _ e => by cases e⟩⟩
  clear hd hg1 hr1 hb1 hb2 hb3 hb4 hrd hlt
  generalize w2.heap.size = gr at *
  go_wp2_with fail
  refine (great_any A os c w3 (HS.out.later H3.out.1.below) (by unfold maxLen; omega)).mono ?_
  rintro e w4 ⟨rfl, hb4⟩
  rw [HSM.out]
  have H4 : Hid (Has C w w4 g r (empty z) ∧ RDk w4 gr (empty z) ∧ w.heap.size ≤ gr ∧ Far g r gr none) := Lib.hid ⟨H3.out.1.later hb4, H3.out.2.1.later hb4, H3.out.2.2⟩
  clear hb4
  go_wp2_with fail
  go_loopw [39] (fun i wr => ∃ k r d, k ≤ os.length ∧ i = .int .i64 (k : Int) ∧ Has C w wr g r d ∧ RDk wr gr d ∧ w.heap.size ≤ gr ∧ Far g r gr none ∧ d.size = z) (fun i _ => os.length - (intOf i).toNat)
  case atStart => exact ⟨0, r, empty z, Nat.zero_le _, rfl, H4.out.1, H4.out.2.1, H4.out.2.2.1, H4.out.2.2.2, rfl⟩
  case round =>
    obtain ⟨k, r1, d, hk, rfl, hh, hrf, hlo, hfa, hdz⟩ := hrel
    by_cases hlt : k < os.length
    · have hok0 := (HS.out k hlt).1
      obtain ⟨hok, ab, ao, rfl, c0, c1, c2⟩ := (HS.out.later hh.below) k hlt
      obtain ⟨hl20, hl3⟩ := HALL.out k hlt
      generalize os[k] = o at *
      obtain ⟨ok, on, oA, oc, ss⟩ := o
      simp only at c0 c1 c2 hl20 hl3
      have hbx := below_alloc wr (.cells #[.int .i64 ok, .int .i64 on, .slice oA ss.length oc] 33)
      have hlg := C.lt hh.disk
      have HT : Hid (Tri C w (wr.alloc (.cells #[.int .i64 ok, .int .i64 on, .slice oA ss.length oc] 33)) g r1 d gr d wr.heap.size [.int .i64 ok, .int .i64 on, .slice oA ss.length oc]) := Lib.hid
        ⟨hh.later hbx, hrf.later hbx, hlo, hfa, cells_new wr _ _ _ rfl, ⟨by omega, fun e => by have := hlg.2 _ e; omega, by simp, fun i _ e => by cases e⟩, by have := hrf.lt; omega, hh.ok⟩
      have HX := Lib.hid hok0
      have HZ := Lib.hid hdz
      clear hh hrf hlo hfa hbx hlg hok hok0 hdz
      go_upto_block 2 with fail
      go_cut [10, 11] from 45 to 101 (fun x y wx => ∃ n r' d', x = .int .i64 n ∧ y = .int .i64 n ∧ Tri C w wx g r' d' gr d' wr.heap.size [.int .i64 ok, .int .i64 on, .slice oA ss.length oc] ∧ d'.size = z)
      case first =>
        by_cases k0 : ok = 0
        · subst k0
          go_wp2_with fail
          refine Reg.region_vals (by kernel_rfl) [(47, .pointer (some ⟨g, 0, none⟩)), (48, .pointer (some ⟨wr.heap.size, 2, none⟩)), (49, .slice oA ss.length oc), (50, .int .i64 (appendS d (cat ss)).1), (51, .pointer (some ⟨gr, 0, none⟩)), (52, .pointer (some ⟨wr.heap.size, 2, none⟩)), (53, .slice oA ss.length oc), (54, .string ⟨(cat ss).toArray⟩), (55, .int .i64 (appendS d (cat ss)).1), (10, .int .i64 (appendS d (cat ss)).1), (11, .int .i64 (appendS d (cat ss)).1)]
            (Mid C w g gr wr.heap.size [.int .i64 0, .int .i64 on, .slice oA ss.length oc] d (appendS d (cat ss)).2 3 8) (by kernel_rfl) (by kernel_rfl) rfl ⟨r1, HT.out.later (Below.refl _ _).drew⟩ ?_ ?_
          · intro i o ho
            have hi : i < 11 := (Array.getElem?_eq_some_iff.1 ho).1
            rcases i with _ | _ | _ | _ | _ | _ | _ | _ | _ | _ | _ | i
            · obtain rfl := Option.some.inj ho
              intro D ρ wi hE hI hDi hDw hs hd
              have e5 : ρ (.tmp 5) = .pointer (some ⟨g, 0, none⟩) := hs 5 (by kernel_rfl)
              exact Reg.Gives.value (v := .pointer (some ⟨g, 0, none⟩)) (w' := wi) (by go_simp) ⟨rfl, hI⟩
            · obtain rfl := Option.some.inj ho
              intro D ρ wi hE hI hDi hDw hs hd
              have e9 : ρ (.tmp 9) = .pointer (some ⟨wr.heap.size, 0, none⟩) := hs 9 (by kernel_rfl)
              exact Reg.Gives.value (v := .pointer (some ⟨wr.heap.size, 2, none⟩)) (w' := wi) (by go_simp) ⟨rfl, hI⟩
            · obtain rfl := Option.some.inj ho
              intro D ρ wi hE hI hDi hDw hs hd
              have e48 : ρ (.tmp 48) = .pointer (some ⟨wr.heap.size, 2, none⟩) := hd 1 48 (by kernel_rfl) (by kernel_rfl) (by show _ < 139; decide)
              obtain ⟨r', T⟩ := hI
              have hc := T.box.cell (j := 2) rfl
              exact Reg.Gives.value (v := .slice oA ss.length oc) (w' := wi) (by go_simp) ⟨rfl, r', T⟩
            · obtain rfl := Option.some.inj ho
              intro D ρ wi hE hI hDi hDw hs hd
              have e47 : ρ (.tmp 47) = .pointer (some ⟨g, 0, none⟩) := hd 0 47 (by kernel_rfl) (by kernel_rfl) (by show _ < 139; decide)
              have e49 : ρ (.tmp 49) = .slice oA ss.length oc := hd 2 49 (by kernel_rfl) (by kernel_rfl) (by show _ < 139; decide)
              have hf := hE.func
              obtain ⟨r', T⟩ := hI
              simp only [hDi, cond_false] at T
              refine Reg.Gives.call (f := 11) (args := #[.pointer (some ⟨g, 0, none⟩), .slice oA ss.length oc]) (w' := wi) (by go_simp) ?_
              refine (C.append oA ss oc T.has.disk T.has.ok (HX.out.later T.has.below).texts (by omega) (by omega) HX.out.none).mono ?_
              rintro e w'' ⟨rfl, r2, hd2, ht⟩
              exact ⟨_, rfl, rfl, r2, T.code ht hd2 (appendS_ok T.has.ok _)⟩
            · obtain rfl := Option.some.inj ho
              intro D ρ wi hE hI hDi hDw hs hd
              have e7 : ρ (.tmp 7) = .pointer (some ⟨gr, 0, none⟩) := hs 7 (by kernel_rfl)
              exact Reg.Gives.value (v := .pointer (some ⟨gr, 0, none⟩)) (w' := wi) (by go_simp) ⟨rfl, hI⟩
            · obtain rfl := Option.some.inj ho
              intro D ρ wi hE hI hDi hDw hs hd
              have e9 : ρ (.tmp 9) = .pointer (some ⟨wr.heap.size, 0, none⟩) := hs 9 (by kernel_rfl)
              exact Reg.Gives.value (v := .pointer (some ⟨wr.heap.size, 2, none⟩)) (w' := wi) (by go_simp) ⟨rfl, hI⟩
            · obtain rfl := Option.some.inj ho
              intro D ρ wi hE hI hDi hDw hs hd
              have e52 : ρ (.tmp 52) = .pointer (some ⟨wr.heap.size, 2, none⟩) := hd 5 52 (by kernel_rfl) (by kernel_rfl) (by show _ < 139; decide)
              obtain ⟨r', T⟩ := hI
              have hc := T.box.cell (j := 2) rfl
              exact Reg.Gives.value (v := .slice oA ss.length oc) (w' := wi) (by go_simp) ⟨rfl, r', T⟩
            · obtain rfl := Option.some.inj ho
              intro D ρ wi hE hI hDi hDw hs hd
              have e53 : ρ (.tmp 53) = .slice oA ss.length oc := hd 6 53 (by kernel_rfl) (by kernel_rfl) (by show _ < 139; decide)
              have hf := hE.func
              obtain ⟨r', T⟩ := hI
              refine Reg.Gives.call (f := 13) (args := #[.slice oA ss.length oc]) (w' := wi) (by go_simp) ?_
              refine (joined_any oA ss oc wi (HX.out.later T.has.below).texts (by omega) (by omega)).mono ?_
              rintro e w'' ⟨rfl, rfl⟩
              exact ⟨_, rfl, rfl, r', T⟩
            · obtain rfl := Option.some.inj ho
              intro D ρ wi hE hI hDi hDw hs hd
              have e51 : ρ (.tmp 51) = .pointer (some ⟨gr, 0, none⟩) := hd 4 51 (by kernel_rfl) (by kernel_rfl) (by show _ < 139; decide)
              have e54 : ρ (.tmp 54) = .string ⟨(cat ss).toArray⟩ := hd 7 54 (by kernel_rfl) (by kernel_rfl) (by show _ < 139; decide)
              have hf := hE.func
              obtain ⟨r', T⟩ := hI
              simp only [hDi, cond_false] at T
              refine Reg.Gives.call (f := 12) (args := #[.pointer (some ⟨gr, 0, none⟩), .string ⟨(cat ss).toArray⟩]) (w' := wi) (by go_simp) ?_
              refine (rappend_any gr d ⟨(cat ss).toArray⟩ wi T.ref T.ok (by simp [ByteArray.size]; omega)).mono ?_
              rintro e w'' ⟨rfl, hr, ho⟩
              exact ⟨_, rfl, rfl, r', T.doc hr ho (appendS_ok T.ok _)⟩
            · obtain rfl := Option.some.inj ho
              intro D ρ wi hE hI hDi hDw hs hd
              have e50 : ρ (.tmp 50) = .int .i64 (appendS d (cat ss)).1 := hd 3 50 (by kernel_rfl) (by kernel_rfl) (by show _ < 139; decide)
              exact Reg.Gives.value (v := .int .i64 (appendS d (cat ss)).1) (w' := wi) (by go_simp) ⟨rfl, hI⟩
            · obtain rfl := Option.some.inj ho
              intro D ρ wi hE hI hDi hDw hs hd
              have e55 : ρ (.tmp 55) = .int .i64 (appendS d (cat ss)).1 := hd 8 55 (by kernel_rfl) (by kernel_rfl) (by show _ < 139; decide)
              exact Reg.Gives.value (v := .int .i64 (appendS d (cat ss)).1) (w' := wi) (by go_simp) ⟨rfl, hI⟩
            · omega
          · rintro w5 ⟨r5, T5⟩
            simp only [cond_true] at T5
            simp only [Reg.puts, List.foldl_cons, List.foldl_nil]
            go_simp
            go_wp2_with fail
            go_meet
            case rel => exact ⟨_, r5, _, rfl, rfl, T5, (size_append d _).trans HZ.out⟩
        · by_cases k1 : ok = 1
          · subst k1
            go_wp2_with fail
            refine (C.sync HT.out.has.disk HT.out.has.ok).mono ?_
            rintro e w5 ⟨rfl, r5, hd5, ht5⟩
            have T5 := Lib.hid (HT.out.code ht5 hd5 (syncS_ok HT.out.has.ok))
            clear hd5 ht5
            go_wp2_with fail
            refine (rsync_any gr d w5 T5.out.ref T5.out.ok).mono ?_
            rintro e w6 ⟨rfl, hr6, ho6⟩
            have T6 := Lib.hid (T5.out.doc hr6 ho6 (syncS_ok T5.out.ok))
            clear hr6 ho6
            go_wp2_with fail
            go_meet
            case rel => exact ⟨_, r5, _, rfl, rfl, T6.out, (size_sync d).trans HZ.out⟩
          · by_cases k2 : ok = 2
            · subst k2
              go_wp2_with fail
              refine Reg.region_vals (by kernel_rfl) [(64, .pointer (some ⟨g, 0, none⟩)), (65, .pointer (some ⟨wr.heap.size, 1, none⟩)), (66, .int .i64 on), (67, .int .i64 (dropS d on).1), (68, .pointer (some ⟨gr, 0, none⟩)), (69, .pointer (some ⟨wr.heap.size, 1, none⟩)), (70, .int .i64 on), (71, .int .i64 (dropS d on).1), (10, .int .i64 (dropS d on).1), (11, .int .i64 (dropS d on).1)]
                (Mid C w g gr wr.heap.size [.int .i64 2, .int .i64 on, .slice oA ss.length oc] d (dropS d on).2 3 7) (by kernel_rfl) (by kernel_rfl) rfl ⟨r1, HT.out.later (Below.refl _ _).drew⟩ ?_ ?_
              · intro i o ho
                have hi : i < 10 := (Array.getElem?_eq_some_iff.1 ho).1
                rcases i with _ | _ | _ | _ | _ | _ | _ | _ | _ | _ | i
                · obtain rfl := Option.some.inj ho
                  intro D ρ wi hE hI hDi hDw hs hd
                  have e5 : ρ (.tmp 5) = .pointer (some ⟨g, 0, none⟩) := hs 5 (by kernel_rfl)
                  exact Reg.Gives.value (v := .pointer (some ⟨g, 0, none⟩)) (w' := wi) (by go_simp) ⟨rfl, hI⟩
                · obtain rfl := Option.some.inj ho
                  intro D ρ wi hE hI hDi hDw hs hd
                  have e9 : ρ (.tmp 9) = .pointer (some ⟨wr.heap.size, 0, none⟩) := hs 9 (by kernel_rfl)
                  exact Reg.Gives.value (v := .pointer (some ⟨wr.heap.size, 1, none⟩)) (w' := wi) (by go_simp) ⟨rfl, hI⟩
                · obtain rfl := Option.some.inj ho
                  intro D ρ wi hE hI hDi hDw hs hd
                  have e65 : ρ (.tmp 65) = .pointer (some ⟨wr.heap.size, 1, none⟩) := hd 1 65 (by kernel_rfl) (by kernel_rfl) (by show _ < 139; decide)
                  obtain ⟨r', T⟩ := hI
                  have hc := T.box.cell (j := 1) rfl
                  exact Reg.Gives.value (v := .int .i64 on) (w' := wi) (by go_simp) ⟨rfl, r', T⟩
                · obtain rfl := Option.some.inj ho
                  intro D ρ wi hE hI hDi hDw hs hd
                  have e64 : ρ (.tmp 64) = .pointer (some ⟨g, 0, none⟩) := hd 0 64 (by kernel_rfl) (by kernel_rfl) (by show _ < 139; decide)
                  have e66 : ρ (.tmp 66) = .int .i64 on := hd 2 66 (by kernel_rfl) (by kernel_rfl) (by show _ < 139; decide)
                  have hf := hE.func
                  obtain ⟨r', T⟩ := hI
                  simp only [hDi, cond_false] at T
                  refine Reg.Gives.call (f := 16) (args := #[.pointer (some ⟨g, 0, none⟩), .int .i64 on]) (w' := wi) (by go_simp) ?_
                  refine (C.drop on T.has.disk T.has.ok).mono ?_
                  rintro e w'' ⟨rfl, r2, hd2, ht⟩
                  exact ⟨_, rfl, rfl, r2, T.code ht hd2 (dropS_ok T.has.ok _)⟩
                · obtain rfl := Option.some.inj ho
                  intro D ρ wi hE hI hDi hDw hs hd
                  have e7 : ρ (.tmp 7) = .pointer (some ⟨gr, 0, none⟩) := hs 7 (by kernel_rfl)
                  exact Reg.Gives.value (v := .pointer (some ⟨gr, 0, none⟩)) (w' := wi) (by go_simp) ⟨rfl, hI⟩
                · obtain rfl := Option.some.inj ho
                  intro D ρ wi hE hI hDi hDw hs hd
                  have e9 : ρ (.tmp 9) = .pointer (some ⟨wr.heap.size, 0, none⟩) := hs 9 (by kernel_rfl)
                  exact Reg.Gives.value (v := .pointer (some ⟨wr.heap.size, 1, none⟩)) (w' := wi) (by go_simp) ⟨rfl, hI⟩
                · obtain rfl := Option.some.inj ho
                  intro D ρ wi hE hI hDi hDw hs hd
                  have e69 : ρ (.tmp 69) = .pointer (some ⟨wr.heap.size, 1, none⟩) := hd 5 69 (by kernel_rfl) (by kernel_rfl) (by show _ < 139; decide)
                  obtain ⟨r', T⟩ := hI
                  have hc := T.box.cell (j := 1) rfl
                  exact Reg.Gives.value (v := .int .i64 on) (w' := wi) (by go_simp) ⟨rfl, r', T⟩
                · obtain rfl := Option.some.inj ho
                  intro D ρ wi hE hI hDi hDw hs hd
                  have e68 : ρ (.tmp 68) = .pointer (some ⟨gr, 0, none⟩) := hd 4 68 (by kernel_rfl) (by kernel_rfl) (by show _ < 139; decide)
                  have e70 : ρ (.tmp 70) = .int .i64 on := hd 6 70 (by kernel_rfl) (by kernel_rfl) (by show _ < 139; decide)
                  have hf := hE.func
                  obtain ⟨r', T⟩ := hI
                  simp only [hDi, cond_false] at T
                  refine Reg.Gives.call (f := 17) (args := #[.pointer (some ⟨gr, 0, none⟩), .int .i64 on]) (w' := wi) (by go_simp) ?_
                  refine (rdrop_any gr d on wi T.ref T.ok).mono ?_
                  rintro e w'' ⟨rfl, hr, ho⟩
                  exact ⟨_, rfl, rfl, r', T.doc hr ho (dropS_ok T.ok _)⟩
                · obtain rfl := Option.some.inj ho
                  intro D ρ wi hE hI hDi hDw hs hd
                  have e67 : ρ (.tmp 67) = .int .i64 (dropS d on).1 := hd 3 67 (by kernel_rfl) (by kernel_rfl) (by show _ < 139; decide)
                  exact Reg.Gives.value (v := .int .i64 (dropS d on).1) (w' := wi) (by go_simp) ⟨rfl, hI⟩
                · obtain rfl := Option.some.inj ho
                  intro D ρ wi hE hI hDi hDw hs hd
                  have e71 : ρ (.tmp 71) = .int .i64 (dropS d on).1 := hd 7 71 (by kernel_rfl) (by kernel_rfl) (by show _ < 139; decide)
                  exact Reg.Gives.value (v := .int .i64 (dropS d on).1) (w' := wi) (by go_simp) ⟨rfl, hI⟩
                · omega
              · rintro w5 ⟨r5, T5⟩
                simp only [cond_true] at T5
                simp only [Reg.puts, List.foldl_cons, List.foldl_nil]
                go_simp
                go_wp2_with fail
                go_meet
                case rel => exact ⟨_, r5, _, rfl, rfl, T5, (size_drop d on).trans HZ.out⟩
            · by_cases k3 : ok = 3
              · subst k3
                go_wp2_with fail
                refine Reg.region_vals (by kernel_rfl) [(74, .pointer (some ⟨g, 0, none⟩)), (75, .pointer (some ⟨wr.heap.size, 1, none⟩)), (76, .int .i64 on), (77, .int .i64 (cutS d on).1), (78, .pointer (some ⟨gr, 0, none⟩)), (79, .pointer (some ⟨wr.heap.size, 1, none⟩)), (80, .int .i64 on), (81, .int .i64 (cutS d on).1), (10, .int .i64 (cutS d on).1), (11, .int .i64 (cutS d on).1)]
                  (Mid C w g gr wr.heap.size [.int .i64 3, .int .i64 on, .slice oA ss.length oc] d (cutS d on).2 3 7) (by kernel_rfl) (by kernel_rfl) rfl ⟨r1, HT.out.later (Below.refl _ _).drew⟩ ?_ ?_
                · intro i o ho
                  have hi : i < 10 := (Array.getElem?_eq_some_iff.1 ho).1
                  rcases i with _ | _ | _ | _ | _ | _ | _ | _ | _ | _ | i
                  · obtain rfl := Option.some.inj ho
                    intro D ρ wi hE hI hDi hDw hs hd
                    have e5 : ρ (.tmp 5) = .pointer (some ⟨g, 0, none⟩) := hs 5 (by kernel_rfl)
                    exact Reg.Gives.value (v := .pointer (some ⟨g, 0, none⟩)) (w' := wi) (by go_simp) ⟨rfl, hI⟩
                  · obtain rfl := Option.some.inj ho
                    intro D ρ wi hE hI hDi hDw hs hd
                    have e9 : ρ (.tmp 9) = .pointer (some ⟨wr.heap.size, 0, none⟩) := hs 9 (by kernel_rfl)
                    exact Reg.Gives.value (v := .pointer (some ⟨wr.heap.size, 1, none⟩)) (w' := wi) (by go_simp) ⟨rfl, hI⟩
                  · obtain rfl := Option.some.inj ho
                    intro D ρ wi hE hI hDi hDw hs hd
                    have e75 : ρ (.tmp 75) = .pointer (some ⟨wr.heap.size, 1, none⟩) := hd 1 75 (by kernel_rfl) (by kernel_rfl) (by show _ < 139; decide)
                    obtain ⟨r', T⟩ := hI
                    have hc := T.box.cell (j := 1) rfl
                    exact Reg.Gives.value (v := .int .i64 on) (w' := wi) (by go_simp) ⟨rfl, r', T⟩
                  · obtain rfl := Option.some.inj ho
                    intro D ρ wi hE hI hDi hDw hs hd
                    have e74 : ρ (.tmp 74) = .pointer (some ⟨g, 0, none⟩) := hd 0 74 (by kernel_rfl) (by kernel_rfl) (by show _ < 139; decide)
                    have e76 : ρ (.tmp 76) = .int .i64 on := hd 2 76 (by kernel_rfl) (by kernel_rfl) (by show _ < 139; decide)
                    have hf := hE.func
                    obtain ⟨r', T⟩ := hI
                    simp only [hDi, cond_false] at T
                    refine Reg.Gives.call (f := 18) (args := #[.pointer (some ⟨g, 0, none⟩), .int .i64 on]) (w' := wi) (by go_simp) ?_
                    refine (C.cut on T.has.disk T.has.ok).mono ?_
                    rintro e w'' ⟨rfl, r2, hd2, ht⟩
                    exact ⟨_, rfl, rfl, r2, T.code ht hd2 (cutS_ok T.has.ok _)⟩
                  · obtain rfl := Option.some.inj ho
                    intro D ρ wi hE hI hDi hDw hs hd
                    have e7 : ρ (.tmp 7) = .pointer (some ⟨gr, 0, none⟩) := hs 7 (by kernel_rfl)
                    exact Reg.Gives.value (v := .pointer (some ⟨gr, 0, none⟩)) (w' := wi) (by go_simp) ⟨rfl, hI⟩
                  · obtain rfl := Option.some.inj ho
                    intro D ρ wi hE hI hDi hDw hs hd
                    have e9 : ρ (.tmp 9) = .pointer (some ⟨wr.heap.size, 0, none⟩) := hs 9 (by kernel_rfl)
                    exact Reg.Gives.value (v := .pointer (some ⟨wr.heap.size, 1, none⟩)) (w' := wi) (by go_simp) ⟨rfl, hI⟩
                  · obtain rfl := Option.some.inj ho
                    intro D ρ wi hE hI hDi hDw hs hd
                    have e79 : ρ (.tmp 79) = .pointer (some ⟨wr.heap.size, 1, none⟩) := hd 5 79 (by kernel_rfl) (by kernel_rfl) (by show _ < 139; decide)
                    obtain ⟨r', T⟩ := hI
                    have hc := T.box.cell (j := 1) rfl
                    exact Reg.Gives.value (v := .int .i64 on) (w' := wi) (by go_simp) ⟨rfl, r', T⟩
                  · obtain rfl := Option.some.inj ho
                    intro D ρ wi hE hI hDi hDw hs hd
                    have e78 : ρ (.tmp 78) = .pointer (some ⟨gr, 0, none⟩) := hd 4 78 (by kernel_rfl) (by kernel_rfl) (by show _ < 139; decide)
                    have e80 : ρ (.tmp 80) = .int .i64 on := hd 6 80 (by kernel_rfl) (by kernel_rfl) (by show _ < 139; decide)
                    have hf := hE.func
                    obtain ⟨r', T⟩ := hI
                    simp only [hDi, cond_false] at T
                    refine Reg.Gives.call (f := 19) (args := #[.pointer (some ⟨gr, 0, none⟩), .int .i64 on]) (w' := wi) (by go_simp) ?_
                    refine (rcut_any gr d on wi T.ref T.ok).mono ?_
                    rintro e w'' ⟨rfl, hr, ho⟩
                    exact ⟨_, rfl, rfl, r', T.doc hr ho (cutS_ok T.ok _)⟩
                  · obtain rfl := Option.some.inj ho
                    intro D ρ wi hE hI hDi hDw hs hd
                    have e77 : ρ (.tmp 77) = .int .i64 (cutS d on).1 := hd 3 77 (by kernel_rfl) (by kernel_rfl) (by show _ < 139; decide)
                    exact Reg.Gives.value (v := .int .i64 (cutS d on).1) (w' := wi) (by go_simp) ⟨rfl, hI⟩
                  · obtain rfl := Option.some.inj ho
                    intro D ρ wi hE hI hDi hDw hs hd
                    have e81 : ρ (.tmp 81) = .int .i64 (cutS d on).1 := hd 7 81 (by kernel_rfl) (by kernel_rfl) (by show _ < 139; decide)
                    exact Reg.Gives.value (v := .int .i64 (cutS d on).1) (w' := wi) (by go_simp) ⟨rfl, hI⟩
                  · omega
                · rintro w5 ⟨r5, T5⟩
                  simp only [cond_true] at T5
                  simp only [Reg.puts, List.foldl_cons, List.foldl_nil]
                  go_simp
                  go_wp2_with fail
                  go_meet
                  case rel => exact ⟨_, r5, _, rfl, rfl, T5, (size_cut d on).trans HZ.out⟩
              · by_cases k4 : ok = 4
                · subst k4
                  go_wp2_with fail
                  refine (C.fuse on HT.out.has.disk HT.out.has.ok HX.out.low HX.out.high).mono ?_
                  rintro e w5 ⟨rfl, r5, hd5, ht5⟩
                  have T5 := Lib.hid (HT.out.code ht5 hd5 (fuseS_ok HT.out.has.ok on HX.out.high))
                  have hc1 := T5.out.box.cell (j := 1) rfl
                  clear hd5 ht5
                  go_wp2_with fail
                  refine (rfuse_any gr d on w5 T5.out.ref).mono ?_
                  rintro e w6 ⟨rfl, hr6, ho6⟩
                  have T6 := Lib.hid (T5.out.doc hr6 ho6 (fuseS_ok HT.out.has.ok on HX.out.high))
                  clear hr6 ho6
                  go_wp2_with fail
                  go_meet
                  case rel => exact ⟨0, r5, _, rfl, rfl, T6.out, HZ.out⟩
                · by_cases k5 : ok = 5
                  · subst k5
                    go_wp2_with fail
                    refine (C.crash on HT.out.has.disk HT.out.has.ok HX.out.low HX.out.high).mono ?_
                    rintro e w5 ⟨rfl, r5, hd5, ht5⟩
                    have T5 := Lib.hid (HT.out.code ht5 hd5 (crashS_ok HT.out.has.ok on))
                    have hc1 := T5.out.box.cell (j := 1) rfl
                    clear hd5 ht5
                    go_wp2_with fail
                    refine (rcrash_any gr d on w5 T5.out.ref HT.out.ok).mono ?_
                    rintro e w6 ⟨rfl, hr6, ho6⟩
                    have T6 := Lib.hid (T5.out.doc hr6 ho6 (crashS_ok HT.out.has.ok on))
                    clear hr6 ho6
                    go_wp2_with fail
                    go_meet
                    case rel => exact ⟨0, r5, _, rfl, rfl, T6.out, HZ.out⟩
                  · have b0 : (ok == 0) = false := by simpa using k0
                    have b1 : (ok == 1) = false := by simpa using k1
                    have b2 : (ok == 2) = false := by simpa using k2
                    have b3 : (ok == 3) = false := by simpa using k3
                    have b4 : (ok == 4) = false := by simpa using k4
                    have b5 : (ok == 5) = false := by simpa using k5
                    go_wp2_with fail
                    go_meet
                    case rel => exact ⟨0, r1, d, rfl, rfl, HT.out, HZ.out⟩
      case rest =>
        obtain ⟨n, r6, d6, rfl, rfl, T6, hz6⟩ := hcut
        have HT6 := Lib.hid T6
        subst hz6
        have c0 := T6.ref.cell (j := 0) rfl
        have c1 := T6.ref.cell (j := 1) rfl
        have c4 := T6.ref.cell (j := 4) rfl
        clear T6
        go_wp2_with fail
        go_quiet ((first
          | (go_at_call 24; exact quiet_left (C.bytes (HT6.out.drewN _).has.disk HT6.out.has.ok))
          | (go_at_call 25; exact quiet_left (C.safe (HT6.out.drewN _).has.disk HT6.out.has.ok))
          | (go_at_call 26; exact quiet_left (C.size (HT6.out.drewN _).has.disk HT6.out.has.ok))
          | (go_at_call 27; exact quiet_left (C.down (HT6.out.drewN _).has.disk HT6.out.has.ok))))
        go_wp2_with fail
        go_roundw
        case measure => simp [intOf]; omega
        case rel => exact ⟨k + 1, r6, d6, by omega, by simp, (HT6.out.drewN nq).has, (HT6.out.drewN nq).ref, HT6.out.low, HT6.out.far, rfl⟩
    · go_wp2_with fail
      go_returns
      exact ⟨rfl, hh.below⟩

set_option maxHeartbeats 2000000 in
theorem walk_great (C : Does) (A : Option Addr) (os : List Opn) (c : Nat) (z : Nat) (w : World) (hs : Ops w A os) (hz : z ≤ 1048576) (hm : os.length ≤ maxLen) (hsm : small os = false) :
    Calls Try.prog 3 #[.int .i64 (z : Int), .slice A os.length c] w fun e w' => e = .returned (.bool true) ∧ Below w.heap.size w w' := by
  have HS := Lib.hid hs
  have HSM := Lib.hid hsm
  clear hs hsm
  go_enter Try.func3, Try.ntmps3
  go_wp2_with fail
  refine (awake_any C _).mono ?_
  rintro e w1 ⟨rfl, hb1⟩
  go_wp2_with fail
  refine (C.news (z : Int) w1 w.heap.size hb1.size).mono ?_
  rintro e w2 ⟨hx, hb2⟩
  rw [if_neg (by omega)] at hx
  obtain ⟨g, r, rfl, _⟩ := hx
  have hb3 := hb1.trans (hb2.mono hb1.size)
  unfold at_
  go_wp2_with fail
  refine (rnew_any (z : Int) w2).mono ?_
  rintro e w3 ⟨hx, hb4⟩
  rw [if_neg (by omega)] at hx
  obtain ⟨rfl, _⟩ := hx
  have hb5 := hb3.trans (hb4.mono hb3.size)
  clear hb1 hb2 hb3 hb4
  go_wp2_with fail
  refine (great_any A os c w3 (HS.out.later hb5) hm).mono ?_
  rintro e w4 ⟨rfl, hb6⟩
  rw [HSM.out]
  have hb7 := hb5.trans (hb6.mono hb5.size)
  go_wp2_with fail
  go_returns
  exact ⟨rfl, hb7⟩
set_option maxHeartbeats 2000000 in
theorem walk_none (C : Does) (v : Value) (n : Int) (w : World) (hn : n < 0 ∨ 1048576 < n) :
    Calls Try.prog 3 #[.int .i64 n, v] w fun e w' => e = .returned (.bool true) ∧ Below w.heap.size w w' := by
  have HN := Lib.hid hn
  clear hn
  go_enter Try.func3, Try.ntmps3
  go_wp2_with fail
  refine (awake_any C _).mono ?_
  rintro e w1 ⟨rfl, hb1⟩
  go_wp2_with fail
  refine (C.news n w1 w.heap.size hb1.size).mono ?_
  rintro e w2 ⟨hx, hb2⟩
  rw [if_pos HN.out] at hx
  subst hx
  have hb3 := hb1.trans (hb2.mono hb1.size)
  go_wp2_with fail
  refine (rnew_any n w2).mono ?_
  rintro e w3 ⟨hx, hb4⟩
  rw [if_pos HN.out] at hx
  subst hx
  have hb5 := hb3.trans (hb4.mono hb3.size)
  clear hb1 hb2 hb3 hb4
  go_wp2_with fail
  go_returns
  exact ⟨rfl, hb5⟩
theorem any (C : Does) (A : Option Addr) (os : List Opn) (c : Nat) (n : Int) (w : World) (hs : Ops w A os) (hm : os.length ≤ maxLen) :
    Calls Try.prog 3 #[.int .i64 n, .slice A os.length c] w fun e w' => e = .returned (.bool true) ∧ Below w.heap.size w w' := by
  by_cases hn : n < 0 ∨ 1048576 < n
  · exact walk_none C _ n w hn
  · obtain ⟨z, rfl⟩ := Int.eq_ofNat_of_zero_le (show 0 ≤ n by omega)
    cases h : small os
    · exact walk_great C A os c z w hs (by omega) hm h
    · exact walk C A os c z w hs (by omega) h
theorem opened {H : Type} {enc : TypeId × Value → H} {W : World} {base : Nat} {gs : List (DataW H)} (v0 : Value) (d0 : DataW H) (p0 : List MemPlace) (v1 : Value) (d1 : DataW H) (p1 : List MemPlace)
    (o0 : Value.okWide Try.prog W .any base 3 v0) (t0 : DataW.Trod enc Try.prog W 0 (fun _ => true) true 3 v0 d0 p0)
    (o1 : Value.okWide Try.prog W .any base 22 v1) (t1 : DataW.Trod enc Try.prog W 0 (fun _ => true) true 22 v1 d1 p1)
    (hsz : (DataW.weightsEach Try.prog ([3, 22] ++ []) ([d0, d1] ++ gs)).all (· ≤ reachBytes) = true) :
    Calls Try.prog 3 #[v0, v1] W fun e W' => e = .returned (.bool true) ∧ Below W.heap.size W W' := by
  obtain ⟨n, rfl, rfl, rfl, _⟩ := open_int Try.underlying3 o0 t0
  obtain ⟨A, os, c, rfl, hs, hm⟩ := open_ops o1 t1 (Base.small_of hsz (j := 1) rfl rfl)
  exact any code A os c n W hs hm

theorem contract (H : Type) (enc : TypeId × Value → H) (W : World) (base : Nat) (args : Array Value) (ds gs : List (DataW H)) (before : List MemPlace)
    (hval : ∀ (j : Nat) t v, Try.f3.params[j]? = some t → args[j]? = some v → Value.okWide Try.prog W .any base t v)
    (hW : DataW.Whole enc Try.prog Try.f3.params.toList Rows.diskPlaysSpec.vars false W args.toList ds gs before)
    (hsz : (DataW.weightsEach Try.prog (Try.f3.params.toList ++ []) (ds ++ gs)).all (· ≤ reachBytes) = true) :
    Calls Try.prog 3 args W fun e W' => ∃ v, e = .returned v ∧ Rows.diskPlaysSpec.post enc Try.prog Try.f3 false true false false W args v W' := by
  have hW0 := hW
  obtain ⟨p, q, hA0, hV, rfl, _, _⟩ := hW
  have hA : DataW.TrodAll enc Try.prog W 0 (fun _ => true) true Try.f3.params.toList args.toList ds p := hA0
  rw [Try.params3] at hA hval hsz
  obtain ⟨v0, vs0, d0, ds0, p0, q0, hargs, rfl, rfl, h0, r0⟩ := trodAll_cons hA
  obtain ⟨v1, vs1, d1, ds1, p1, q1, rfl, rfl, rfl, h1, r1⟩ := trodAll_cons r0
  obtain ⟨rfl, rfl, rfl⟩ := trodAll_nil r1
  obtain rfl : args = #[v0, v1] := by cases args; simp_all
  refine (opened v0 d0 p0 v1 d1 p1 (hval 0 3 v0 rfl rfl) h0 (hval 1 22 v1 rfl rfl) h1 hsz).mono fun e W' ⟨he, hb⟩ => ⟨_, he, ?_⟩
  exact Base.law_post (tb := 4) Base.laidOut (by kernel_rfl) rfl Try.underlying4 rfl (fun l hl => by
    rw [Try.params3] at hl
    match l, hl with
    | [_, _], _ => rfl) (by rw [Try.params3]; rfl) hW0 hb

theorem laid_met (os : Os) : laidMet Try.prog Rows.diskPlaysRow.laid ((Base.plainWorld os).forCall (fun _ _ => 0) ⟨#[], #[.int .i64 0, .slice none 0 0], []⟩).memory := laidMet_nil _ _
theorem reads (os : Os) {H : Type} (enc : TypeId × Value → H) : ∃ places, DataW.whole enc Try.prog ((Base.plainWorld os).forCall (fun _ _ => 0) ⟨#[], #[.int .i64 0, .slice none 0 0], []⟩).memory Try.f3.params.toList Rows.diskPlaysSpec.vars false (#[.int .i64 0, .slice none 0 0] : Array Value).toList 8 = some ([.lit (.int .i64 0), .nil], [], places) :=
  ⟨[], by kernel_rfl⟩

set_option maxRecDepth 100000 in
theorem lifted (os : Os) (started : os.Started) (H : Type) (enc : TypeId × Value → H) (F : Stop.Interp) :
    ReturnsInHanded {} Try.checked os 3 .any ((OpenSpec.ofChange Rows.diskPlaysSpec).preRow enc Try.prog Try.f3 Rows.diskPlaysRow.domain false Rows.diskPlaysRow.laid) (((OpenSpec.ofChange Rows.diskPlaysSpec).at F).post enc Try.prog Try.f3 false true false false) := by
  obtain ⟨places, hx⟩ := reads os enc
  refine returnsInHanded_of_row (C := Try.checked) (s := OpenSpec.ofChange Rows.diskPlaysSpec) Base.own started (by kernel_rfl) Try.func3
    (witness_row_at (enc := enc) (C := Try.checked) false (Base.plainWorld os) #[.int .i64 0, .slice none 0 0] rfl (by kernel_rfl) (by kernel_rfl) (by kernel_rfl)
      (OpenSpec.preRow_of_cond 8 hx (by kernel_rfl) (fun k hk => by cases hk) (by kernel_rfl) (laid_met os))) ?_
  intro W base args ds gs before hval hW _ _ hsz _ _ _
  exact contract H enc W base args ds gs before hval hW hsz

theorem said : Rows.DiskPlaysSaid :=
  OpenClaim.holds_of_cond 3 Try.f3 rfl rfl rfl rfl rfl rfl rfl ⟨rfl, rfl, rfl, rfl, rfl⟩ rfl rfl rfl rfl rfl (by kernel_rfl) Try.func3 (by kernel_rfl)
    (of_decide_eq_true (by kernel_rfl)) (by unfold Func.isWrapper; rw [if_neg (of_decide_eq_false (by kernel_rfl))]; exact ⟨rfl, rfl⟩)
    (fun os started H enc _ F => by rw [OpenClaim.pre_eq_preRow]; exact lifted os started H enc F)
#print axioms said
end Go.Proofs.Ytgljeocpegfbfaa.DiskPlays
