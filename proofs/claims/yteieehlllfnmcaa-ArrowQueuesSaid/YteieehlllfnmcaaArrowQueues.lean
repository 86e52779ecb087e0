/-
  P16.3: Where finds go at the same time, each ends once, at the first owner or at another one that asked, and no two behind the same one. Conditions: none.
-/
import Derived.Test.YteieehlllfnmcaaArrQ
import Derived.Test.YteieehlllfnmcaaU8s
import Derived.Test.YteieehlllfnmcaaReg3
import Derived.Test.YteieehlllfnmcaaReg4
namespace Go.Proofs.Yteieehlllfnmcaa.ArrowQueues
set_option maxRecDepth 100000
open Go.ChangeShapes Go.WideShapes Go.ChangeAt Go.RowKit Go.Deep Go.Proofs.Yteieehlllfnmcaa.Mem Go.Proofs.Yteieehlllfnmcaa.Spn Go.Proofs.Yteieehlllfnmcaa.Arr

def Pot (N i : Nat) (way : List Arr.Fd) : Prop := N ≤ i → way ≠ [] → mu way + (i - N) ≤ 105
theorem pot_step {n asks ended N i : Nat} {T : Nat → Nat} {way way' : List Arr.Fd} {asked behind : List Nat} (hn : n ≤ 16) (h : QI n T way' asked behind asks ended) (hd : N ≤ i → way' ≠ [] → mu way' + 1 ≤ mu way ∧ way ≠ []) (hp : Pot N i way) : Pot N (i + 1) way' := by
  intro e1 e2
  by_cases e3 : N ≤ i
  · obtain ⟨k1, k2⟩ := hd e3 e2
    have := hp e3 k2
    omega
  · have h1 := mu_le hn h.fd
    have h2 := h.few
    omega
theorem pot_nil (N i : Nat) : Pot N i [] := fun _ e => absurd rfl e
theorem slice_at {l : List Arr.Fd} {k : Nat} (hk : k < l.length) : l = l.take k ++ l[k] :: l.drop (k + 1) := by
  rw [List.getElem_cons_drop hk, List.take_append_drop]
def arQu35 (g vc lz fb tg sr ov : Nat) (eb : Bool) : Nat → Value → World → Prop
  | 0, v, _ => v = .slice (some ⟨g, 0, none⟩) lz vc
  | 1, v, _ => v = .pointer (some ⟨fb, 2, none⟩)
  | 2, v, _ => v = .int .i64 (tg : Int)
  | 3, v, _ => v = .pointer (some ⟨g, tg * 3, none⟩)
  | 4, v, _ => v = .pointer (some ⟨fb, 1, none⟩)
  | 5, v, _ => v = .int .i64 (sr : Int)
  | 6, v, _ => v = .tuple #[.int .i64 (ov : Int), .bool eb, .int .i64 0]
  | 7, v, _ => v = .tuple #[.int .i64 (ov : Int), .bool eb, .int .i64 0]
  | 8, v, _ => v = .int .i64 (ov : Int)
  | 9, v, _ => v = .bool eb
  | 10, v, _ => v = .int .i64 0
  | 11, v, _ => v = .int .i64 (ov : Int)
  | 12, v, _ => v = .bool eb
  | 13, v, _ => v = .int .i64 0
  | _, _, _ => True
theorem arQu35_later {g vc lz fb tg sr ov : Nat} {eb : Bool} {j : Nat} {v : Value} {w w' : World} (_hb : Below w.heap.size w w') (h : arQu35 g vc lz fb tg sr ov eb j v w) : arQu35 g vc lz fb tg sr ov eb j v w' := by
  match j, h with
  | 0, h | 1, h | 2, h | 3, h | 4, h | 5, h | 6, h | 7, h | 8, h | 9, h | 10, h | 11, h | 12, h | 13, h => exact h
  | _ + 14, _ => exact trivial
theorem arQu35_keep {g vc lz fb tg sr ov : Nat} {eb : Bool} {j : Nat} {v : Value} {w w' : World}  (h : arQu35 g vc lz fb tg sr ov eb j v w) : arQu35 g vc lz fb tg sr ov eb j v w' := by
  match j, h with
  | 0, h | 1, h | 2, h | 3, h | 4, h | 5, h | 6, h | 7, h | 8, h | 9, h | 10, h | 11, h | 12, h | 13, h => exact h
  | _ + 14, _ => exact trivial
set_option maxHeartbeats 4000000 in
theorem walk (nd ow : Nat) (h1 : nd ≤ 255) (h2 : ow ≤ 255) (A : Option Addr) (ks : List Int) (c : Nat) (w : World) (hs : U8s w A ks) (hk : ∀ k ∈ ks, 0 ≤ k ∧ k ≤ 255) (hl : ks.length ≤ 140737488351232) :
    Calls Try.prog 5 #[.int .u8 (nd : Int), .int .u8 (ow : Int), .slice A ks.length c] w fun e w' => e = .returned (.bool true) ∧ Below w.heap.size w w' := by
  have HA := Lib.hid (awake_any w)
  have HS := Lib.hid hs
  have HKS := Lib.hid hk
  obtain ⟨N, hN⟩ : ∃ N, ks.length = N := ⟨_, rfl⟩
  rw [hN] at hl ⊢
  have HN := Lib.hid hN
  obtain ⟨n, hn⟩ : ∃ n, 1 + nd % 16 = n := ⟨_, rfl⟩
  obtain ⟨o, ho⟩ : ∃ o, 1 + ow % n = o := ⟨_, rfl⟩
  have hn1 : 1 ≤ n := by omega
  have hn2 : n ≤ 16 := by omega
  have ho1 : 1 ≤ o := by omega
  have ho2 : o ≤ n := by have := Nat.mod_lt ow hn1; omega
  have hn' : (1 : Int) + ((nd : Int) % 16) = (n : Int) := by omega
  have ho' : (1 : Int) + ((ow : Int) % (n : Int)) = (o : Int) := by omega
  clear hs hk hN hn ho
  go_enter Try.func5, Try.ntmps5
  go_wp2_with fail
  refine HA.out.mono ?_
  rintro e w1 ⟨rfl, hb⟩
  have HB1 := Lib.hid hb
  have HG := Lib.hid (grow_any n o hn2 ho1 ho2 w1)
  clear hb HA
  go_wp2_with fail
  refine HG.out.mono ?_
  rintro e w2 ⟨g, vc, rfl, hr, hb⟩
  have HR2 := Lib.hid hr
  have HB2 := Lib.hid (HB1.out.trans (hb.mono HB1.out.size))
  obtain ⟨B, hB⟩ : ∃ B, w1.heap.size = B := ⟨_, rfl⟩
  rw [hB] at HR2
  obtain ⟨g', e, hg1, hg2⟩ := HR2.out.low
  obtain rfl : g = g' := by simpa using e
  have HBB : Hid (w.heap.size ≤ B ∧ B ≤ w2.heap.size ∧ B ≤ g ∧ g < w2.heap.size) := Lib.hid (by have := HB1.out.size; have := hb.size; omega)
  obtain ⟨lz, hlz⟩ : ∃ l, n + 1 = l := ⟨_, rfl⟩
  rw [hlz]
  clear hr hb HG hB e hg1 hg2 hn' ho' HB1
  by_cases h40 : 40 < N
  · have e1 : decide ((N : Int) > 40) = true := decide_eq_true (by omega)
    go_wp2_with fail
    go_returns
    exact ⟨rfl, HB2.out⟩
  have e1 : decide ((N : Int) > 40) = false := decide_eq_false (by omega)
  obtain ⟨w3, hw3⟩ : ∃ W, W = w2.alloc (.map #[] 0) := ⟨_, rfl⟩
  have hb3 : Below w2.heap.size w2 w3 := by rw [hw3]; exact below_alloc _ _
  obtain ⟨w4, hst, hse, ho4⟩ := Seen.store (w := w3) (b := w2.heap.size) (by rw [hw3]; exact seen_made w2) (x := o) (by omega)
  obtain ⟨ma, hma⟩ : ∃ q, w2.heap.size = q := ⟨_, rfl⟩
  obtain ⟨w5, hw5⟩ : ∃ W, W = w4.alloc (.map #[] 0) := ⟨_, rfl⟩
  have hb5 : Below w4.heap.size w4 w5 := by rw [hw5]; exact below_alloc _ _
  have hse5 : Seen w5 w4.heap.size [] := by rw [hw5]; exact seen_made w4
  obtain ⟨mb, hmb⟩ : ∃ q, w4.heap.size = q := ⟨_, rfl⟩
  have hsz3 : w3.heap.size = ma + 1 := by rw [hw3, ← hma]; show (w2.heap.push _).size = _; rw [Array.size_push]
  have HQM5 : Hid (QM B w5 g vc n (fun v => nx v o) none 0 [] ma mb [o] []) := Lib.hid (by
    have hq := HBB.out
    have h34 := ho4.size
    refine ⟨?_, OwnG.nil _ _ _ _ _, ?_, by rw [← hmb]; exact hse5, ⟨by omega, by omega, by omega⟩, fun k e => (by cases e), by omega, by omega, by omega⟩
    · exact ((HR2.out.later hb3).only ho4 fun k e e2 => by have e3 : g = k := Option.some.inj e; omega).later hb5
    · rw [← hma]
      exact (by simpa using hse : Seen w4 w2.heap.size [o]).later hb5)
  have HB5 : Hid (Below w.heap.size w w5) := Lib.hid (by
    have hq := HBB.out
    have h34 := ho4.size
    refine (HB2.out.trans (hb3.mono HB2.out.size)).trans ((ho4.below (by omega) fun k e => by omega).trans (hb5.mono (by omega))))
  have HQI5 := Lib.hid (QI.start hn2 ho1 ho2)
  have hmm := @run_makeMap Try.prog
  rw [hw3] at hst
  rw [hma] at hst
  clear hw3 hb3 hse ho4 hb5 hse5 hsz3 HR2 HB2
  go_upto_region 10 with (fail)
  rw [← hw5]
  clear hw5 hst hmm
  go_wp2_with fail
  go_loopw [11, 14, 15, 16] (fun wy av ev ix wr => ∃ (i : Nat) (way : List Arr.Fd) (V : Option Addr) (cw : Nat) (T : Nat → Nat) (asked behind : List Nat) (asks ended : Nat), wy = .slice V way.length cw ∧ av = .int .i64 (asks : Int) ∧ ev = .int .i64 (ended : Int) ∧ ix = .int .i64 (i : Int) ∧ i ≤ N + 200 ∧ Hid (QI n T way asked behind asks ended) ∧ Hid (Pot N i way) ∧ Hid (QM B wr g vc n T V cw way ma mb asked behind) ∧ Hid (Below w.heap.size w wr)) (fun _ _ _ ix _ => N + 200 - (intOf ix).toNat)
  case atStart => exact ⟨0, [], none, 0, fun v => nx v o, [o], [], 0, 0, rfl, rfl, rfl, rfl, Nat.zero_le _, HQI5, Lib.hid (pot_nil _ _), HQM5, HB5⟩
  case round =>
    obtain ⟨i, way, V, cw, T, asked, behind, asks, ended, rfl, rfl, rfl, rfl, hi, HQI, HP, HQM, HB⟩ := hrel
    obtain ⟨wo, hwo⟩ : ∃ W, W = wr := ⟨_, rfl⟩
    subst hwo
    clear HQI5 HQM5 HB5
    obtain ⟨nw, hnw⟩ : ∃ q, way.length = q := ⟨_, rfl⟩
    rw [hnw]
    have HNW := Lib.hid hnw
    have hfew := HQI.out.few
    have hnw16 : nw ≤ 15 := by omega
    have has16 : asks ≤ 15 := by have h1 := nodup_le HQI.out.nd HQI.out.rg; have := HQI.out.cn; omega
    have hen16 : ended ≤ 15 := by have := HQI.out.en; omega
    clear hnw hfew
    by_cases hlt : i < N + 200
    · have e1 : decide ((i : Int) < (N : Int) + 200) = true := decide_eq_true (by omega)
      obtain ⟨bi, hbi⟩ : ∃ b, decide (i < N) = b := ⟨_, rfl⟩
      go_upto_region 15 with (fail)
      go_cut [66] from 63 to 65 (fun v wx => v = .bool bi ∧ wx = wo)
      case first =>
        go_wp2_with fail
        go_meet
        exact ⟨rfl, rfl⟩
      obtain ⟨rfl, hwr⟩ := hcut
      rw [hwr]
      clear hwr
      apply_assumption
      go_cut [17] from 67 to 71 (fun v wx => ∃ x : Nat, v = .int .i64 (x : Int) ∧ x ≤ 255 ∧ wx = wo)
      case first =>
        cases bi with
        | true =>
          have hiN : i < N := by have := of_decide_eq_true hbi; omega
          have hil : i < ks.length := by rw [HN.out]; exact hiN
          obtain ⟨g5, off, rfl, hc⟩ := (HS.out.later HB.out) i hil
          obtain ⟨q1, q2⟩ := HKS.out ks[i] (List.getElem_mem hil)
          obtain ⟨x, hx⟩ : ∃ x : Nat, ks[i] = (x : Int) := ⟨ks[i].toNat, by omega⟩
          rw [hx] at hc q2
          clear hx hil q1
          go_wp2_with fail
          go_meet
          exact ⟨x, rfl, by omega, rfl⟩
        | false =>
          go_wp2_with fail
          go_meet
          exact ⟨0, rfl, by omega, rfl⟩
      obtain ⟨x, rfl, hx, hwr⟩ := hcut
      rw [hwr]
      clear hwr
      obtain ⟨bx, hbx⟩ : ∃ b, ((x : Int) % 2 == 0) = b := ⟨_, rfl⟩
      go_upto_region 17 with (fail)
      go_cut [80] from 72 to 79 (fun v wx => v = .bool (bi && bx) ∧ wx = wo)
      case first =>
        cases bi
        all_goals
        · go_wp2_with fail
          go_meet
          exact ⟨rfl, rfl⟩
      obtain ⟨rfl, hwr⟩ := hcut
      rw [hwr]
      clear hwr
      apply_assumption
      cases hbb : bi && bx with
      | true =>
        have hiN : i < N := by
          rw [Bool.and_eq_true] at hbb
          have h9 := hbi
          rw [hbb.1] at h9
          have := of_decide_eq_true h9
          omega
        have HPP : Hid (∀ (T' : Nat → Nat) (way' : List Arr.Fd) (as' bs' : List Nat) (a' e' : Nat), QI n T' way' as' bs' a' e' → Pot N (i + 1) way') := Lib.hid fun _ _ _ _ _ _ h => pot_step hn2 h (fun e _ => absurd e (by omega)) HP.out
        obtain ⟨v, hv⟩ : ∃ v, 1 + x / 2 % n = v := ⟨_, rfl⟩
        have hv1 : 1 ≤ v := by omega
        have hv2 : v ≤ n := by have := Nat.mod_lt (x / 2) hn1; omega
        have hv' : (1 : Int) + ((x : Int) / 2 % (n : Int)) = (v : Int) := by
          rw [← hv]
          simp
        have hvz : v < lz := by omega
        have hn0 : ((n : Int) == 0) = false := by simp; omega
        clear hbi hbx hv hbb
        by_cases hva : v ∈ asked
        · have hlk := HQM.out.sa.hit hva (by omega)
          go_wp2_with fail
          go_roundw
          case rel => exact ⟨i + 1, way, V, cw, T, asked, behind, asks, ended, by rw [HNW.out], rfl, rfl, by go_num, by omega, HQI, Lib.hid (HPP.out _ _ _ _ _ _ HQI.out), HQM, HB⟩
          case measure => simp [intOf]; omega
        · have hlk := HQM.out.sa.look hva (by omega)
          obtain ⟨hne, hq⟩ := HQI.out.want hn2 hv1 hv2 hva
          have HW0 := tWant HQM.out.row hv1 hv2
          rw [if_neg hne, decide_eq_false hne, Bool.not_false] at HW0
          obtain ⟨t, ht⟩ : ∃ t, T v = t := ⟨_, rfl⟩
          rw [ht] at HW0 hq
          have HW := Lib.hid HW0
          have HQ2 := Lib.hid hq
          clear HW0 hq hne ht hva
          go_wp2_with fail
          refine HW.out.mono ?_
          rintro e w6 ⟨rfl, hr, ho⟩
          obtain ⟨hm6, hb6⟩ := HQM.out.turn hr ho
          obtain ⟨w7, hst, hse, ho7⟩ := hm6.sa.store (x := v) (by omega)
          obtain ⟨hm7, hb7⟩ := hm6.asks hse ho7
          obtain ⟨V8, c8, w8, hrun, hm8, hb8⟩ := hm7.more ⟨v, v, t⟩ (by rw [HNW.out]; omega)
          rw [HNW.out] at hrun
          have HL8 : Hid ((way ++ [(⟨v, v, t⟩ : Arr.Fd)]).length = nw + 1) := Lib.hid (by rw [List.length_append, HNW.out]; rfl)
          rw [HL8.out] at hrun
          have HRUN := Lib.hid hrun
          have HQM8 := Lib.hid hm8
          have HB8 : Hid (Below w.heap.size w w8) := Lib.hid (HB.out.trans ((hb6.trans (hb7.trans hb8)).mono HBB.out.1))
          clear hr ho hm6 hb6 hse ho7 hm7 hb7 hrun hm8 hb8 HW HQM HB
          go_wp2_with (at_builtin
                       refine Lib.wpList_append_run _ rfl _ _ 55 55 rfl _ _ rfl rfl _ _ HRUN.out ?_)
          go_roundw
          case rel => exact ⟨i + 1, way ++ [(⟨v, v, t⟩ : Arr.Fd)], V8, c8, upd T v v, asked ++ [v], behind, asks + 1, ended, by rw [HL8.out], by go_num, rfl, by go_num, by omega, HQ2, Lib.hid (HPP.out _ _ _ _ _ _ HQ2.out), HQM8, HB8⟩
          case measure => simp [intOf]; omega
      | false =>
        clear hbi hbx hbb
        by_cases hw0 : nw = 0
        · have hwn : way = [] := List.eq_nil_of_length_eq_zero (by rw [HNW.out]; exact hw0)
          have HPN : Hid (Pot N (i + 1) way) := Lib.hid (by rw [hwn]; exact pot_nil _ _)
          have e2 : ((nw : Int) == 0) = true := by simp; omega
          clear hwn
          go_wp2_with fail
          go_roundw
          case rel => exact ⟨i + 1, way, V, cw, T, asked, behind, asks, ended, by rw [HNW.out], rfl, rfl, by go_num, by omega, HQI, HPN, HQM, HB⟩
          case measure => simp [intOf]; omega
        · have hn0 : 0 < nw := by omega
          have e2 : ((nw : Int) == 0) = false := by simp; omega
          obtain ⟨ii, hii⟩ : ∃ q, x / 2 % nw = q := ⟨_, rfl⟩
          have hiw : ii < nw := by have := Nat.mod_lt (x / 2) hn0; omega
          have hii' : ((x : Int) / 2 % (nw : Int)) = (ii : Int) := by
            rw [← hii]
            simp
          have HIW : Hid (∃ h : ii < way.length, True) := Lib.hid ⟨by rw [HNW.out]; exact hiw, trivial⟩
          obtain ⟨hilw, _⟩ := HIW.out
          obtain ⟨gw, rfl, _⟩ := HQM.out.elem hilw
          clear hii
          go_wp2_with fail
          go_loopw [21, 22] (fun ax kx wq => ∃ k : Nat, ax = .int .i64 (ii : Int) ∧ kx = .int .i64 (k : Int) ∧ k ≤ ii ∧ Hid (∃ q, wq = wo.drewN q)) (fun _ kx _ => ii - (intOf kx).toNat)
          case atStart => exact ⟨0, by rw [hii'], rfl, Nat.zero_le _, Lib.hid ⟨0, rfl⟩⟩
          case round =>
            clear hii'
            obtain ⟨k, rfl, rfl, hkk, HQ⟩ := hrel
            have HQMq : Hid (QM B wr g vc n T (some ⟨gw, 0, none⟩) cw way ma mb asked behind) := Lib.hid (by obtain ⟨q, rfl⟩ := HQ.out; exact HQM.out.later (below_drew _ q))
            have HBq : Hid (Below w.heap.size w wr) := Lib.hid (by obtain ⟨q, rfl⟩ := HQ.out; exact below_drewN HB.out q)
            by_cases hki : k < ii
            · have hkl : k < way.length := by omega
              obtain ⟨_, e9, hck⟩ := HQMq.out.elem hkl
              cases e9
              obtain ⟨_, e9, hca⟩ := HQMq.out.elem hilw
              cases e9
              have hun := List.pairwise_iff_getElem.1 HQI.out.pw k ii hkl hilw hki
              have x1 := hck.cell (j := 1) rfl
              have x2 := hck.cell (j := 2) rfl
              have y1 := hca.cell (j := 1) rfl
              have y2 := hca.cell (j := 2) rfl
              have hzz : k < nw := by omega
              obtain ⟨fk, hfk⟩ : ∃ f, way[k] = f := ⟨_, rfl⟩
              obtain ⟨fa, hfa⟩ : ∃ f, way[ii] = f := ⟨_, rfl⟩
              rw [hfk] at x1 x2 hun
              rw [hfa] at y1 y2 hun
              clear hck hca hfk hfa hkl
              have hkw : (k : Int) < (nw : Int) := by omega
              have hiiw : (ii : Int) < (nw : Int) := by omega
              by_cases hs : fk.src = fa.src
              · have ht : ¬ fk.tgt = fa.tgt := fun e => hun (Or.inl ⟨hs, e⟩)
                have e3 : ((fk.src : Int) == (fa.src : Int)) = true := by simp; omega
                have e4 : ((fk.tgt : Int) == (fa.tgt : Int)) = false := by simp; omega
                clear hun hs ht
                go_upto_region 31 with (fail)
                go_quiet (fail)
                go_wp2_with fail
                go_roundw
                case rel => exact ⟨k + 1, rfl, by go_num, by omega, Lib.hid (drew_two HQ.out ⟨_, rfl⟩)⟩
                case measure => simp [intOf]; omega
              · have e3 : ((fk.src : Int) == (fa.src : Int)) = false := by simp; omega
                clear hun hs
                go_upto_region 31 with (fail)
                go_quiet (fail)
                go_wp2_with fail
                go_roundw
                case rel => exact ⟨k + 1, rfl, by go_num, by omega, Lib.hid (drew_two HQ.out ⟨_, rfl⟩)⟩
                case measure => simp [intOf]; omega
            · obtain rfl : ii = k := by omega
              obtain ⟨_, e9, hca⟩ := HQMq.out.elem hilw
              cases e9
              have hsl := slice_at hilw
              obtain ⟨f, hf⟩ : ∃ f, way[ii] = f := ⟨_, rfl⟩
              rw [hf] at hca hsl
              obtain ⟨who, sr, tg⟩ := f
              have hqi := HQI.out
              have hmw : mu (way.take ii ++ (⟨who, sr, tg⟩ : Arr.Fd) :: way.drop (ii + 1)) = mu way := by rw [← hsl]
              rw [hsl] at hqi
              obtain ⟨hcm1, hcm2, hcm3, hcm4⟩ := hqi.come hn2
              have kf := hqi.fd ⟨who, sr, tg⟩ (by simp)
              obtain ⟨s1, s2, t1, t2, _, _, _, _, _, _⟩ := kf
              dsimp only at hcm1 hcm2 hcm3 hcm4 s1 s2 t1 t2
              rw [hmw] at hcm3 hcm4
              have HC3 := Lib.hid hcm3
              have HC4 := Lib.hid hcm4
              have HNE := Lib.hid hcm1
              have HED := Lib.hid hcm2
              have hwn : way ≠ [] := fun e => by rw [e] at hilw; cases hilw
              have HPP : Hid (∀ (T' : Nat → Nat) (way' : List Arr.Fd) (as' bs' : List Nat) (a' e' : Nat), QI n T' way' as' bs' a' e' → mu way' + 1 ≤ mu way → Pot N (i + 1) way') := Lib.hid fun _ _ _ _ _ _ h h9 => pot_step hn2 h (fun _ _ => ⟨h9, hwn⟩) HP.out
              have x0 : wr.cell? ⟨gw, ii * 3, none⟩ = _ := hca.cell (j := 0) rfl
              have x1 : wr.cell? ⟨gw, ii * 3 + 1, none⟩ = _ := hca.cell (j := 1) rfl
              have x2 : wr.cell? ⟨gw, ii * 3 + 2, none⟩ = _ := hca.cell (j := 2) rfl
              dsimp only at x0 x1 x2
              obtain ⟨we, hwe⟩ : ∃ W, W = wr.alloc (.cells #[.int .i64 (who : Int), .int .i64 (sr : Int), .int .i64 (tg : Int)] 58) := ⟨_, rfl⟩
              have hbe : Below wr.heap.size wr we := by rw [hwe]; exact below_alloc _ _
              have hce : Cells we wr.heap.size 58 [.int .i64 (who : Int), .int .i64 (sr : Int), .int .i64 (tg : Int)] := by rw [hwe]; exact cells_new _ _ _ _ rfl
              have hgf := HQMq.out.lt.1
              obtain ⟨fb, hfb⟩ : ∃ q, wr.heap.size = q := ⟨_, rfl⟩
              rw [hfb] at hce hgf
              have HCE := Lib.hid hce
              have hme := HQMq.out.later hbe
              have HQMe := Lib.hid hme
              have HBe : Hid (Below w.heap.size w we) := Lib.hid (HBq.out.trans (hbe.mono HBq.out.size))
              obtain ⟨AD, hAD, hDS⟩ := hme.rest hilw
              have HAD := Lib.hid hAD
              have HDS := Lib.hid hDS
              have HTS : Hid (∀ wi, Below we.heap.size we wi → Sl wi (some ⟨gw, 0, none⟩) 3 ((way.take ii).map Arr.Fd.vals)) := Lib.hid fun wi hb => by rw [List.map_take]; exact sl_take' (OwnG.sl fit_fd (hme.later hb).way).2 ii
              have HLW : Hid (way.length = nw) := HNW
              have HI : Hid (ii < nw ∧ nw ≤ cw ∧ nw ≤ 15) := Lib.hid ⟨hiw, by rw [← HNW.out]; exact hme.cap, hnw16⟩
              have HTL : Hid ((way.take ii).length = ii) := Lib.hid (by rw [List.length_take, HNW.out]; omega)
              have HDL : Hid ((way.drop (ii + 1)).length = nw - (ii + 1)) := Lib.hid (by rw [List.length_drop, HNW.out])
              have HGF := Lib.hid hgf
              clear hca hsl hf hqi hmw hcm1 hcm2 hcm3 hcm4 hwn hbe hce hme hAD hDS HQ HQM HB HQMq HBq hgf
              go_upto_region 34 with (fail)
              rw [← hwe]
              clear hwe hfb x0 x1 x2
              refine Reg.region_inv (by kernel_rfl) (fun i => ([none, some (.slice (some ⟨gw, 0, none⟩) nw cw), some (.int .i64 (ii : Int)), some (.slice (some ⟨gw, 0, none⟩) ii cw), none, some (.slice (some ⟨gw, 0, none⟩) nw cw), some (.int .i64 (ii : Int)), some (.int .i64 ((ii : Int) + 1)), some (.slice (some AD) (nw - (ii + 1)) (cw - (ii + 1))), none, none] : List (Option Value)).getD i none) (fun D V W => ApG 58 3 Arr.Fd.vals we (D 0) (cond (D 9) (V 9) (cond (D 4) (V 4) (V 0))) (cond (D 9) (way.take ii ++ way.drop (ii + 1)) (cond (D 4) (way.take ii) [])) false undef (⟨0, 0, 0⟩ : Arr.Fd) W ∧ (D 10 = true → V 10 = (V 9))) (fun V => [(some 151, V 0), (some 152, V 1), (some 153, V 2), (some 154, V 3), (some 155, V 4), (some 156, V 5), (some 157, V 6), (some 158, V 7), (some 159, V 8), (some 160, V 9), (some 11, V 10)]) (by kernel_rfl) (by kernel_rfl) (fun V => rfl) ?_ ?_ ?_
              · intro V
                exact ⟨ApG.start (Below.refl _ _).drew _ _ _ _, fun e => (by cases e)⟩
              · intro i o ho
                have hi : i < 11 := (Array.getElem?_eq_some_iff.1 ho).1
                rcases i with _ | _ | _ | _ | _ | _ | _ | _ | _ | _ | _ | i
                rotate_right
                · omega
                all_goals obtain rfl := Option.some.inj ho
                all_goals intro D V ρ wi hE hI hDi hT hF hs hd hk
                · have hD0 : D 0 = false := hDi; have hD4 : D 4 = false := hF 1 4; have hD9 : D 9 = false := hF 2 9; have hD10 : D 10 = false := hF 1 10; clear hT hF; have h1 := hI.1
                  rw [hD0] at h1
                  rw [hD4] at h1
                  rw [hD9] at h1
                  simp only [cond_false] at h1
                  exact Reg.Gives.value (v := .slice (some ⟨wi.heap.size, 0, none⟩) 0 0) (w' := wi.alloc (.cells #[] 58)) (by go_simp) ⟨fun x h => (by cases h), by show ApG 58 3 Arr.Fd.vals we true (cond (D 9) (V 9) (cond (D 4) (V 4) (.slice (some ⟨wi.heap.size, 0, none⟩) 0 0))) (cond (D 9) (way.take ii ++ way.drop (ii + 1)) (cond (D 4) (way.take ii) [])) false undef (⟨0, 0, 0⟩ : Arr.Fd) (wi.alloc (.cells #[] 58)) ∧ ((D 10) = true → V 10 = (V 9)); rw [hD4, hD9, hD10]; simp only [cond_false]; exact ⟨h1.mkz, fun e => by cases e⟩⟩
                · have e11 : ρ (.tmp 11) = .slice (some ⟨gw, 0, none⟩) nw cw := hs 11; clear hT hF hk
                  exact Reg.Gives.value (v := .slice (some ⟨gw, 0, none⟩) nw cw) (w' := wi) (by go_simp) ⟨fun x h => Option.some.inj h, hI⟩
                · have e21 : ρ (.tmp 21) = .int .i64 (ii : Int) := hs 21; clear hT hF hk
                  exact Reg.Gives.value (v := .int .i64 (ii : Int)) (w' := wi) (by go_simp) ⟨fun x h => Option.some.inj h, hI⟩
                · have e152 : ρ (.tmp 152) = .slice (some ⟨gw, 0, none⟩) nw cw := (hd 1 152).trans (hk 1 _ rfl); have e153 : ρ (.tmp 153) = .int .i64 (ii : Int) := (hd 2 153).trans (hk 2 _ rfl); clear hT hF
                  have z1 : ii ≤ cw := by have := HI.out; omega
                  have z2 : ii ≤ nw := by have := HI.out; omega
                  have z3 : (ii : Int) ≤ (cw : Int) := by omega
                  exact Reg.Gives.value (v := .slice (some ⟨gw, 0, none⟩) ii cw) (w' := wi) (by go_simp) ⟨fun x h => Option.some.inj h, hI⟩
                · have e151 : ρ (.tmp 151) = V 0 := hd 0 151; have e154 : ρ (.tmp 154) = .slice (some ⟨gw, 0, none⟩) ii cw := (hd 3 154).trans (hk 3 _ rfl); have hD0 : D 0 = true := hT 1 0; have hD4 : D 4 = false := hDi; have hD9 : D 9 = false := hF 1 9; have hD10 : D 10 = false := hF 1 10; clear hT hF; have h1 := hI.1
                  rw [hD0] at h1
                  rw [hD4] at h1
                  rw [hD9] at h1
                  simp only [cond_false] at h1
                  have hL := h1.low
                  obtain ⟨A2, n2, c2, w2, hrun, hn⟩ := h1.app el_fd fit_fd (m := way.take ii) (HTS.out wi hL) (fun e => by cases e) (by have := HI.out; simp; omega)
                  rw [HTL.out] at hrun
                  exact Reg.Gives.value (v := .slice A2 n2 c2) (w' := w2) (Reg.exec_append rfl e151 e154 hrun) ⟨fun x h => (by cases h), by show ApG 58 3 Arr.Fd.vals we (D 0) (cond (D 9) (V 9) (cond true (.slice A2 n2 c2) (V 0))) (cond (D 9) (way.take ii ++ way.drop (ii + 1)) (cond true (way.take ii) [])) false undef (⟨0, 0, 0⟩ : Arr.Fd) w2 ∧ ((D 10) = true → V 10 = (V 9)); rw [hD0, hD9, hD10]; simp only [cond_false, cond_true]; exact ⟨hn, fun e => by cases e⟩⟩
                · have e11 : ρ (.tmp 11) = .slice (some ⟨gw, 0, none⟩) nw cw := hs 11; clear hT hF hk
                  exact Reg.Gives.value (v := .slice (some ⟨gw, 0, none⟩) nw cw) (w' := wi) (by go_simp) ⟨fun x h => Option.some.inj h, hI⟩
                · have e21 : ρ (.tmp 21) = .int .i64 (ii : Int) := hs 21; clear hT hF hk
                  exact Reg.Gives.value (v := .int .i64 (ii : Int)) (w' := wi) (by go_simp) ⟨fun x h => Option.some.inj h, hI⟩
                · have e157 : ρ (.tmp 157) = .int .i64 (ii : Int) := (hd 6 157).trans (hk 6 _ rfl); have hc := hE.const; clear hT hF
                  have z0 : IntKind.i64.wrap ((ii : Int) + 1) = (ii : Int) + 1 := by rw [IntKind.wrap_i64]; have := HI.out; omega
                  exact Reg.Gives.value (v := .int .i64 ((ii : Int) + 1)) (w' := wi) (by go_simp) ⟨fun x h => Option.some.inj h, hI⟩
                · have e156 : ρ (.tmp 156) = .slice (some ⟨gw, 0, none⟩) nw cw := (hd 5 156).trans (hk 5 _ rfl); have e158 : ρ (.tmp 158) = .int .i64 ((ii : Int) + 1) := (hd 7 158).trans (hk 7 _ rfl); clear hT hF
                  have z1 : ii + 1 ≤ nw := by have := HI.out; omega
                  have z2 : ii + 1 ≤ cw := by have := HI.out; omega
                  have z3 : (0 : Int) ≤ (ii : Int) + 1 := by omega
                  have z4 : (ii : Int) + 1 ≤ (nw : Int) := by omega
                  have z5 := HAD.out
                  exact Reg.Gives.value (v := .slice (some AD) (nw - (ii + 1)) (cw - (ii + 1))) (w' := wi) (by go_simp) ⟨fun x h => Option.some.inj h, hI⟩
                · have e155 : ρ (.tmp 155) = V 4 := hd 4 155; have e159 : ρ (.tmp 159) = .slice (some AD) (nw - (ii + 1)) (cw - (ii + 1)) := (hd 8 159).trans (hk 8 _ rfl); have hD0 : D 0 = true := hT 2 0; have hD4 : D 4 = true := hT 1 4; have hD9 : D 9 = false := hDi; have hD10 : D 10 = false := hF 1 10; clear hT hF; have h1 := hI.1
                  rw [hD0] at h1
                  rw [hD4] at h1
                  rw [hD9] at h1
                  simp only [cond_false, cond_true] at h1
                  have hL := h1.low
                  obtain ⟨A2, n2, c2, w2, hrun, hn⟩ := h1.app el_fd fit_fd (m := way.drop (ii + 1)) (HDS.out wi hL) (fun e => by cases e) (by have := HI.out; have := HLW.out; simp; omega)
                  rw [HDL.out] at hrun
                  exact Reg.Gives.value (v := .slice A2 n2 c2) (w' := w2) (Reg.exec_append rfl e155 e159 hrun) ⟨fun x h => (by cases h), by show ApG 58 3 Arr.Fd.vals we (D 0) (cond true (.slice A2 n2 c2) (cond (D 4) (V 4) (V 0))) (cond true (way.take ii ++ way.drop (ii + 1)) (cond (D 4) (way.take ii) [])) false undef (⟨0, 0, 0⟩ : Arr.Fd) w2 ∧ ((D 10) = true → V 10 = (.slice A2 n2 c2)); rw [hD0, hD4, hD10]; simp only [cond_true]; exact ⟨hn, fun e => by cases e⟩⟩
                · have e160 : ρ (.tmp 160) = V 9 := hd 9 160; clear hT hF
                  exact Reg.Gives.value (v := V 9) (w' := wi) (by go_simp) ⟨fun x h => (by cases h), by show ApG 58 3 Arr.Fd.vals we (D 0) (cond (D 9) (V 9) (cond (D 4) (V 4) (V 0))) (cond (D 9) (way.take ii ++ way.drop (ii + 1)) (cond (D 4) (way.take ii) [])) false undef (⟨0, 0, 0⟩ : Arr.Fd) wi ∧ (true = true → V 9 = (V 9)); exact ⟨hI.1, fun _ => rfl⟩⟩
              · intro V wf hk hI
                simp only [Reg.putsO, List.foldl_cons, List.foldl_nil, Act.put, List.setIfInBounds_toArray, List.set_cons_succ, List.set_cons_zero]
                replace hI : ApG 58 3 Arr.Fd.vals we true (cond true (V 9) (cond true (V 4) (V 0))) (cond true (way.take ii ++ way.drop (ii + 1)) (cond true (way.take ii) [])) false undef (⟨0, 0, 0⟩ : Arr.Fd) wf ∧ ((fun _ => true) 10 = true → V 10 = (V 9)) := hI
                clear hk
                obtain ⟨hap, hv9⟩ := hI
                have hv10 := hv9 rfl
                simp only [cond_true] at hap
                have hacc := hap.acc rfl
                obtain ⟨A6, c6, hv6⟩ := row_slice hacc
                rw [hv6] at hacc
                rw [hv10, hv6]
                have HL6 : Hid ((way.take ii ++ way.drop (ii + 1)).length = nw - 1) := Lib.hid (by rw [List.length_append, HTL.out, HDL.out]; omega)
                obtain ⟨hm6, hb6⟩ := HQMe.out.ways (own_up HQMe.out.lt.2.2.2 hacc) (Only.of_below hap.low) fun k e => Or.inr (World.ownsRow.lt hacc k (by rw [own_blk]; exact e)).1
                rw [HL6.out]
                have HQM6 := Lib.hid hm6
                have HB6 : Hid (Below w.heap.size w wf) := Lib.hid (HBe.out.trans (hb6.mono HBB.out.1))
                have HCF : Hid (Cells wf fb 58 [.int .i64 (who : Int), .int .i64 (sr : Int), .int .i64 (tg : Int)]) := Lib.hid (HCE.out.later hap.low)
                obtain ⟨l6, hl6⟩ : ∃ l, way.take ii ++ way.drop (ii + 1) = l := ⟨_, rfl⟩
                rw [hl6] at HQM6 HL6 HC3 HC4
                obtain ⟨n6, hn6⟩ : ∃ q, nw - 1 = q := ⟨_, rfl⟩
                rw [hn6] at HL6
                rw [hn6]
                have hn615 : n6 ≤ 15 := by omega
                clear hap hv9 hv10 hacc hv6 hm6 hb6 HAD HDS HTS HTL HDL HI HCE HBe hl6 hn6 HQMe
                obtain ⟨ov, hov⟩ : ∃ q, (if T tg = tg then 0 else T tg) = q := ⟨_, rfl⟩
                obtain ⟨eb, heb⟩ : ∃ q, decide (T tg = tg) = q := ⟨_, rfl⟩
                have HTZ : Hid (tg < lz) := Lib.hid (by omega)
                have HFD : Hid (∀ wi, Below wf.heap.size wf wi → Calls Try.prog 18 #[.pointer (some ⟨g, tg * 3, none⟩), .int .i64 (sr : Int)] wi fun e w' => e = .returned (.tuple #[.int .i64 (ov : Int), .bool eb, .int .i64 0]) ∧ (Rw B w' (some ⟨g, 0, none⟩) vc n (upd T tg sr) ∧ Only (fun j => j = g) wf w')) := Lib.hid fun wi hb => by
                  refine (tFind (HQM6.out.row.later hb) hn2 t1 t2 s1 s2 HED.out).mono ?_
                  rintro e w' ⟨rfl, hr, ho⟩
                  rw [hov, heb]
                  exact ⟨rfl, hr, (Only.of_below hb).trans ho fun _ _ e => e⟩
                have HOV := Lib.hid hov
                have HEB := Lib.hid heb
                clear hov heb
                go_upto_region 35 with (fail)
                refine Reg.region_heavy (by kernel_rfl) 6 [11, 12, 13] (arQu35 g vc lz fb tg sr ov eb) (fun a => Below wf.heap.size wf a) (fun a => Rw B a (some ⟨g, 0, none⟩) vc n (upd T tg sr) ∧ Only (fun j => j = g) wf a) (fun V => [(some 162, V 0), (some 163, V 1), (some 164, V 2), (some 165, V 3), (some 166, V 4), (some 167, V 5), (some 168, V 6), (some 161, V 7), (some 169, V 8), (some 170, V 9), (some 171, V 10), (some 24, V 11), (some 25, V 12), (some 26, V 13)]) (by kernel_rfl) (by kernel_rfl) (by kernel_rfl) (fun V => rfl) ?_ ?_ ?_
                · exact (Below.refl _ _).drew
                · intro i o ho
                  have hi : i < 14 := (Array.getElem?_eq_some_iff.1 ho).1
                  rcases i with _ | _ | _ | _ | _ | _ | _ | _ | _ | _ | _ | _ | _ | _ | i
                  rotate_right
                  · omega
                  all_goals obtain rfl := Option.some.inj ho
                  all_goals intro ρ wi hE hI hs hd
                  all_goals try dsimp only at hI
                  · have e9 : ρ (.tmp 9) = .slice (some ⟨g, 0, none⟩) lz vc := hs 9; exact Reg.gw hI
                  · have e23 : ρ (.tmp 23) = .pointer (some ⟨fb, 0, none⟩) := hs 23; exact Reg.gw hI
                  · obtain ⟨_, rfl, e163⟩ := hd 1 163; have x0 := (HCF.out.later hI).cell (j := 2) rfl; exact Reg.gw hI
                  · obtain ⟨_, rfl, e162⟩ := hd 0 162; obtain ⟨_, rfl, e164⟩ := hd 2 164; have z1 : tg < lz := HTZ.out
                    have z2 : (tg : Int) < (lz : Int) := by omega
                    exact Reg.gw hI
                  · have e23 : ρ (.tmp 23) = .pointer (some ⟨fb, 0, none⟩) := hs 23; exact Reg.gw hI
                  · obtain ⟨_, rfl, e166⟩ := hd 4 166; have x0 := (HCF.out.later hI).cell (j := 1) rfl; exact Reg.gw hI
                  · obtain ⟨_, rfl, e165⟩ := hd 3 165; obtain ⟨_, rfl, e167⟩ := hd 5 167; have hf := hE.func
                    refine Reg.Gives.call (f := 18) (args := #[.pointer (some ⟨g, tg * 3, none⟩), .int .i64 (sr : Int)]) (w' := wi) (by go_simp) ?_
                    refine (HFD.out wi hI).mono ?_
                    rintro e' w'' ⟨rfl, hps⟩
                    exact ⟨_, rfl, ⟨rfl, hps, fun j u _ _ h => arQu35_keep h⟩⟩
                  · obtain ⟨_, rfl, e168⟩ := hd 6 168; exact Reg.gw hI
                  · obtain ⟨_, rfl, e161⟩ := hd 7 161; exact Reg.gw hI
                  · obtain ⟨_, rfl, e161⟩ := hd 7 161; exact Reg.gw hI
                  · obtain ⟨_, rfl, e161⟩ := hd 7 161; exact Reg.gw hI
                  · obtain ⟨_, rfl, e169⟩ := hd 8 169; exact Reg.gw hI
                  · obtain ⟨_, rfl, e170⟩ := hd 9 170; exact Reg.gw hI
                  · obtain ⟨_, rfl, e171⟩ := hd 10 171; exact Reg.gw hI
                · intro V wg hV hI
                  have hV11 : V 11 = .int .i64 (ov : Int) := hV 11 (by decide) rfl
                  have hV12 : V 12 = .bool eb := hV 12 (by decide) rfl
                  have hV13 : V 13 = .int .i64 0 := hV 13 (by decide) rfl
                  simp only [Reg.putsO, List.foldl_cons, List.foldl_nil, Act.put, List.setIfInBounds_toArray, List.set_cons_succ, List.set_cons_zero, hV11, hV12, hV13]
                  replace hI : (fun a => Rw B a (some ⟨g, 0, none⟩) vc n (upd T tg sr) ∧ Only (fun j => j = g) wf a) wg := hI
                  clear hV hV11 hV12 hV13
                  obtain ⟨hrg, hog⟩ := hI
                  obtain ⟨hm7, hb7⟩ := HQM6.out.turn hrg hog
                  have HQM7 := Lib.hid hm7
                  have HB7 : Hid (Below w.heap.size w wg) := Lib.hid (HB6.out.trans (hb7.mono HBB.out.1))
                  have hc7 := cells_only HCF.out hog fun e => by have := HGF.out; omega
                  have z0 := hc7.cell (j := 0) rfl
                  have z2 := hc7.cell (j := 2) rfl
                  clear hrg hog hm7 hb7 hc7 HQM6 HB6 HCF HFD
                  by_cases hh : T tg = tg
                  · obtain ⟨ha, hb, hq, hmu⟩ := HC3.out hh
                    obtain rfl : eb = true := by rw [← HEB.out]; exact decide_eq_true hh
                    have hlk1 := HQM7.out.sa.hit ha (by omega)
                    have hlk2 := HQM7.out.sb.look hb (by omega)
                    have e5 : ((tg : Int) == (who : Int)) = false := by have := HNE.out; simp; omega
                    obtain ⟨w8, hst, hse, ho8⟩ := HQM7.out.sb.store (x := tg) (by omega)
                    obtain ⟨hm8, hb8⟩ := HQM7.out.behs hse ho8
                    have HQM8 := Lib.hid hm8
                    have HB8 : Hid (Below w.heap.size w w8) := Lib.hid (HB7.out.trans (hb8.mono HBB.out.1))
                    have HQ8 := Lib.hid hq
                    have HP8 := Lib.hid (HPP.out _ _ _ _ _ _ hq hmu)
                    clear ha hb hq hmu hse ho8 hm8 hb8 hh HQM7 HB7
                    go_wp2_with fail
                    go_roundw
                    case rel => exact ⟨i + 1, l6, A6, c6, upd T tg sr, asked, behind ++ [tg], asks, ended + 1, by rw [HL6.out], rfl, by go_num, by go_num, by omega, HQ8, HP8, HQM8, HB8⟩
                    case measure => simp [intOf]; omega
                  · obtain ⟨hq, hmu⟩ := HC4.out hh
                    obtain rfl : eb = false := by rw [← HEB.out]; exact decide_eq_false hh
                    obtain rfl : T tg = ov := by rw [← HOV.out, if_neg hh]
                    obtain ⟨t, ht⟩ : ∃ t, T tg = t := ⟨_, rfl⟩
                    rw [ht] at hq hmu
                    rw [ht]
                    obtain ⟨V8, c8, w8, hrun, hm8, hb8⟩ := HQM7.out.more ⟨who, tg, t⟩ (by rw [HL6.out]; omega)
                    have HL8 : Hid ((l6 ++ [(⟨who, tg, t⟩ : Arr.Fd)]).length = n6 + 1) := Lib.hid (by rw [List.length_append, HL6.out]; rfl)
                    rw [HL6.out, HL8.out] at hrun
                    have HRUN := Lib.hid hrun
                    have HQM8 := Lib.hid hm8
                    have HB8 : Hid (Below w.heap.size w w8) := Lib.hid (HB7.out.trans (hb8.mono HBB.out.1))
                    have HQ8 := Lib.hid hq
                    have HP8 := Lib.hid (HPP.out _ _ _ _ _ _ hq hmu)
                    clear hq hmu hrun hm8 hb8 hh ht HQM7 HB7 HOV HEB
                    go_wp2_with (at_builtin
                                 refine Lib.wpList_append_run _ rfl _ _ 55 55 rfl _ _ rfl rfl _ _ HRUN.out ?_)
                    go_roundw
                    case rel => exact ⟨i + 1, l6 ++ [(⟨who, tg, t⟩ : Arr.Fd)], V8, c8, upd T tg sr, asked, behind, asks, ended, by rw [HL8.out], rfl, rfl, by go_num, by omega, HQ8, HP8, HQM8, HB8⟩
                    case measure => simp [intOf]; omega
    · obtain rfl : i = N + 200 := by omega
      have hwn : way = [] := Classical.byContradiction fun e => by
        have h9 := HP.out (by omega) e
        omega
      have hnw0 : nw = 0 := by rw [← HNW.out, hwn]; rfl
      have hae : ended = asks := by have h9 := HQI.out.en; rw [hwn] at h9; exact h9
      have e1 : decide (((N + 200 : Nat) : Int) < (N : Int) + 200) = false := decide_eq_false (by omega)
      subst hnw0 hae
      clear hwn
      go_wp2_with fail
      go_returns
      exact ⟨rfl, HB.out⟩
theorem opened {H : Type} {enc : TypeId × Value → H} {W : World} {base : Nat} {gs : List (DataW H)} (v0 : Value) (d0 : DataW H) (p0 : List MemPlace) (v1 : Value) (d1 : DataW H) (p1 : List MemPlace) (v2 : Value) (d2 : DataW H) (p2 : List MemPlace)
    (o0 : Value.okWide Try.prog W .any base 5 v0) (t0 : DataW.Trod enc Try.prog W 0 (fun _ => true) true 5 v0 d0 p0)
    (o1 : Value.okWide Try.prog W .any base 5 v1) (t1 : DataW.Trod enc Try.prog W 0 (fun _ => true) true 5 v1 d1 p1)
    (o2 : Value.okWide Try.prog W .any base 47 v2) (t2 : DataW.Trod enc Try.prog W 0 (fun _ => true) true 47 v2 d2 p2)
    (hsz : (DataW.weightsEach Try.prog ([5, 5, 47] ++ []) ([d0, d1, d2] ++ gs)).all (· ≤ reachBytes) = true) :
    Calls Try.prog 5 #[v0, v1, v2] W fun e W' => e = .returned (.bool true) ∧ Below W.heap.size W W' := by
  obtain ⟨x, rfl, hx⟩ := Spn.arg_u8 o0 t0
  obtain ⟨y, rfl, hy⟩ := Spn.arg_u8 o1 t1
  obtain ⟨A, ks, cap, rfl, h1, h2, _, _, h3⟩ := arg_bytes o2 t2 (Base.small_of hsz (j := 2) rfl rfl)
  exact walk x y hx hy A ks cap W h1 h2 h3

theorem contract (H : Type) (enc : TypeId × Value → H) (W : World) (base : Nat) (args : Array Value) (ds gs : List (DataW H)) (before : List MemPlace)
    (hval : ∀ (j : Nat) t v, Try.f5.params[j]? = some t → args[j]? = some v → Value.okWide Try.prog W .any base t v)
    (hW : DataW.Whole enc Try.prog Try.f5.params.toList Rows.arrowQueuesSpec.vars false W args.toList ds gs before)
    (hsz : (DataW.weightsEach Try.prog (Try.f5.params.toList ++ []) (ds ++ gs)).all (· ≤ reachBytes) = true) :
    Calls Try.prog 5 args W fun e W' => ∃ v, e = .returned v ∧ Rows.arrowQueuesSpec.post enc Try.prog Try.f5 false true false false W args v W' := by
  have hW0 := hW
  obtain ⟨p, q, hA0, hV, rfl, _, _⟩ := hW
  have hA : DataW.TrodAll enc Try.prog W 0 (fun _ => true) true Try.f5.params.toList args.toList ds p := hA0
  rw [Try.params5] at hA hval hsz
  obtain ⟨v0, vs0, d0, ds0, p0, q0, hargs, rfl, rfl, h0, r0⟩ := trodAll_cons hA
  obtain ⟨v1, vs1, d1, ds1, p1, q1, rfl, rfl, rfl, h1, r1⟩ := trodAll_cons r0
  obtain ⟨v2, vs2, d2, ds2, p2, q2, rfl, rfl, rfl, h2, r2⟩ := trodAll_cons r1
  obtain ⟨rfl, rfl, rfl⟩ := trodAll_nil r2
  obtain rfl : args = #[v0, v1, v2] := by cases args; simp_all
  refine (opened v0 d0 p0 v1 d1 p1 v2 d2 p2 (hval 0 5 v0 rfl rfl) h0 (hval 1 5 v1 rfl rfl) h1 (hval 2 47 v2 rfl rfl) h2 hsz).mono fun e W' ⟨he, hb⟩ => ⟨_, he, ?_⟩
  exact Base.law_post (tb := 4) Base.laidOut (by kernel_rfl) rfl Try.underlying4 rfl (fun l hl => by
    rw [Try.params5] at hl
    match l, hl with
    | [_, _, _], _ => rfl) (by rw [Try.params5]; rfl) hW0 hb

theorem laid_met (os : Os) : laidMet Try.prog Rows.arrowQueuesRow.laid ((Base.plainWorld os).forCall (fun _ _ => 0) ⟨#[], #[.int .u8 0, .int .u8 0, .slice none 0 0], []⟩).memory := laidMet_nil _ _
theorem reads (os : Os) {H : Type} (enc : TypeId × Value → H) : ∃ places, DataW.whole enc Try.prog ((Base.plainWorld os).forCall (fun _ _ => 0) ⟨#[], #[.int .u8 0, .int .u8 0, .slice none 0 0], []⟩).memory Try.f5.params.toList Rows.arrowQueuesSpec.vars false (#[.int .u8 0, .int .u8 0, .slice none 0 0] : Array Value).toList 8 = some ([.lit (.int .u8 0), .lit (.int .u8 0), .nil], [], places) :=
  ⟨[], by kernel_rfl⟩

set_option maxRecDepth 100000 in
theorem lifted (os : Os) (started : os.Started) (H : Type) (enc : TypeId × Value → H) (F : Stop.Interp) :
    ReturnsInHanded {} Try.checked os 5 .any ((OpenSpec.ofChange Rows.arrowQueuesSpec).preRow enc Try.prog Try.f5 Rows.arrowQueuesRow.domain false Rows.arrowQueuesRow.laid) (((OpenSpec.ofChange Rows.arrowQueuesSpec).at F).post enc Try.prog Try.f5 false true false false) := by
  obtain ⟨places, hx⟩ := reads os enc
  refine returnsInHanded_of_row (C := Try.checked) (s := OpenSpec.ofChange Rows.arrowQueuesSpec) Base.own started (by kernel_rfl) Try.func5
    (witness_row_at (enc := enc) (C := Try.checked) false (Base.plainWorld os) #[.int .u8 0, .int .u8 0, .slice none 0 0] rfl (by kernel_rfl) (by kernel_rfl) (by kernel_rfl)
      (OpenSpec.preRow_of_cond 8 hx (by kernel_rfl) (fun k hk => by cases hk) (by kernel_rfl) (laid_met os))) ?_
  intro W base args ds gs before hval hW _ _ hsz _ _ _
  exact contract H enc W base args ds gs before hval hW hsz

theorem said : Rows.ArrowQueuesSaid :=
  OpenClaim.holds_of_cond 5 Try.f5 rfl rfl rfl rfl rfl rfl rfl ⟨rfl, rfl, rfl, rfl, rfl⟩ rfl rfl rfl rfl rfl (by kernel_rfl) Try.func5 (by kernel_rfl)
    (of_decide_eq_true (by kernel_rfl)) (by unfold Func.isWrapper; rw [if_neg (of_decide_eq_false (by kernel_rfl))]; exact ⟨rfl, rfl⟩)
    (fun os started H enc _ F => by rw [OpenClaim.pre_eq_preRow]; exact lifted os started H enc F)
#print axioms said
end Go.Proofs.Yteieehlllfnmcaa.ArrowQueues
