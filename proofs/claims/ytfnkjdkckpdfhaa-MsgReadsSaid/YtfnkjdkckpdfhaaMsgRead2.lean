/-
  Layer 10: a record's fields are read: the code. Conditions: none.
-/
import Derived.Test.YtfnkjdkckpdfhaaMsgRead
namespace Go.Proofs.Ytfnkjdkckpdfhaa.Msg
set_option maxRecDepth 100000
open Go.RowKit Go.Proofs.Ytfnkjdkckpdfhaa.Mem Go.Proofs.Ytfnkjdkckpdfhaa.Item Go.Proofs.Ytfnkjdkckpdfhaa.Wire

theorem only_set {S : Nat → Prop} {a b : World} (h : Only S a b) (p : Addr) (u : Value) (hp : S p.block) : Only S a (b.setCell p u) :=
  h.trans (S' := fun k => k = p.block) (Only.of_set b p u) fun k _ e => by rw [e]; exact hp
theorem foldF_step (l : List Int) (k f : Nat) (h : k < l.length) (e : l[k] = (f : Int)) (t : Rc × ByteArray × Bool) : foldF (l.take (k + 1)) t = stepF f (foldF (l.take k) t) := by
  unfold foldF
  rw [List.take_succ_eq_append_getElem h, List.foldl_append, e]
  rfl
/-- A record's lists lie from B on. -/
def OffL (B : Nat) (x : Rc) (y : Lay) : Prop := (0 < x.items.length → ∀ b off, y.A = some ⟨b, off, none⟩ → B ≤ b) ∧ (0 < x.nodes.length → ∀ b off, y.B = some ⟨b, off, none⟩ → B ≤ b)
theorem rdSt.done {w wr wz : World} {p g : Nat} {x : Rc} {s : ByteArray} {b : Bool} {y : Lay} (h : rdSt w wr p g x s b y) (ho : Only (fun k => k = w.heap.size ∨ k = w.heap.size + 1) wr wz) : Has wz x y ∧ IRd wz p g s b ∧ Wire.Foot (some g) w wz ∧ OffL w.heap.size x y := by
  refine ⟨h.only ho (fun k e => by omega), h.it.only ho (by have := h.low; omega) (by have := h.low; omega), ?_, ⟨fun h0 b off e => by have := h.offA h0 b off e; omega, fun h0 b off e => by have := h.offB h0 b off e; omega⟩⟩
  refine h.foot.trans ho fun k hk e => ?_
  omega
set_option maxHeartbeats 2000000 in
theorem read_any (kind : Int) (A0 : Option Addr) (l : List Int) (c0 : Nat) (w : World) (p g : Nat) (s : ByteArray) (b : Bool) (h : IRd w p g s b) (hl : Nums w A0 l) (hoL : 0 < l.length → ∀ b off, A0 = some ⟨b, off, none⟩ → b ≠ g) (hr : ∀ k (h : k < l.length), ∃ f : Nat, f < 10 ∧ l[k] = (f : Int)) (hm : l.length ≤ 6) :
    Calls Try.prog 31 #[.pointer (some ⟨p, 0, none⟩), .int .i64 kind, .slice A0 l.length c0] w fun e w' => ∃ y, e = .returned ((foldF l (rcK kind, s, b)).1.val y) ∧ Has w' (foldF l (rcK kind, s, b)).1 y ∧ IRd w' p g (foldF l (rcK kind, s, b)).2.1 (foldF l (rcK kind, s, b)).2.2 ∧ Wire.Foot (some g) w w' ∧ OffL w.heap.size (foldF l (rcK kind, s, b)).1 y := by
  have HI0 := Lib.hid h
  have HLT := Lib.hid h.lt
  have HRR := Lib.hid hr
  have HFS := Lib.hid (fun k f hk e => foldF_step l k f hk e (rcK kind, s, b))
  have HL := Lib.hid (fun w' (hf : Wire.Foot (some g) w w') => Nums.only hl hf fun h0 b off e e2 => hoL h0 b off e (Option.some.inj e2))
  have HT0 : Hid (foldF (l.take 0) (rcK kind, s, b) = (rcK kind, s, b)) := Lib.hid rfl
  have HTL : Hid (foldF (l.take l.length) (rcK kind, s, b) = foldF l (rcK kind, s, b)) := Lib.hid (by rw [List.take_length])
  obtain ⟨T, hT⟩ : ∃ T : Nat → Rc × ByteArray × Bool, T = fun k => foldF (l.take k) (rcK kind, s, b) := ⟨_, rfl⟩
  have HTE : ∀ k, foldF (l.take k) (rcK kind, s, b) = T k := fun k => by rw [hT]
  rw [HTE] at HT0 HTL
  simp only [HTE] at HFS
  rw [← HTL.out]
  clear h hl hoL hr hT HTE
  have HK := Lib.hid (show rcK kind = ⟨kind, ⟨0, 0, 0⟩, [], [], 0, 0, 0, 0, 0, 0, false⟩ from rfl)
  obtain ⟨w3, hw3⟩ : ∃ w3, w3 = ((w.alloc (.cells #[.int .i64 0, .int .i64 0, .int .i64 0, .int .i64 0, .slice none 0 0, .slice none 0 0, .int .i64 0, .int .i64 0, .int .i64 0, .int .i64 0, .int .i64 0, .int .i64 0, .bool false] 27)).alloc (.cells #[.int .i64 kind, .int .i64 0, .int .i64 0, .int .i64 0, .slice none 0 0, .slice none 0 0, .int .i64 0, .int .i64 0, .int .i64 0, .int .i64 0, .int .i64 0, .int .i64 0, .bool false] 27)).alloc (.cells #[.int .i64 0, .int .i64 0, .int .i64 0, .int .i64 0, .int .i64 0, .int .i64 0] 85) := ⟨_, rfl⟩
  have HST : Hid (rdSt w w3 p g (T 0).1 (T 0).2.1 (T 0).2.2 lay0) := Lib.hid (by
    rw [HT0.out, hw3]
    have q1 := cells_new w 27 _ #[.int .i64 0, .int .i64 0, .int .i64 0, .int .i64 0, .slice none 0 0, .slice none 0 0, .int .i64 0, .int .i64 0, .int .i64 0, .int .i64 0, .int .i64 0, .int .i64 0, .bool false] rfl
    have q2 := cells_new (w.alloc (.cells #[.int .i64 0, .int .i64 0, .int .i64 0, .int .i64 0, .slice none 0 0, .slice none 0 0, .int .i64 0, .int .i64 0, .int .i64 0, .int .i64 0, .int .i64 0, .int .i64 0, .bool false] 27)) 27 _ #[.int .i64 kind, .int .i64 0, .int .i64 0, .int .i64 0, .slice none 0 0, .slice none 0 0, .int .i64 0, .int .i64 0, .int .i64 0, .int .i64 0, .int .i64 0, .int .i64 0, .bool false] rfl
    have q3 := cells_new ((w.alloc (.cells #[.int .i64 0, .int .i64 0, .int .i64 0, .int .i64 0, .slice none 0 0, .slice none 0 0, .int .i64 0, .int .i64 0, .int .i64 0, .int .i64 0, .int .i64 0, .int .i64 0, .bool false] 27)).alloc (.cells #[.int .i64 kind, .int .i64 0, .int .i64 0, .int .i64 0, .slice none 0 0, .slice none 0 0, .int .i64 0, .int .i64 0, .int .i64 0, .int .i64 0, .int .i64 0, .int .i64 0, .bool false] 27)) 85 _ #[.int .i64 0, .int .i64 0, .int .i64 0, .int .i64 0, .int .i64 0, .int .i64 0] rfl
    rw [World.size_alloc] at q2
    rw [World.size_alloc, World.size_alloc] at q3
    have hb := Go.Joins.below_alloc3 w (.cells #[.int .i64 0, .int .i64 0, .int .i64 0, .int .i64 0, .slice none 0 0, .slice none 0 0, .int .i64 0, .int .i64 0, .int .i64 0, .int .i64 0, .int .i64 0, .int .i64 0, .bool false] 27) (.cells #[.int .i64 kind, .int .i64 0, .int .i64 0, .int .i64 0, .slice none 0 0, .slice none 0 0, .int .i64 0, .int .i64 0, .int .i64 0, .int .i64 0, .int .i64 0, .int .i64 0, .bool false] 27) (.cells #[.int .i64 0, .int .i64 0, .int .i64 0, .int .i64 0, .int .i64 0, .int .i64 0] 85)
    exact ⟨HI0.out.later hb, foot_after (Only.refl _ _) hb, ⟨HLT.out.1, HLT.out.2, by simp⟩, q2.later (below_alloc _ _), q3, (q1.later (below_alloc _ _)).later (below_alloc _ _), ⟨items_nil _ _, nums_nil _ _⟩, fun h => absurd (show 0 < 0 from h) (Nat.lt_irrefl 0), fun h => absurd (show 0 < 0 from h) (Nat.lt_irrefl 0)⟩)
  go_enter Try.func31, Try.ntmps31
  go_wp2_with fail
  rw [← hw3]
  clear hw3
  go_loopw [10, 15] (fun _ i wr => ∃ k y, k ≤ l.length ∧ i = .int .i64 (k : Int) ∧ rdSt w wr p g (T k).1 (T k).2.1 (T k).2.2 y) (fun _ i _ => l.length - (intOf i).toNat)
  case atStart => exact ⟨0, lay0, by omega, rfl, HST.out⟩
  case round =>
    obtain ⟨k, y, hk, rfl, hst⟩ := hrel
    have HS := Lib.hid hst
    by_cases hlt : k < l.length
    · obtain ⟨f, hf, hlf⟩ := HRR.out k hlt
      have HFK := Lib.hid (HFS.out k f hlt hlf)
      obtain ⟨bl, off, rfl, hcl⟩ := HL.out wr hst.foot k hlt
      rw [hlf] at hcl
      have hcp := hst.it.cell
      have HIT := Lib.hid hst.it
      clear hst hlf
      obtain ⟨⟨x, s1, b1⟩, hTk⟩ : ∃ t, T k = t := ⟨_, rfl⟩
      rw [hTk] at HS HIT HFK
      clear hTk
      by_cases e8 : f = 6
      · subst e8
        have HC := Lib.hid (rTid_any wr p g s1 b1 HIT.out)
        go_wp2_with fail
        refine HC.out.mono ?_
        rintro e wa ⟨rfl, hia, hfa⟩
        have hm := HS.out.move hia hfa
        have HM := Lib.hid hm
        obtain ⟨⟨x1, x2, x3⟩, hx⟩ : ∃ t, readTid s1 b1 = t := ⟨_, rfl⟩
        have HE : Hid (T (k + 1) = ({ x with tid := ⟨x1, x2, x3⟩ }, restTid s1, brkTid s1 b1)) := Lib.hid (by rw [HFK.out, ← hx]; rfl)
        have c1 := hm.rcd.cell (j := 1) rfl
        have c2 := hm.rcd.cell (j := 2) rfl
        have c3 := hm.rcd.cell (j := 3) rfl
        have f1 := hm.rcd.frozen (j := 1) (by simp [recC])
        have f2 := hm.rcd.frozen (j := 2) (by simp [recC])
        have f3 := hm.rcd.frozen (j := 3) (by simp [recC])
        rw [hx]
        unfold Tid.val
        clear hm hia hfa hx hcp
        go_wp2_with fail
        go_roundw
        case rel => exact ⟨k + 1, y, by omega, by go_num, by rw [HE.out]; exact HM.out.tid ⟨x1, x2, x3⟩⟩
        case measure => simp [intOf]; omega
      by_cases e9 : f = 7
      · subst e9
        have HC := Lib.hid (rItems_any wr p g s1 b1 HIT.out)
        clear e8
        go_wp2_with fail
        refine HC.out.mono ?_
        rintro e wa ⟨v, rfl, hrow, hia, hfa⟩
        have hm := HS.out.move hia hfa
        have HM := Lib.hid hm
        obtain ⟨A, c, rfl, hit⟩ := items_of_row hrow
        have HOF := Lib.hid (own_off hrow)
        have HIA := Lib.hid hit
        obtain ⟨L, hL⟩ : ∃ L, readItems s1 b1 = L := ⟨_, rfl⟩
        have HE : Hid (T (k + 1) = ({ x with items := L }, restItems s1, brkItems s1 b1)) := Lib.hid (by rw [HFK.out, ← hL]; rfl)
        rw [hL] at HIA ⊢
        have c1 := hm.rcd.cell (j := 4) rfl
        have f1 := hm.rcd.frozen (j := 4) (by simp [recC])
        clear hm hia hfa hL hcp hrow hit
        go_wp2_with fail
        go_roundw
        case rel => exact ⟨k + 1, _, by omega, by go_num, by rw [HE.out]; exact HM.out.items HIA.out (fun b off e => Nat.le_trans HS.out.low.2.2 (HOF.out b off e))⟩
        case measure => simp [intOf]; omega
      by_cases e10 : f = 8
      · subst e10
        have HC := Lib.hid (rNodes_any wr p g s1 b1 HIT.out)
        clear e8 e9
        go_wp2_with fail
        refine HC.out.mono ?_
        rintro e wa ⟨v, rfl, hrow, hia, hfa⟩
        have hm := HS.out.move hia hfa
        have HM := Lib.hid hm
        obtain ⟨A, c, rfl, hit⟩ := nums_of_row hrow
        have HOF := Lib.hid (own_off hrow)
        have HIA := Lib.hid hit
        obtain ⟨L, hL⟩ : ∃ L, readNodes s1 b1 = L := ⟨_, rfl⟩
        have HE : Hid (T (k + 1) = ({ x with nodes := L }, restNodes s1, brkNodes s1 b1)) := Lib.hid (by rw [HFK.out, ← hL]; rfl)
        rw [hL] at HIA ⊢
        have c1 := hm.rcd.cell (j := 5) rfl
        have f1 := hm.rcd.frozen (j := 5) (by simp [recC])
        clear hm hia hfa hL hcp hrow hit
        go_wp2_with fail
        go_roundw
        case rel => exact ⟨k + 1, _, by omega, by go_num, by rw [HE.out]; exact HM.out.nodes HIA.out (fun b off e => Nat.le_trans HS.out.low.2.2 (HOF.out b off e))⟩
        case measure => simp [intOf]; omega
      by_cases e11 : f = 9
      · subst e11
        have HC := Lib.hid (rbool_any wr (some g) s1 b1 HIT.out.rd)
        clear e8 e9 e10
        go_wp2_with fail
        refine HC.out.mono ?_
        rintro e wa ⟨rfl, hra, hfa⟩
        have hm := HS.out.move (HIT.out.move hra hfa) hfa
        have HM := Lib.hid hm
        obtain ⟨v, hv⟩ : ∃ v, (Wire.num s1 1 == 1) = v := ⟨_, rfl⟩
        have HE : Hid (T (k + 1) = ({ x with yes := v }, (if 1 < Wire.num s1 1 then nil else rest s1 1), (if 1 < Wire.num s1 1 then true else brk s1 b1 1))) := Lib.hid (by rw [HFK.out, ← hv]; rfl)
        have c1 := hm.rcd.cell (j := 12) rfl
        have f1 := hm.rcd.frozen (j := 12) (by simp [recC])
        rw [hv]
        clear hm hra hfa hv hcp
        go_wp2_with fail
        go_roundw
        case rel => exact ⟨k + 1, y, by omega, by go_num, by rw [HE.out]; exact HM.out.yes v⟩
        case measure => simp [intOf]; omega
      have hf8 : f < 6 := by omega
      have n8 : ¬ (f : Int) = 6 := by omega
      have n9 : ¬ (f : Int) = 7 := by omega
      have n10 : ¬ (f : Int) = 8 := by omega
      have n11 : ¬ (f : Int) = 9 := by omega
      have HC := Lib.hid (rnumber_any wr (some g) s1 b1 HIT.out.rd)
      have HFE : Hid (stepF f (x, s1, b1) = (setN x f (IntKind.i64.wrap (Wire.num s1 8 : Nat)), rest s1 8, brk s1 b1 8)) := Lib.hid (by
        unfold stepF
        rw [if_neg e8, if_neg e9, if_neg e10, if_neg e11])
      have HF8 := Lib.hid hf8
      clear e8 e9 e10 e11
      go_wp2_with fail
      refine HC.out.mono ?_
      rintro e wa ⟨rfl, hra, hfa⟩
      have hm := HS.out.move (HIT.out.move hra hfa) hfa
      have HM := Lib.hid hm
      obtain ⟨v, hv⟩ : ∃ v, IntKind.i64.wrap (Wire.num s1 8 : Nat) = v := ⟨_, rfl⟩
      have HE : Hid (T (k + 1) = (setN x f v, rest s1 8, brk s1 b1 8)) := Lib.hid (by rw [HFK.out, HFE.out, hv])
      obtain ⟨u, hu⟩ : ∃ u, (arrC x)[f]? = some u := ⟨_, List.getElem?_eq_getElem (show f < 6 from hf8)⟩
      have c1 := hm.arr.cell (j := f) hu
      have f1 := hm.arr.frozen (j := f) (show f < 6 from hf8)
      rw [hv]
      clear hm hra hfa hv hcp hu
      go_wp2_with fail
      go_roundw
      case rel => exact ⟨k + 1, y, by omega, by go_num, by rw [HE.out]; exact HM.out.num f HF8.out v⟩
      case measure => simp [intOf]; omega
    · obtain rfl : k = l.length := by omega
      obtain ⟨⟨⟨xk, ⟨x1, x2, x3⟩, its, nds, a0, a1, a2, a3, a4, a5, yes⟩, s1, b1⟩, hTk⟩ : ∃ t, T l.length = t := ⟨_, rfl⟩
      rw [hTk] at hst HS
      have HTK := Lib.hid hTk
      clear hTk
      have hrc := hst.rcd
      have har := hst.arr
      have hrs := hst.res
      obtain ⟨A, c, B, d⟩ := y
      simp only [recC] at hrc
      simp only [arrC] at har
      simp only [zeroC] at hrs
      clear hst
      obtain ⟨L, hLL⟩ : ∃ L, its.length = L := ⟨_, rfl⟩
      obtain ⟨M, hMM⟩ : ∃ M, nds.length = M := ⟨_, rfl⟩
      have HLM : Hid (its.length = L ∧ nds.length = M) := Lib.hid ⟨hLL, hMM⟩
      rw [hLL, hMM] at hrc
      clear hLL hMM
      have HRC := Lib.hid hrc
      have HAR : Hid (∀ wi, Only (fun k => k = w.heap.size + 1) wr wi → ∀ j u, [Value.int .i64 a0, .int .i64 a1, .int .i64 a2, .int .i64 a3, .int .i64 a4, .int .i64 a5][j]? = some u → wi.cell? ⟨w.heap.size + 1 + 1, j, none⟩ = some u) := Lib.hid (fun wi ho j u hu => (cells_only har ho (by omega)).cell hu)
      have HRS := Lib.hid hrs
      clear hrc har hrs
      go_wp2_with fail
      refine Reg.region_inv (by kernel_rfl) (fun i => ([some (.pointer (some ⟨w.heap.size + 1 + 1, 0, none⟩)), some (.int .i64 a0), some (.pointer (some ⟨w.heap.size + 1 + 1, 1, none⟩)), some (.int .i64 a1), some (.pointer (some ⟨w.heap.size + 1 + 1, 2, none⟩)), some (.int .i64 a2), some (.pointer (some ⟨w.heap.size + 1, 6, none⟩)), none, some (.pointer (some ⟨w.heap.size + 1, 7, none⟩)), none, some (.pointer (some ⟨w.heap.size + 1, 8, none⟩)), none] : List (Option Value)).getD i none) (fun D V W => wrSt w.heap.size wr 6 [.int .i64 xk, .int .i64 x1, .int .i64 x2, .int .i64 x3, .slice A L c, .slice B M d] [.int .i64 0, .int .i64 0, .bool yes] a0 a1 a2 0 (D 7) (D 9) (D 11) false W) (fun V => [(some 51, V 0), (some 52, V 1), (some 53, V 2), (some 54, V 3), (some 55, V 4), (some 56, V 5), (some 57, V 6), (none, V 7), (some 58, V 8), (none, V 9), (some 59, V 10), (none, V 11)]) (by kernel_rfl) (by kernel_rfl) (fun V => rfl) ?_ ?_ ?_
      · intro V
        exact ⟨rfl, HRC.out, Only.of_below (Below.refl _ _).drew⟩
      · intro i o ho
        have hi : i < 12 := (Array.getElem?_eq_some_iff.1 ho).1
        rcases i with _ | _ | _ | _ | _ | _ | _ | _ | _ | _ | _ | _ | i
        · obtain rfl := Option.some.inj ho
          intro D V ρ wi hE hI hDi hT hF hs hd hk
          have e8 : ρ (.tmp 8) = .pointer (some ⟨w.heap.size + 1 + 1, 0, none⟩) := hs 8 (by kernel_rfl)
          have hc := hE.const
          clear hT hF hk
          exact Reg.Gives.value (v := .pointer (some ⟨w.heap.size + 1 + 1, 0, none⟩)) (w' := wi) (by go_simp) ⟨fun x h => Option.some.inj h, hI⟩
        · obtain rfl := Option.some.inj ho
          intro D V ρ wi hE hI hDi hT hF hs hd hk
          have e51 : ρ (.tmp 51) = .pointer (some ⟨w.heap.size + 1 + 1, 0, none⟩) := (hd 0 51 (by kernel_rfl) (by kernel_rfl) (by show _ < 70; decide)).trans (hk 0 (by kernel_rfl) _ rfl)
          clear hT hF hk
          have hx := HAR.out wi hI.only 0 _ rfl
          exact Reg.Gives.value (v := .int .i64 a0) (w' := wi) (by go_simp) ⟨fun x h => Option.some.inj h, hI⟩
        · obtain rfl := Option.some.inj ho
          intro D V ρ wi hE hI hDi hT hF hs hd hk
          have e8 : ρ (.tmp 8) = .pointer (some ⟨w.heap.size + 1 + 1, 0, none⟩) := hs 8 (by kernel_rfl)
          have hc := hE.const
          clear hT hF hk
          exact Reg.Gives.value (v := .pointer (some ⟨w.heap.size + 1 + 1, 1, none⟩)) (w' := wi) (by go_simp) ⟨fun x h => Option.some.inj h, hI⟩
        · obtain rfl := Option.some.inj ho
          intro D V ρ wi hE hI hDi hT hF hs hd hk
          have e53 : ρ (.tmp 53) = .pointer (some ⟨w.heap.size + 1 + 1, 1, none⟩) := (hd 2 53 (by kernel_rfl) (by kernel_rfl) (by show _ < 70; decide)).trans (hk 2 (by kernel_rfl) _ rfl)
          clear hT hF hk
          have hx := HAR.out wi hI.only 1 _ rfl
          exact Reg.Gives.value (v := .int .i64 a1) (w' := wi) (by go_simp) ⟨fun x h => Option.some.inj h, hI⟩
        · obtain rfl := Option.some.inj ho
          intro D V ρ wi hE hI hDi hT hF hs hd hk
          have e8 : ρ (.tmp 8) = .pointer (some ⟨w.heap.size + 1 + 1, 0, none⟩) := hs 8 (by kernel_rfl)
          have hc := hE.const
          clear hT hF hk
          exact Reg.Gives.value (v := .pointer (some ⟨w.heap.size + 1 + 1, 2, none⟩)) (w' := wi) (by go_simp) ⟨fun x h => Option.some.inj h, hI⟩
        · obtain rfl := Option.some.inj ho
          intro D V ρ wi hE hI hDi hT hF hs hd hk
          have e55 : ρ (.tmp 55) = .pointer (some ⟨w.heap.size + 1 + 1, 2, none⟩) := (hd 4 55 (by kernel_rfl) (by kernel_rfl) (by show _ < 70; decide)).trans (hk 4 (by kernel_rfl) _ rfl)
          clear hT hF hk
          have hx := HAR.out wi hI.only 2 _ rfl
          exact Reg.Gives.value (v := .int .i64 a2) (w' := wi) (by go_simp) ⟨fun x h => Option.some.inj h, hI⟩
        · obtain rfl := Option.some.inj ho
          intro D V ρ wi hE hI hDi hT hF hs hd hk
          have e7 : ρ (.tmp 7) = .pointer (some ⟨w.heap.size + 1, 0, none⟩) := hs 7 (by kernel_rfl)
          clear hT hF hk
          exact Reg.Gives.value (v := .pointer (some ⟨w.heap.size + 1, 6, none⟩)) (w' := wi) (by go_simp) ⟨fun x h => Option.some.inj h, hI⟩
        · obtain rfl := Option.some.inj ho
          intro D V ρ wi hE hI hDi hT hF hs hd hk
          have e57 : ρ (.tmp 57) = .pointer (some ⟨w.heap.size + 1, 6, none⟩) := (hd 6 57 (by kernel_rfl) (by kernel_rfl) (by show _ < 70; decide)).trans (hk 6 (by kernel_rfl) _ rfl)
          have e52 : ρ (.tmp 52) = .int .i64 a0 := (hd 1 52 (by kernel_rfl) (by kernel_rfl) (by show _ < 70; decide)).trans (hk 1 (by kernel_rfl) _ rfl)
          have hD7 : D 7 = false := hDi
          have hD9 : D 9 = false := hF 1 9 (by show _ < 12; decide) (by kernel_rfl)
          have hD11 : D 11 = false := hF 1 11 (by show _ < 12; decide) (by kernel_rfl)
          clear hT hF
          have hc1 := hI.c0
          have hf1 := hI.f0
          exact Reg.Gives.skip (w' := wi.setCell ⟨w.heap.size + 1, 6, none⟩ (.int .i64 a0)) (by go_simp) ⟨fun x h => (by cases h), by show wrSt w.heap.size wr 6 [.int .i64 xk, .int .i64 x1, .int .i64 x2, .int .i64 x3, .slice A L c, .slice B M d] [.int .i64 0, .int .i64 0, .bool yes] a0 a1 a2 0 true (D 9) (D 11) false _; exact hI.st0⟩
        · obtain rfl := Option.some.inj ho
          intro D V ρ wi hE hI hDi hT hF hs hd hk
          have e7 : ρ (.tmp 7) = .pointer (some ⟨w.heap.size + 1, 0, none⟩) := hs 7 (by kernel_rfl)
          clear hT hF hk
          exact Reg.Gives.value (v := .pointer (some ⟨w.heap.size + 1, 7, none⟩)) (w' := wi) (by go_simp) ⟨fun x h => Option.some.inj h, hI⟩
        · obtain rfl := Option.some.inj ho
          intro D V ρ wi hE hI hDi hT hF hs hd hk
          have e58 : ρ (.tmp 58) = .pointer (some ⟨w.heap.size + 1, 7, none⟩) := (hd 8 58 (by kernel_rfl) (by kernel_rfl) (by show _ < 70; decide)).trans (hk 8 (by kernel_rfl) _ rfl)
          have e54 : ρ (.tmp 54) = .int .i64 a1 := (hd 3 54 (by kernel_rfl) (by kernel_rfl) (by show _ < 70; decide)).trans (hk 3 (by kernel_rfl) _ rfl)
          have hD7 : D 7 = true := hT 1 7 (by kernel_rfl)
          have hD9 : D 9 = false := hDi
          have hD11 : D 11 = false := hF 1 11 (by show _ < 12; decide) (by kernel_rfl)
          clear hT hF
          have hc1 := hI.c1
          have hf1 := hI.f1
          exact Reg.Gives.skip (w' := wi.setCell ⟨w.heap.size + 1, 7, none⟩ (.int .i64 a1)) (by go_simp) ⟨fun x h => (by cases h), by show wrSt w.heap.size wr 6 [.int .i64 xk, .int .i64 x1, .int .i64 x2, .int .i64 x3, .slice A L c, .slice B M d] [.int .i64 0, .int .i64 0, .bool yes] a0 a1 a2 0 (D 7) true (D 11) false _; exact hI.st1⟩
        · obtain rfl := Option.some.inj ho
          intro D V ρ wi hE hI hDi hT hF hs hd hk
          have e7 : ρ (.tmp 7) = .pointer (some ⟨w.heap.size + 1, 0, none⟩) := hs 7 (by kernel_rfl)
          clear hT hF hk
          exact Reg.Gives.value (v := .pointer (some ⟨w.heap.size + 1, 8, none⟩)) (w' := wi) (by go_simp) ⟨fun x h => Option.some.inj h, hI⟩
        · obtain rfl := Option.some.inj ho
          intro D V ρ wi hE hI hDi hT hF hs hd hk
          have e59 : ρ (.tmp 59) = .pointer (some ⟨w.heap.size + 1, 8, none⟩) := (hd 10 59 (by kernel_rfl) (by kernel_rfl) (by show _ < 70; decide)).trans (hk 10 (by kernel_rfl) _ rfl)
          have e56 : ρ (.tmp 56) = .int .i64 a2 := (hd 5 56 (by kernel_rfl) (by kernel_rfl) (by show _ < 70; decide)).trans (hk 5 (by kernel_rfl) _ rfl)
          have hD7 : D 7 = true := hT 1 7 (by kernel_rfl)
          have hD9 : D 9 = true := hT 1 9 (by kernel_rfl)
          have hD11 : D 11 = false := hDi
          clear hT hF
          have hc1 := hI.c2
          have hf1 := hI.f2
          exact Reg.Gives.skip (w' := wi.setCell ⟨w.heap.size + 1, 8, none⟩ (.int .i64 a2)) (by go_simp) ⟨fun x h => (by cases h), by show wrSt w.heap.size wr 6 [.int .i64 xk, .int .i64 x1, .int .i64 x2, .int .i64 x3, .slice A L c, .slice B M d] [.int .i64 0, .int .i64 0, .bool yes] a0 a1 a2 0 (D 7) (D 9) true false _; exact hI.st2⟩
        · omega
      · intro V w1 hk hI
        simp only [Reg.putsO, List.foldl_cons, List.foldl_nil, Act.put, List.setIfInBounds_toArray, List.set_cons_succ, List.set_cons_zero]
        replace hI : wrSt w.heap.size wr 6 [.int .i64 xk, .int .i64 x1, .int .i64 x2, .int .i64 x3, .slice A L c, .slice B M d] [.int .i64 0, .int .i64 0, .bool yes] a0 a1 a2 0 true true true false w1 := hI
        clear hk
        generalize w1 = wa at *
        have HOA := Lib.hid hI.only
        have HRC : Hid (Cells wa (w.heap.size + 1) 27 [.int .i64 xk, .int .i64 x1, .int .i64 x2, .int .i64 x3, .slice A L c, .slice B M d, .int .i64 a0, .int .i64 a1, .int .i64 a2, .int .i64 0, .int .i64 0, .int .i64 0, .bool yes]) := Lib.hid hI.cells
        have HAR : Hid (∀ wi, Only (fun k => k = w.heap.size + 1) wa wi → ∀ j u, [Value.int .i64 a0, .int .i64 a1, .int .i64 a2, .int .i64 a3, .int .i64 a4, .int .i64 a5][j]? = some u → wi.cell? ⟨w.heap.size + 1 + 1, j, none⟩ = some u) := Lib.hid (fun wi ho j u hu => HAR.out wi (HOA.out.trans ho fun k _ e => e) j u hu)
        clear hI
        go_wp2_with fail
        refine Reg.region_inv (by kernel_rfl) (fun i => ([some (.pointer (some ⟨w.heap.size + 1 + 1, 3, none⟩)), some (.int .i64 a3), some (.pointer (some ⟨w.heap.size + 1 + 1, 4, none⟩)), some (.int .i64 a4), some (.pointer (some ⟨w.heap.size + 1 + 1, 5, none⟩)), some (.int .i64 a5), some (.pointer (some ⟨w.heap.size + 1, 9, none⟩)), none, some (.pointer (some ⟨w.heap.size + 1, 10, none⟩)), none, some (.pointer (some ⟨w.heap.size + 1, 11, none⟩)), none] : List (Option Value)).getD i none) (fun D V W => wrSt w.heap.size wa 8 [.int .i64 xk, .int .i64 x1, .int .i64 x2, .int .i64 x3, .slice A L c, .slice B M d, .int .i64 a0, .int .i64 a1] [.bool yes] a2 a3 a4 a5 true (D 7) (D 9) (D 11) W) (fun V => [(some 60, V 0), (some 61, V 1), (some 62, V 2), (some 63, V 3), (some 64, V 4), (some 65, V 5), (some 66, V 6), (none, V 7), (some 67, V 8), (none, V 9), (some 68, V 10), (none, V 11)]) (by kernel_rfl) (by kernel_rfl) (fun V => rfl) ?_ ?_ ?_
        · intro V
          exact ⟨rfl, HRC.out, Only.of_below (Below.refl _ _).drew⟩
        · intro i o ho
          have hi : i < 12 := (Array.getElem?_eq_some_iff.1 ho).1
          rcases i with _ | _ | _ | _ | _ | _ | _ | _ | _ | _ | _ | _ | i
          · obtain rfl := Option.some.inj ho
            intro D V ρ wi hE hI hDi hT hF hs hd hk
            have e8 : ρ (.tmp 8) = .pointer (some ⟨w.heap.size + 1 + 1, 0, none⟩) := hs 8 (by kernel_rfl)
            have hc := hE.const
            clear hT hF hk
            exact Reg.Gives.value (v := .pointer (some ⟨w.heap.size + 1 + 1, 3, none⟩)) (w' := wi) (by go_simp) ⟨fun x h => Option.some.inj h, hI⟩
          · obtain rfl := Option.some.inj ho
            intro D V ρ wi hE hI hDi hT hF hs hd hk
            have e60 : ρ (.tmp 60) = .pointer (some ⟨w.heap.size + 1 + 1, 3, none⟩) := (hd 0 60 (by kernel_rfl) (by kernel_rfl) (by show _ < 70; decide)).trans (hk 0 (by kernel_rfl) _ rfl)
            clear hT hF hk
            have hx := HAR.out wi hI.only 3 _ rfl
            exact Reg.Gives.value (v := .int .i64 a3) (w' := wi) (by go_simp) ⟨fun x h => Option.some.inj h, hI⟩
          · obtain rfl := Option.some.inj ho
            intro D V ρ wi hE hI hDi hT hF hs hd hk
            have e8 : ρ (.tmp 8) = .pointer (some ⟨w.heap.size + 1 + 1, 0, none⟩) := hs 8 (by kernel_rfl)
            have hc := hE.const
            clear hT hF hk
            exact Reg.Gives.value (v := .pointer (some ⟨w.heap.size + 1 + 1, 4, none⟩)) (w' := wi) (by go_simp) ⟨fun x h => Option.some.inj h, hI⟩
          · obtain rfl := Option.some.inj ho
            intro D V ρ wi hE hI hDi hT hF hs hd hk
            have e62 : ρ (.tmp 62) = .pointer (some ⟨w.heap.size + 1 + 1, 4, none⟩) := (hd 2 62 (by kernel_rfl) (by kernel_rfl) (by show _ < 70; decide)).trans (hk 2 (by kernel_rfl) _ rfl)
            clear hT hF hk
            have hx := HAR.out wi hI.only 4 _ rfl
            exact Reg.Gives.value (v := .int .i64 a4) (w' := wi) (by go_simp) ⟨fun x h => Option.some.inj h, hI⟩
          · obtain rfl := Option.some.inj ho
            intro D V ρ wi hE hI hDi hT hF hs hd hk
            have e8 : ρ (.tmp 8) = .pointer (some ⟨w.heap.size + 1 + 1, 0, none⟩) := hs 8 (by kernel_rfl)
            have hc := hE.const
            clear hT hF hk
            exact Reg.Gives.value (v := .pointer (some ⟨w.heap.size + 1 + 1, 5, none⟩)) (w' := wi) (by go_simp) ⟨fun x h => Option.some.inj h, hI⟩
          · obtain rfl := Option.some.inj ho
            intro D V ρ wi hE hI hDi hT hF hs hd hk
            have e64 : ρ (.tmp 64) = .pointer (some ⟨w.heap.size + 1 + 1, 5, none⟩) := (hd 4 64 (by kernel_rfl) (by kernel_rfl) (by show _ < 70; decide)).trans (hk 4 (by kernel_rfl) _ rfl)
            clear hT hF hk
            have hx := HAR.out wi hI.only 5 _ rfl
            exact Reg.Gives.value (v := .int .i64 a5) (w' := wi) (by go_simp) ⟨fun x h => Option.some.inj h, hI⟩
          · obtain rfl := Option.some.inj ho
            intro D V ρ wi hE hI hDi hT hF hs hd hk
            have e7 : ρ (.tmp 7) = .pointer (some ⟨w.heap.size + 1, 0, none⟩) := hs 7 (by kernel_rfl)
            clear hT hF hk
            exact Reg.Gives.value (v := .pointer (some ⟨w.heap.size + 1, 9, none⟩)) (w' := wi) (by go_simp) ⟨fun x h => Option.some.inj h, hI⟩
          · obtain rfl := Option.some.inj ho
            intro D V ρ wi hE hI hDi hT hF hs hd hk
            have e66 : ρ (.tmp 66) = .pointer (some ⟨w.heap.size + 1, 9, none⟩) := (hd 6 66 (by kernel_rfl) (by kernel_rfl) (by show _ < 70; decide)).trans (hk 6 (by kernel_rfl) _ rfl)
            have e61 : ρ (.tmp 61) = .int .i64 a3 := (hd 1 61 (by kernel_rfl) (by kernel_rfl) (by show _ < 70; decide)).trans (hk 1 (by kernel_rfl) _ rfl)
            have hD7 : D 7 = false := hDi
            have hD9 : D 9 = false := hF 1 9 (by show _ < 12; decide) (by kernel_rfl)
            have hD11 : D 11 = false := hF 1 11 (by show _ < 12; decide) (by kernel_rfl)
            clear hT hF
            have hc1 := hI.c1
            have hf1 := hI.f1
            exact Reg.Gives.skip (w' := wi.setCell ⟨w.heap.size + 1, 9, none⟩ (.int .i64 a3)) (by go_simp) ⟨fun x h => (by cases h), by show wrSt w.heap.size wa 8 [.int .i64 xk, .int .i64 x1, .int .i64 x2, .int .i64 x3, .slice A L c, .slice B M d, .int .i64 a0, .int .i64 a1] [.bool yes] a2 a3 a4 a5 true true (D 9) (D 11) _; exact hI.st1⟩
          · obtain rfl := Option.some.inj ho
            intro D V ρ wi hE hI hDi hT hF hs hd hk
            have e7 : ρ (.tmp 7) = .pointer (some ⟨w.heap.size + 1, 0, none⟩) := hs 7 (by kernel_rfl)
            clear hT hF hk
            exact Reg.Gives.value (v := .pointer (some ⟨w.heap.size + 1, 10, none⟩)) (w' := wi) (by go_simp) ⟨fun x h => Option.some.inj h, hI⟩
          · obtain rfl := Option.some.inj ho
            intro D V ρ wi hE hI hDi hT hF hs hd hk
            have e67 : ρ (.tmp 67) = .pointer (some ⟨w.heap.size + 1, 10, none⟩) := (hd 8 67 (by kernel_rfl) (by kernel_rfl) (by show _ < 70; decide)).trans (hk 8 (by kernel_rfl) _ rfl)
            have e63 : ρ (.tmp 63) = .int .i64 a4 := (hd 3 63 (by kernel_rfl) (by kernel_rfl) (by show _ < 70; decide)).trans (hk 3 (by kernel_rfl) _ rfl)
            have hD7 : D 7 = true := hT 1 7 (by kernel_rfl)
            have hD9 : D 9 = false := hDi
            have hD11 : D 11 = false := hF 1 11 (by show _ < 12; decide) (by kernel_rfl)
            clear hT hF
            have hc1 := hI.c2
            have hf1 := hI.f2
            exact Reg.Gives.skip (w' := wi.setCell ⟨w.heap.size + 1, 10, none⟩ (.int .i64 a4)) (by go_simp) ⟨fun x h => (by cases h), by show wrSt w.heap.size wa 8 [.int .i64 xk, .int .i64 x1, .int .i64 x2, .int .i64 x3, .slice A L c, .slice B M d, .int .i64 a0, .int .i64 a1] [.bool yes] a2 a3 a4 a5 true (D 7) true (D 11) _; exact hI.st2⟩
          · obtain rfl := Option.some.inj ho
            intro D V ρ wi hE hI hDi hT hF hs hd hk
            have e7 : ρ (.tmp 7) = .pointer (some ⟨w.heap.size + 1, 0, none⟩) := hs 7 (by kernel_rfl)
            clear hT hF hk
            exact Reg.Gives.value (v := .pointer (some ⟨w.heap.size + 1, 11, none⟩)) (w' := wi) (by go_simp) ⟨fun x h => Option.some.inj h, hI⟩
          · obtain rfl := Option.some.inj ho
            intro D V ρ wi hE hI hDi hT hF hs hd hk
            have e68 : ρ (.tmp 68) = .pointer (some ⟨w.heap.size + 1, 11, none⟩) := (hd 10 68 (by kernel_rfl) (by kernel_rfl) (by show _ < 70; decide)).trans (hk 10 (by kernel_rfl) _ rfl)
            have e65 : ρ (.tmp 65) = .int .i64 a5 := (hd 5 65 (by kernel_rfl) (by kernel_rfl) (by show _ < 70; decide)).trans (hk 5 (by kernel_rfl) _ rfl)
            have hD7 : D 7 = true := hT 1 7 (by kernel_rfl)
            have hD9 : D 9 = true := hT 1 9 (by kernel_rfl)
            have hD11 : D 11 = false := hDi
            clear hT hF
            have hc1 := hI.c3
            have hf1 := hI.f3
            exact Reg.Gives.skip (w' := wi.setCell ⟨w.heap.size + 1, 11, none⟩ (.int .i64 a5)) (by go_simp) ⟨fun x h => (by cases h), by show wrSt w.heap.size wa 8 [.int .i64 xk, .int .i64 x1, .int .i64 x2, .int .i64 x3, .slice A L c, .slice B M d, .int .i64 a0, .int .i64 a1] [.bool yes] a2 a3 a4 a5 true (D 7) (D 9) true _; exact hI.st3⟩
          · omega
        · intro V w1 hk hI
          simp only [Reg.putsO, List.foldl_cons, List.foldl_nil, Act.put, List.setIfInBounds_toArray, List.set_cons_succ, List.set_cons_zero]
          replace hI : wrSt w.heap.size wa 8 [.int .i64 xk, .int .i64 x1, .int .i64 x2, .int .i64 x3, .slice A L c, .slice B M d, .int .i64 a0, .int .i64 a1] [.bool yes] a2 a3 a4 a5 true true true true w1 := hI
          clear hk
          generalize w1 = wb at *
          have HOB := Lib.hid (HOA.out.trans hI.only fun k _ e => e)
          have hq : Cells wb (w.heap.size + 1) 27 [.int .i64 xk, .int .i64 x1, .int .i64 x2, .int .i64 x3, .slice A L c, .slice B M d, .int .i64 a0, .int .i64 a1, .int .i64 a2, .int .i64 a3, .int .i64 a4, .int .i64 a5, .bool yes] := hI.cells
          have hz := cells_only HRS.out HOB.out (by omega)
          have q0 := hq.cell (j := 0) rfl
          have q1 := hq.cell (j := 1) rfl
          have q2 := hq.cell (j := 2) rfl
          have q3 := hq.cell (j := 3) rfl
          have q4 := hq.cell (j := 4) rfl
          have q5 := hq.cell (j := 5) rfl
          have q6 := hq.cell (j := 6) rfl
          have q7 := hq.cell (j := 7) rfl
          have q8 := hq.cell (j := 8) rfl
          have q9 := hq.cell (j := 9) rfl
          have q10 := hq.cell (j := 10) rfl
          have q11 := hq.cell (j := 11) rfl
          have q12 := hq.cell (j := 12) rfl
          have z0 := hz.cell (j := 0) rfl
          have z1 := hz.cell (j := 1) rfl
          have z2 := hz.cell (j := 2) rfl
          have z3 := hz.cell (j := 3) rfl
          have z4 := hz.cell (j := 4) rfl
          have z5 := hz.cell (j := 5) rfl
          have z6 := hz.cell (j := 6) rfl
          have z7 := hz.cell (j := 7) rfl
          have z8 := hz.cell (j := 8) rfl
          have z9 := hz.cell (j := 9) rfl
          have z10 := hz.cell (j := 10) rfl
          have z11 := hz.cell (j := 11) rfl
          have z12 := hz.cell (j := 12) rfl
          have f0 := hz.frozen (j := 0) (by simp)
          have f1 := hz.frozen (j := 1) (by simp)
          have f2 := hz.frozen (j := 2) (by simp)
          have f3 := hz.frozen (j := 3) (by simp)
          have f4 := hz.frozen (j := 4) (by simp)
          have f5 := hz.frozen (j := 5) (by simp)
          have f6 := hz.frozen (j := 6) (by simp)
          have f7 := hz.frozen (j := 7) (by simp)
          have f8 := hz.frozen (j := 8) (by simp)
          have f9 := hz.frozen (j := 9) (by simp)
          have f10 := hz.frozen (j := 10) (by simp)
          have f11 := hz.frozen (j := 11) (by simp)
          have f12 := hz.frozen (j := 12) (by simp)
          have HOB2 : Hid (Only (fun k => k = w.heap.size ∨ k = w.heap.size + 1) wr wb) := Lib.hid (HOB.out.mono fun k _ e => Or.inr e)
          have HZ := Lib.hid (((((((((((((hz.set_ 0 (.int .i64 xk)).set_ 1 (.int .i64 x1)).set_ 2 (.int .i64 x2)).set_ 3 (.int .i64 x3)).set_ 4 (.slice A L c)).set_ 5 (.slice B M d)).set_ 6 (.int .i64 a0)).set_ 7 (.int .i64 a1)).set_ 8 (.int .i64 a2)).set_ 9 (.int .i64 a3)).set_ 10 (.int .i64 a4)).set_ 11 (.int .i64 a5)).set_ 12 (.bool yes))
          clear hI hq hz
          go_wp2_with fail
          have hzz := HZ.out
          have r0 := hzz.cell (j := 0) rfl
          have r1 := hzz.cell (j := 1) rfl
          have r2 := hzz.cell (j := 2) rfl
          have r3 := hzz.cell (j := 3) rfl
          have r4 := hzz.cell (j := 4) rfl
          have r5 := hzz.cell (j := 5) rfl
          have r6 := hzz.cell (j := 6) rfl
          have r7 := hzz.cell (j := 7) rfl
          have r8 := hzz.cell (j := 8) rfl
          have r9 := hzz.cell (j := 9) rfl
          have r10 := hzz.cell (j := 10) rfl
          have r11 := hzz.cell (j := 11) rfl
          have r12 := hzz.cell (j := 12) rfl
          have HDN := HS.out.done (only_set (only_set (only_set (only_set (only_set (only_set (only_set (only_set (only_set (only_set (only_set (only_set (only_set HOB2.out ⟨w.heap.size, 0, none⟩ (.int .i64 xk) (Or.inl rfl)) ⟨w.heap.size, 1, none⟩ (.int .i64 x1) (Or.inl rfl)) ⟨w.heap.size, 2, none⟩ (.int .i64 x2) (Or.inl rfl)) ⟨w.heap.size, 3, none⟩ (.int .i64 x3) (Or.inl rfl)) ⟨w.heap.size, 4, none⟩ (.slice A L c) (Or.inl rfl)) ⟨w.heap.size, 5, none⟩ (.slice B M d) (Or.inl rfl)) ⟨w.heap.size, 6, none⟩ (.int .i64 a0) (Or.inl rfl)) ⟨w.heap.size, 7, none⟩ (.int .i64 a1) (Or.inl rfl)) ⟨w.heap.size, 8, none⟩ (.int .i64 a2) (Or.inl rfl)) ⟨w.heap.size, 9, none⟩ (.int .i64 a3) (Or.inl rfl)) ⟨w.heap.size, 10, none⟩ (.int .i64 a4) (Or.inl rfl)) ⟨w.heap.size, 11, none⟩ (.int .i64 a5) (Or.inl rfl)) ⟨w.heap.size, 12, none⟩ (.bool yes) (Or.inl rfl))
          refine bodyPost_ret (v := .agg #[.int .i64 xk, .int .i64 x1, .int .i64 x2, .int .i64 x3, .slice A L c, .slice B M d, .int .i64 a0, .int .i64 a1, .int .i64 a2, .int .i64 a3, .int .i64 a4, .int .i64 a5, .bool yes]) (by simp [results, go_sem, r0, r1, r2, r3, r4, r5, r6, r7, r8, r9, r10, r11, r12]) rfl ⟨⟨A, c, B, d⟩, ?_, ?_⟩
          · rw [HTK.out]
            unfold Rc.val
            simp only [HLM.out.1, HLM.out.2]
          · rw [HTK.out]
            exact HDN
end Go.Proofs.Ytfnkjdkckpdfhaa.Msg
