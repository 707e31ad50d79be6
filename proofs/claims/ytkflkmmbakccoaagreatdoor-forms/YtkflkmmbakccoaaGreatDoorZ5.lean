/- PARTS: K14. -/
import Derived.Test.YtkflkmmbakccoaaGreatDoorZ4
import Derived.Test.YtkflkmmbakccoaaGreatDoorJ29
import Derived.Test.YtkflkmmbakccoaaGreatDoorJ19

/- WALKS: package grafterkeep: made, whole; what Forms makes of it. -/
namespace Go.Proofs.YtkflkmmbakccoaaGreatDoor
open Go.RowKit Go.Maps

theorem kMade_any (d : Nat) : ∀ (raw : List Int) (e : Nat) (w : World) (v : Value), RawOk w v raw → e + d ≤ 4 → Calls Tryz.prog 22 #[v, .int .i64 (e : Int), .int .i64 (d : Int)] w fun en w' => MadePost d raw e w en w' := by
  induction d with
  | zero =>
    intro raw e w v hv he
    cases raw with
    | nil => exact kMade_nil 0 e w v hv
    | cons c raw => exact kMade_scal 0 e w v c raw hv (.inr rfl) (by omega)
  | succ d ih =>
    intro raw e w v hv he
    cases raw with
    | nil => exact kMade_nil (d + 1) e w v hv
    | cons c raw =>
      by_cases hk : pickM c 8 < 3
      · exact kMade_scal (d + 1) e w v c raw hv (.inl hk) (by omega)
      · have h := kMade_box d e w v c raw hv hk (by omega) ih
        have e1 : (((d + 1 : Nat) : Nat) : Int) = (d : Int) + 1 := by push_cast; rfl
        rw [e1]
        exact h

/-- The end of a line that a raw number asks for. -/
def nlOf (p : Int) : List UInt8 := if p = 0 then [10] else if p = 2 then [32, 32, 10, 32, 10] else [32, 32, 10]

theorem nlOf_ok (p : Int) : NlOk (nlOf p) := by
  unfold nlOf NlOk
  split
  · exact .inl rfl
  · split
    · exact .inr (.inr rfl)
    · exact .inr (.inl rfl)

theorem sub_take (nl l : List UInt8) (i : Nat) (h : i < l.length) : Q.nlSub nl (l.take (i + 1)) = Q.nlSub nl (l.take i) ++ (if l[i] = 10 then nl else [l[i]]) := by
  rw [List.take_succ_eq_append_getElem h, Q.nlSub_app]
  congr 1
  simp [Q.nlSub]

/-- What Forms reads: both forms say the same. -/
theorem forms_load {m : Q.Mk} (h : Q.MkOk 4 m) (p : Int) {fl sl : ByteArray} (hf : fl = bK m.flow) (hs : sl = bK (if m.box then m.lines (nlOf p) 0 else m.flow)) (h1 : fl.size ≤ 1000) (h2 : sl.size ≤ 1000) :
    ∃ t1 t2, loadM fl maxB = .ok () t1 ∧ loadM sl maxB = .ok () t2 ∧ t2.nodes = t1.nodes ∧ t1.anchors = 0 ∧ t2.anchors = 0 ∧ heavyOf t1.nodes 0 = t1.nodes.length := by
  obtain ⟨t1, t2, e1, e2, e3, e4, e5, e6, e7⟩ := Q.forms_read (B := maxB) rfl rfl h (nlOf_ok p)
  refine ⟨t1, t2, load_of (by decide) h1 (by rw [hf]; exact e1) ?_, load_of (by decide) h2 (by rw [hs]; exact e2) ?_, e3, e4, e5, e6⟩
  · rw [e6]; simp only [maxB]; omega
  · rw [e3, e6]; simp only [maxB]; omega

theorem getV_shape (nodes : List NodeV) (o : Option Nat) : ∃ (x : ByteArray) (er : Int), getV nodes o = .tuple #[.string x, .int .i64 er] := by
  cases o with
  | none => exact ⟨_, _, rfl⟩
  | some k => exact ⟨_, _, rfl⟩

theorem one_byte (z : ByteArray) (i : Nat) (h : i < z.size) : ∃ y : ByteArray, y.data.toList = [z[i]] ∧ y.size ≤ 1 ∧ ∀ V : World, (Instr.slice 9 (.string z) (some (.int .i64 (i : Int))) (some (.int .i64 ((i : Int) + 1))) none).run Tryz.prog V = .ok (.string y) V := by
  have hyl : (z.extract i (i + 1)).data.toList = [z[i]] := by
    rw [ByteArray.data_extract, Array.toList_extract, List.extract_eq_take_drop, show i + 1 - i = 1 by omega, List.drop_eq_getElem_cons (show i < z.data.toList.length from h)]
    rfl
  refine ⟨z.extract i (i + 1), hyl, ?_, fun V => ?_⟩
  · rw [Lib.size_eq, hyl]; simp
  · have := run_slice_string (P := Tryz.prog) (w := V) 9 z .i64 .i64 (i : Int) ((i : Int) + 1) Tryz.underlying9 (by omega) (by omega) (by omega)
    have e : ((i : Int) + 1).toNat = i + 1 := by omega
    rw [e] at this
    simpa using this

set_option maxRecDepth 20000 in
set_option maxHeartbeats 2000000 in
theorem kForms_any (raw : List Int) (v : Value) (blank : Int) (hbl : -9223372036854775808 ≤ blank ∧ blank ≤ 9223372036854775807) (w : World) (hv : RawOk w v raw) (N0 : Nat) (hT : Tabs N0 w) (hN0 : N0 ≤ w.heap.size)
    (HK : Hid (Calls Tryz.prog 13 #[] w fun e w' => e = .returned (.bool true) ∧ But [] w w')) :
    Calls Tryz.prog 10 #[v, .int .i64 blank] w fun e w' => e = .returned (.bool true) ∧ But [] w w' := by
  have HT : Hid _ := hT
  have HV : Hid _ := hv
  obtain ⟨va, vc, rfl, _, _, _⟩ := hv.shape
  clear hT hv
  go_enter Tryz.func10, Tryz.ntmps10
  go_wp2_with fail
  refine Calls.mono HK.out ?_
  rintro e w1 ⟨rfl, hb1⟩
  have HMD : Hid (Calls Tryz.prog 22 #[.slice va raw.length vc, .int .i64 0, .int .i64 4] w1 fun en w' => MadePost 4 raw 0 w1 en w') := by
    have h := kMade_any 4 raw 0 w1 _ (HV.out.but hb1) (by omega)
    exact h
  clear HK
  go_wp2_with fail
  refine Calls.mono HMD.out ?_
  rintro en w2 ⟨fl, ln, rfl, hb2, hfl, hln⟩
  have hOk := Q.madeM_ok 4 raw
  have hfs : fl.size ≤ 10240 := by rw [hfl]; exact made_flow_size (by omega) _
  have hls : ln.size ≤ 102400 := by rw [hln]; exact made_lines_size (by omega) _ _ (by omega)
  generalize Q.madeM 4 raw = mk at *
  obtain ⟨z, hz⟩ : ∃ z : ByteArray, z = bK (if mk.box then mk.lines [10] 0 else mk.flow) := ⟨_, rfl⟩
  have hzs : z.size ≤ 102400 := by
    rw [hz]
    split
    · rw [← hln]; exact hls
    · rw [← hfl]; omega
  have hcase : (ln.toList.isEmpty = false ∧ ¬ ln.toList = [] ∧ z = ln) ∨ (ln.toList = [] ∧ z = fl) := by
    by_cases hb : mk.box = true
    · left
      have hne : ¬ ln.toList = [] := by
        rw [Lib.toList_data, hln]
        exact Q.lines_ne hOk [10] 0 hb
      exact ⟨by simpa using hne, hne, by rw [hz, if_pos hb, hln]⟩
    · right
      refine ⟨?_, by rw [hz, if_neg hb, hfl]⟩
      rw [Lib.toList_data, hln]
      unfold Q.Mk.lines
      rw [if_neg hb]
  have hpb := pickM_bd (c := blank) (n := 3) (by omega)
  have HPK : Hid (∀ W : World, Calls Tryz.prog 17 #[.int .i64 blank, .int .i64 3] W fun e w' => e = .returned (.int .i64 (pickM blank 3)) ∧ w' = W) := fun W => kPick_any blank 3 hbl (by omega) W
  have HSL : Hid (∀ sl : ByteArray, sl = bK (Q.nlSub (nlOf (pickM blank 3)) z.data.toList) → fl.size ≤ 1000 → sl.size ≤ 1000 → ∃ t1 t2, loadM fl maxB = .ok () t1 ∧ loadM sl maxB = .ok () t2 ∧ t2.nodes = t1.nodes ∧ t1.anchors = 0 ∧ t2.anchors = 0 ∧ heavyOf t1.nodes 0 = t1.nodes.length) := fun sl hsl h1 h2 => by
    refine forms_load hOk (pickM blank 3) hfl ?_ h1 h2
    rw [hsl, hz]
    obtain ⟨s1, s2⟩ := Q.made_sub hOk (nlOf (pickM blank 3)) 0
    split
    · exact congrArg bK s1
    · exact congrArg bK s2
  have HOk : Hid _ := hOk
  have HCS : Hid _ := hcase
  clear hfl hln hOk hz hcase HMD
  generalize pickM blank 3 = pb at *
  obtain ⟨V, hV⟩ : ∃ V, V = w2.alloc (.cells #[.string fl, .string ln, .int .i64 (mk.used : Int)] 44) := ⟨_, rfl⟩
  have HbV : Hid (But [] w V) := by unfold Hid; rw [hV]; exact (hb1.trans hb2 (by simp)).alloc _
  have hBV : Blk V w2.heap.size #[.string fl, .string ln, .int .i64 (mk.used : Int)] 44 := by rw [hV]; exact blk_new _ _ _
  have HVV : Hid _ := hV
  have g0 := hBV.cell (i := 0) rfl
  have g1 := hBV.cell (i := 1) rfl
  have HBV : Hid _ := hBV
  clear hV hBV hb1 hb2
  go_upto_region 3 with fail
  rw [← HVV.out]
  go_upto_region 4 with fail
  rcases HCS.out with ⟨he1, he2, hz1⟩ | ⟨he1, hz1⟩
  case' inl =>
    go_upto_region 6 with fail
    rw [← hz1]
    clear he1 he2
  case' inr =>
    go_upto_region 6 with fail
    rw [← hz1]
    clear he1
  all_goals
    have HZ1 : Hid _ := hz1
    clear hz1 HCS
    go_wp2_with fail
    go_loop [8, 9] (fun sv iv => ∃ (i : Nat) (x : ByteArray), i ≤ z.size ∧ iv = .int .i64 (i : Int) ∧ sv = .string x ∧ Hid (x = bK (Q.nlSub (nlOf pb) (z.data.toList.take i))) ∧ x.size ≤ 5 * i) (fun _ iv => z.size + 1 - (intOf iv).toNat)
    case atStart => exact ⟨0, _, Nat.zero_le _, rfl, rfl, rfl, by decide⟩
    case round =>
      obtain ⟨i, x, hi, rfl, rfl, HX, hxs⟩ := hrel
      by_cases hin : i < z.size
      · have HST : Hid _ := sub_take (nlOf pb) z.data.toList i (show i < z.data.toList.length from hin)
        have hzi : z.data.toList[i]'(show i < z.data.toList.length from hin) = z[i] := rfl
        rw [hzi] at HST
        obtain ⟨y, hyl, hys, hsl⟩ := one_byte z i hin
        have HYL : Hid _ := hyl
        clear hyl
        by_cases h10 : z[i] = 10
        · have hbx : ((z[i].toNat : Int) == 10) = true := by rw [h10]; rfl
          have HH : Hid _ := h10
          clear h10
          go_wp2_with fail
          refine Calls.mono (HPK.out V) ?_
          rintro e0 w3 ⟨rfl, hw3⟩
          rw [hw3]
          clear hw3
          have hp3 : pb = 0 ∨ pb = 1 ∨ pb = 2 := by omega
          rcases hp3 with hp | hp | hp
          · have HNL : Hid (nlOf pb = [10]) := by unfold Hid; rw [hp]; rfl
            have hpg : ¬ 0 < pb := by omega
            clear hp
            go_wp2_with fail
            go_round
            case rel =>
              refine ⟨i + 1, _, by omega, by go_num, rfl, ?_, ?_⟩
              · unfold Hid
                rw [HST.out, HX.out, if_pos HH.out, HNL.out]
                apply ByteArray.ext
                simp [ByteArray.data_append, HYL.out, HH.out]
              · simp only [ByteArray.size_append]
                omega
            case measure => simp [intOf]; omega
          · have HNL : Hid (nlOf pb = [32, 32, 10]) := by unfold Hid; rw [hp]; rfl
            have hpg : 0 < pb := by omega
            have hp2 : (pb == 2) = false := by rw [hp]; rfl
            clear hp
            go_wp2_with fail
            refine Calls.mono (HPK.out V) ?_
            rintro e0 w3 ⟨rfl, hw3⟩
            rw [hw3]
            clear hw3
            go_wp2_with fail
            go_round
            case rel =>
              refine ⟨i + 1, _, by omega, by go_num, rfl, ?_, ?_⟩
              · unfold Hid
                rw [HST.out, HX.out, if_pos HH.out, HNL.out]
                apply ByteArray.ext
                simp [ByteArray.data_append]
              · simp only [ByteArray.size_append]
                show x.size + 2 + 1 ≤ _
                omega
            case measure => simp [intOf]; omega
          · have HNL : Hid (nlOf pb = [32, 32, 10, 32, 10]) := by unfold Hid; rw [hp]; rfl
            have hpg : 0 < pb := by omega
            have hp2 : (pb == 2) = true := by rw [hp]; rfl
            clear hp
            go_wp2_with fail
            refine Calls.mono (HPK.out V) ?_
            rintro e0 w3 ⟨rfl, hw3⟩
            rw [hw3]
            clear hw3
            go_wp2_with fail
            go_round
            case rel =>
              refine ⟨i + 1, _, by omega, by go_num, rfl, ?_, ?_⟩
              · unfold Hid
                rw [HST.out, HX.out, if_pos HH.out, HNL.out]
                apply ByteArray.ext
                simp [ByteArray.data_append]
              · simp only [ByteArray.size_append]
                show x.size + 2 + 3 ≤ _
                omega
            case measure => simp [intOf]; omega
        · have hbx : ((z[i].toNat : Int) == 10) = false := by
            rw [beq_eq_false_iff_ne]
            intro h
            exact h10 (UInt8.toNat_inj.1 (by show z[i].toNat = 10; omega))
          have HH : Hid _ := h10
          have HNL : Hid (nlOf pb = nlOf pb) := rfl
          clear h10
          go_wp2_with fail
          go_round
          case rel =>
            refine ⟨i + 1, _, by omega, by go_num, rfl, ?_, ?_⟩
            · unfold Hid
              rw [HST.out, HX.out, if_neg HH.out]
              apply ByteArray.ext
              simp [ByteArray.data_append, HYL.out]
            · simp only [ByteArray.size_append]
              omega
          case measure => simp [intOf]; omega
      · have hie : i = z.size := by omega
        subst hie
        have HXX : Hid (x = bK (Q.nlSub (nlOf pb) z.data.toList)) := by
          unfold Hid
          rw [HX.out, List.take_of_length_le (show z.data.toList.length ≤ z.size from Nat.le_refl _)]
        clear HX HPK
        by_cases hx1 : 1000 < x.size
        · go_wp2_with fail
          go_ret
          exact ⟨rfl, HbV.out⟩
        · by_cases hf1 : 1000 < fl.size
          · go_wp2_with fail
            go_ret
            exact ⟨rfl, HbV.out⟩
          · obtain ⟨t1, t2, l1, l2, n2, an1, an2, hvy⟩ := HSL.out x HXX.out (by omega) (by omega)
            have hWh := load_whole2 l1
            have HL1 : Hid _ := l1
            have HL2 : Hid _ := l2
            have HN2 : Hid _ := n2
            have HWh : Hid _ := hWh
            have HM1 : Hid (measM t1 = ⟨(highOf t1.nodes 0 : Int), (t1.nodes.length : Int), 0, (t1.nodes.length : Int)⟩) := by unfold Hid measM; rw [an1, hvy]; rfl
            have HM2 : Hid (measM t2 = ⟨(highOf t1.nodes 0 : Int), (t1.nodes.length : Int), 0, (t1.nodes.length : Int)⟩) := by unfold Hid measM; rw [an2, n2, hvy]; rfl
            clear l1 l2 n2 an1 an2 hvy hWh HSL HXX HOk
            have HR1 : Hid _ := kRead_any fl (by omega) V
            go_wp2_with fail
            refine Calls.mono HR1.out ?_
            intro e w3 hp
            rw [HL1.out] at hp
            obtain ⟨E1, nv1, rows1, d1, rfl, hI1, hr1, hd1, hb3⟩ := hp
            have hBw3 : But [] w w3 := HbV.out.trans hb3 (by simp)
            have HD1 : Hid (∀ W, But [] w3 W → (Calls Tryz.prog 19 #[.pointer (some ⟨d1, 0, none⟩)] W fun e w' => e = .returned (.string ⟨(plainM t1.nodes 0).toArray⟩) ∧ But [] W w') ∧ (Calls Tryz.prog 15 #[.pointer (some ⟨d1, 0, none⟩)] W fun e w' => e = .returned (budV ⟨(highOf t1.nodes 0 : Int), (t1.nodes.length : Int), 0, (t1.nodes.length : Int)⟩) ∧ But [] W w') ∧ ∀ (v : Value) (path : List ByteArray), PathOk W v path → Calls Tryz.prog 21 #[.pointer (some ⟨d1, 0, none⟩), v] W fun e w' => e = .returned (getV t1.nodes (getM t1.nodes path 0)) ∧ But [] W w') := fun W hW => by
              have hBW := hBw3.trans hW (by simp)
              refine ⟨dPlain_any E1 t1 nv1 rows1 W (hI1.frame hW (by simp)) hr1 HWh.out N0 (HT.out.w.below (hBW.below hN0 (by simp))) (Nat.le_trans hN0 hBW.size) d1 (hW.blk hd1 (by simp)), ?_, fun v path hP => dGet_any E1 t1 nv1 rows1 W (hI1.frame hW (by simp)) hr1 HWh.out N0 (HT.out.below (hBW.below hN0 (by simp))) (Nat.le_trans hN0 hBW.size) d1 (hW.blk hd1 (by simp)) v path hP⟩
              have := dMeasure_any E1 t1 nv1 rows1 W (hI1.frame hW (by simp)) hr1 d1 (hW.blk hd1 (by simp))
              rw [HM1.out] at this
              exact this
            have HBw3 : Hid _ := hBw3
            have HR2 : Hid _ := kRead_any x (by omega) w3
            clear HR1 HL1 HM1 hI1 hr1 hd1 g0 g1 hBw3 HbV
            go_wp2_with fail
            refine Calls.mono HR2.out ?_
            intro e w4 hp
            rw [HL2.out] at hp
            obtain ⟨E2, nv2, rows2, d2, rfl, hI2, hr2, hd2, hb4⟩ := hp
            have hBw4 : But [] w w4 := HBw3.out.trans hb4 (by simp)
            have HD2 : Hid (∀ W, But [] w4 W → (Calls Tryz.prog 19 #[.pointer (some ⟨d2, 0, none⟩)] W fun e w' => e = .returned (.string ⟨(plainM t1.nodes 0).toArray⟩) ∧ But [] W w') ∧ (Calls Tryz.prog 15 #[.pointer (some ⟨d2, 0, none⟩)] W fun e w' => e = .returned (budV ⟨(highOf t1.nodes 0 : Int), (t1.nodes.length : Int), 0, (t1.nodes.length : Int)⟩) ∧ But [] W w') ∧ ∀ (v : Value) (path : List ByteArray), PathOk W v path → Calls Tryz.prog 21 #[.pointer (some ⟨d2, 0, none⟩), v] W fun e w' => e = .returned (getV t1.nodes (getM t1.nodes path 0)) ∧ But [] W w') := fun W hW => by
              have hBW := hBw4.trans hW (by simp)
              have hWh2 : Whole t2.nodes := by rw [HN2.out]; exact HWh.out
              refine ⟨?_, ?_, fun v path hP => ?_⟩
              · have := dPlain_any E2 t2 nv2 rows2 W (hI2.frame hW (by simp)) hr2 hWh2 N0 (HT.out.w.below (hBW.below hN0 (by simp))) (Nat.le_trans hN0 hBW.size) d2 (hW.blk hd2 (by simp))
                rw [HN2.out] at this
                exact this
              · have := dMeasure_any E2 t2 nv2 rows2 W (hI2.frame hW (by simp)) hr2 d2 (hW.blk hd2 (by simp))
                rw [HM2.out] at this
                exact this
              · have := dGet_any E2 t2 nv2 rows2 W (hI2.frame hW (by simp)) hr2 hWh2 N0 (HT.out.below (hBW.below hN0 (by simp))) (Nat.le_trans hN0 hBW.size) d2 (hW.blk hd2 (by simp)) v path hP
                rw [HN2.out] at this
                exact this
            have HBw4 : Hid _ := hBw4
            clear HR2 HL2 HM2 HN2 hI2 hr2 hd2 hBw4 HWh HT HBw3
            generalize highOf t1.nodes 0 = hi at *
            generalize t1.nodes.length = nn at *
            generalize (⟨(plainM t1.nodes 0).toArray⟩ : ByteArray) = pl at *
            have HP1 : Hid _ := (HD1.out w4 hb4).1
            go_wp2_with fail
            refine Calls.mono HP1.out ?_
            rintro e w5 ⟨rfl, hb5⟩
            have HP2 : Hid _ := (HD2.out w5 hb5).1
            clear HP1
            go_wp2_with fail
            refine Calls.mono HP2.out ?_
            rintro e w6 ⟨rfl, hb6⟩
            have hb46a : But [] w4 w6 := hb5.trans hb6 (by simp)
            have HM1 : Hid _ := (HD1.out w6 (hb4.trans hb46a (by simp))).2.1
            clear HP2 hb5 hb6
            go_wp2_with fail
            refine Calls.mono HM1.out ?_
            rintro e w7 ⟨rfl, hb7⟩
            have hb47 : But [] w4 (w7.alloc (.cells #[.int .i64 (hi : Int), .int .i64 (nn : Int), .int .i64 0, .int .i64 (nn : Int)] 29)) := (hb46a.trans hb7 (by simp)).alloc _
            have hB7 : Blk (w7.alloc (.cells #[.int .i64 (hi : Int), .int .i64 (nn : Int), .int .i64 0, .int .i64 (nn : Int)] 29)) w7.heap.size #[.int .i64 (hi : Int), .int .i64 (nn : Int), .int .i64 0, .int .i64 (nn : Int)] 29 := blk_new _ _ _
            have HM2 : Hid _ := (HD2.out (w7.alloc (.cells #[.int .i64 (hi : Int), .int .i64 (nn : Int), .int .i64 0, .int .i64 (nn : Int)] 29)) hb47).2.1
            clear HM1 hb46a hb7
            go_wp2_with fail
            refine Calls.mono HM2.out ?_
            rintro e w8 ⟨rfl, hb8⟩
            obtain ⟨W6, hW6⟩ : ∃ W6, W6 = w8.alloc (.cells #[.int .i64 (hi : Int), .int .i64 (nn : Int), .int .i64 0, .int .i64 (nn : Int)] 29) := ⟨_, rfl⟩
            have hb46 : But [] w4 W6 := by rw [hW6]; exact (hb47.trans hb8 (by simp)).alloc _
            have hB8a : Blk W6 w7.heap.size #[.int .i64 (hi : Int), .int .i64 (nn : Int), .int .i64 0, .int .i64 (nn : Int)] 29 := by rw [hW6]; exact blk_old (hb8.blk hB7 (by simp))
            have hB8b : Blk W6 w8.heap.size #[.int .i64 (hi : Int), .int .i64 (nn : Int), .int .i64 0, .int .i64 (nn : Int)] 29 := by rw [hW6]; exact blk_new _ _ _
            have hb36 : But [] w3 W6 := hb4.trans hb46 (by simp)
            have HW6 : Hid _ := hW6
            clear HM2 hb47 hB7 hb8 hW6
            go_upto_region 26 with fail
            rw [← HW6.out]
            go_wp2_with fail
            go_loopg [16, 17, 18, 19, 20, 21, 22] 4 (fun gk iv _ _ _ _ _ _ wr => ∃ i : Nat, gk = 4 - i ∧ i ≤ 3 ∧ iv = .int .i64 (i : Int) ∧ But [] W6 wr)
            case atStart => exact ⟨0, rfl, by omega, rfl, But.refl _ _⟩
            case round =>
              obtain ⟨i, rfl, hi, rfl, hbr⟩ := hrel
              by_cases hi3 : i < 3
              · go_wp2_with fail
                rw [show decide ((i : Int) < 3) = true from decide_eq_true (by omega)]
                have HI3 : Hid (i < 3) := hi3
                clear hi3
                go_loopg [17, 18, 19, 20, 21, 22] 3 (fun gk kv _ _ _ _ _ wr => ∃ k : Nat, gk = 3 - k ∧ k ≤ 2 ∧ kv = .int .i64 (k : Int) ∧ But [] W6 wr)
                case atStart => exact ⟨0, rfl, by omega, rfl, hbr⟩
                case round =>
                  obtain ⟨k, rfl, hk, rfl, hbr2⟩ := hrel
                  have hk3 : k = 0 ∨ k = 1 ∨ k = 2 := by omega
                  rcases hk3 with rfl | rfl | rfl
                  · obtain ⟨di, hdi0⟩ : ∃ di : ByteArray, di = dgB i := ⟨_, rfl⟩
                    obtain ⟨dk, hdk0⟩ : ∃ dk : ByteArray, dk = dgB 0 := ⟨_, rfl⟩
                    have HTi : Hid (∀ W : World, Calls Tryz.prog 23 #[.int .i64 (i : Int)] W fun e w' => e = .returned (.string di) ∧ w' = W) := fun W => by rw [hdi0]; exact kTwo_any i (by omega) W
                    have HTk : Hid (∀ W : World, Calls Tryz.prog 23 #[.int .i64 0] W fun e w' => e = .returned (.string dk) ∧ w' = W) := fun W => by rw [hdk0]; exact kTwo_any 0 (by omega) W
                    have hdi : di.size ≤ 1 := by rw [hdi0]; show (bK [_]).size ≤ 1; rw [bK_size]; simp
                    have hdk : dk.size ≤ 1 := by rw [hdk0]; show (bK [_]).size ≤ 1; rw [bK_size]; simp
                    clear hdi0 hdk0
                    go_wp2_with fail
                    refine Calls.mono (HTi.out wr) ?_
                    rintro e0 w20 ⟨rfl, hw20⟩
                    rw [hw20]
                    clear hw20
                    go_wp2_with fail
                    refine Calls.mono (HTk.out wr) ?_
                    rintro e0 w20 ⟨rfl, hw20⟩
                    rw [hw20]
                    clear hw20
                    obtain ⟨P, hP⟩ : ∃ P, P = wr.alloc (.cells #[.string di, .string (⟨#[107]⟩ ++ dk)] 9) := ⟨_, rfl⟩
                    have hbP : But [] W6 P := by rw [hP]; exact hbr2.alloc _
                    have hBP : Blk P wr.heap.size #[.string di, .string (⟨#[107]⟩ ++ dk)] 9 := by rw [hP]; exact blk_new _ _ _
                    have hPO : ∀ W, But [] P W → PathOk W (.slice (some ⟨wr.heap.size, 0, none⟩) 1 2) [di] := fun W hW => by
                      have hB := hW.blk hBP (by simp)
                      refine ⟨⟨some ⟨wr.heap.size, 0, none⟩, 2, rfl, (by simp), fun _ => ⟨wr.heap.size, 0, rfl, hB.lt, fun j hj => ?_⟩⟩, fun x hx => ?_, (by simp)⟩
                      · have : j = 0 := by simpa using hj
                        subst this
                        exact hB.cell rfl
                      · have : x = di := by simpa using hx
                        rw [this]; omega
                    have HG1 : Hid _ := (HD1.out P (hb36.trans hbP (by simp))).2.2 _ _ (hPO P (But.refl [] P))
                    obtain ⟨gx, ge, hg⟩ := getV_shape t1.nodes (getM t1.nodes [di] 0)
                    rw [hg] at HG1
                    have HG2 : Hid (∀ W, But [] P W → Calls Tryz.prog 21 #[.pointer (some ⟨d2, 0, none⟩), .slice (some ⟨wr.heap.size, 0, none⟩) 1 2] W fun e w' => e = .returned (.tuple #[.string gx, .int .i64 ge]) ∧ But [] W w') := fun W hW => by
                      have := (HD2.out W ((hb46.trans hbP (by simp)).trans hW (by simp))).2.2 _ _ (hPO W hW)
                      rw [hg] at this
                      exact this
                    have HPP : Hid _ := hP
                    clear hP hBP hPO hg hbr2
                    go_upto_region 33 with fail
                    rw [← HPP.out]
                    go_wp2_with fail
                    refine Calls.mono HG1.out ?_
                    rintro e0 w21 ⟨rfl, hb21⟩
                    have HG3 : Hid _ := HG2.out w21 hb21
                    clear HG1 HG2
                    go_wp2_with fail
                    refine Calls.mono HG3.out ?_
                    rintro e0 w22 ⟨rfl, hb22⟩
                    have hb622 : But [] W6 w22 := (hbP.trans hb21 (by simp)).trans hb22 (by simp)
                    clear HG3 hb21 hb22 hbP
                    go_wp2_with fail
                    go_roundg (3 - (0 + 1))
                    case measure => omega
                    case rel => exact ⟨0 + 1, rfl, by omega, by go_num, hb622⟩
                  · obtain ⟨di, hdi0⟩ : ∃ di : ByteArray, di = dgB i := ⟨_, rfl⟩
                    obtain ⟨dk, hdk0⟩ : ∃ dk : ByteArray, dk = dgB 1 := ⟨_, rfl⟩
                    have HTi : Hid (∀ W : World, Calls Tryz.prog 23 #[.int .i64 (i : Int)] W fun e w' => e = .returned (.string di) ∧ w' = W) := fun W => by rw [hdi0]; exact kTwo_any i (by omega) W
                    have HTk : Hid (∀ W : World, Calls Tryz.prog 23 #[.int .i64 1] W fun e w' => e = .returned (.string dk) ∧ w' = W) := fun W => by rw [hdk0]; exact kTwo_any 1 (by omega) W
                    have hdi : di.size ≤ 1 := by rw [hdi0]; show (bK [_]).size ≤ 1; rw [bK_size]; simp
                    have hdk : dk.size ≤ 1 := by rw [hdk0]; show (bK [_]).size ≤ 1; rw [bK_size]; simp
                    clear hdi0 hdk0
                    go_wp2_with fail
                    refine Calls.mono (HTi.out wr) ?_
                    rintro e0 w20 ⟨rfl, hw20⟩
                    rw [hw20]
                    clear hw20
                    go_wp2_with fail
                    refine Calls.mono (HTk.out wr) ?_
                    rintro e0 w20 ⟨rfl, hw20⟩
                    rw [hw20]
                    clear hw20
                    obtain ⟨P, hP⟩ : ∃ P, P = wr.alloc (.cells #[.string di, .string (⟨#[107]⟩ ++ dk)] 9) := ⟨_, rfl⟩
                    have hbP : But [] W6 P := by rw [hP]; exact hbr2.alloc _
                    have hBP : Blk P wr.heap.size #[.string di, .string (⟨#[107]⟩ ++ dk)] 9 := by rw [hP]; exact blk_new _ _ _
                    have hPO : ∀ W, But [] P W → PathOk W (.slice (some ⟨wr.heap.size, 0, none⟩) 2 2) [di, ⟨#[107]⟩ ++ dk] := fun W hW => by
                      have hB := hW.blk hBP (by simp)
                      refine ⟨⟨some ⟨wr.heap.size, 0, none⟩, 2, rfl, (by simp), fun _ => ⟨wr.heap.size, 0, rfl, hB.lt, fun j hj => ?_⟩⟩, fun x hx => ?_, (by simp)⟩
                      · have : j = 0 ∨ j = 1 := by simp at hj; omega
                        rcases this with rfl | rfl
                        · exact hB.cell rfl
                        · exact hB.cell rfl
                      · have : x = di ∨ x = ⟨#[107]⟩ ++ dk := by simpa using hx
                        rcases this with rfl | rfl
                        · omega
                        · simp only [ByteArray.size_append]
                          show 1 + dk.size ≤ _
                          omega
                    have HG1 : Hid _ := (HD1.out P (hb36.trans hbP (by simp))).2.2 _ _ (hPO P (But.refl [] P))
                    obtain ⟨gx, ge, hg⟩ := getV_shape t1.nodes (getM t1.nodes [di, ⟨#[107]⟩ ++ dk] 0)
                    rw [hg] at HG1
                    have HG2 : Hid (∀ W, But [] P W → Calls Tryz.prog 21 #[.pointer (some ⟨d2, 0, none⟩), .slice (some ⟨wr.heap.size, 0, none⟩) 2 2] W fun e w' => e = .returned (.tuple #[.string gx, .int .i64 ge]) ∧ But [] W w') := fun W hW => by
                      have := (HD2.out W ((hb46.trans hbP (by simp)).trans hW (by simp))).2.2 _ _ (hPO W hW)
                      rw [hg] at this
                      exact this
                    have HPP : Hid _ := hP
                    clear hP hBP hPO hg hbr2
                    go_upto_region 33 with fail
                    rw [← HPP.out]
                    go_wp2_with fail
                    refine Calls.mono HG1.out ?_
                    rintro e0 w21 ⟨rfl, hb21⟩
                    have HG3 : Hid _ := HG2.out w21 hb21
                    clear HG1 HG2
                    go_wp2_with fail
                    refine Calls.mono HG3.out ?_
                    rintro e0 w22 ⟨rfl, hb22⟩
                    have hb622 : But [] W6 w22 := (hbP.trans hb21 (by simp)).trans hb22 (by simp)
                    clear HG3 hb21 hb22 hbP
                    go_wp2_with fail
                    go_roundg (3 - (1 + 1))
                    case measure => omega
                    case rel => exact ⟨1 + 1, rfl, by omega, by go_num, hb622⟩
                  · go_wp2_with fail
                    go_roundg (4 - (i + 1))
                    case measure => have := HI3.out; omega
                    case rel => exact ⟨i + 1, rfl, (by have := HI3.out; omega), (by go_num), hbr2⟩
              · have hBa := hbr.blk hB8a (by simp)
                have hBb := hbr.blk hB8b (by simp)
                have y0 := hBa.cell (i := 0) rfl
                have y1 := hBa.cell (i := 1) rfl
                have y2 := hBa.cell (i := 2) rfl
                have y3 := hBa.cell (i := 3) rfl
                have n0 := hBb.cell (i := 0) rfl
                have n1 := hBb.cell (i := 1) rfl
                have n2 := hBb.cell (i := 2) rfl
                have n3 := hBb.cell (i := 3) rfl
                have HBF : Hid (But [] w wr) := HBw4.out.trans (hb46.trans hbr (by simp)) (by simp)
                clear hBa hBb hbr
                go_wp2_with fail
                go_ret
                exact ⟨rfl, HBF.out⟩

end Go.Proofs.YtkflkmmbakccoaaGreatDoor
