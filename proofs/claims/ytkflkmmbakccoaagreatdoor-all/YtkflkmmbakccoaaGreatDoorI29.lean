/- PARTS: R26, R28, L2, L4, L6. -/
import Derived.Test.YtkflkmmbakccoaaGreatDoorI27
import Derived.Test.YtkflkmmbakccoaaGreatDoorI28
import Derived.Test.YtkflkmmbakccoaaGreatDoorI18
import Derived.Test.YtkflkmmbakccoaaGreatDoorI11
import Derived.Test.YtkflkmmbakccoaaGreatDoorI12
import Derived.Test.YtkflkmmbakccoaaGreatDoorI19
import Derived.Test.YtkflkmmbakccoaaGreatDoorRows
import Derived.Test.YtkflkmmbakccoaaGreatDoorTie
import Derived.Test.YtkflkmmbakccoaaGreatDoorCards
import Derived.ProofKit
import Derived.LaidMore
import Derived.OpenShut
import Derived.Stop.Joined
import Derived.SevenTiedAt
import Derived.Deep.Slices
import Derived.SizedLaws

/- WALKS: package grafterref: whole. -/
namespace Go.Proofs.YtkflkmmbakccoaaGreatDoor
open Go.RowKit Go.Maps

/-- What the reading of a whole text leaves. -/
def RPostT (R : REnv) (w : World) (r : Res Unit) (e : Ending) (w' : World) : Prop :=
  e = .returned (.tuple #[]) ∧ Below R.base w w' ∧ match r with
  | .ok _ t' => ∃ K k nv mv rows names, RMem R K k t'.anchors 0 0 nv mv rows names w' ∧ RSt R.s ov0 t' rows names t'.anchors
  | .bad er pl => RBad R ov0 ps0 er pl w'

theorem linesFrom0 {R : REnv} (hE : REnvOk R) : (∀ l, R.L[0]? = some l → (nextM R.s ps0).ind = l.ind ∧ (nextM R.s ps0).k = l.at') ∧ (R.L.length = 0 → (nextM R.s ps0).k = R.s.size) := by
  rw [hE.L]
  unfold nextM ps0
  simp only
  by_cases hn : (nlGo R.s 0 0).2 < R.s.size
  · rw [linesFrom_cons R.s 0 (by omega) hn]
    refine ⟨fun l hl => ?_, fun hlen => ?_⟩
    · simp only [List.getElem?_cons_zero, Option.some.injEq] at hl
      subst hl
      exact ⟨rfl, rfl⟩
    · simp at hlen
  · rw [linesFrom_nil R.s 0 hn]
    refine ⟨fun l hl => by simp at hl, fun _ => ?_⟩
    have := (nlGo_le R.s 0 0 (by omega)).2
    omega

/-- Nothing is said: an error at the end. -/
theorem textM_none {R : REnv} (hE : REnvOk R) (h : R.L.length = 0) : textM R.s R.B ps0 = .bad 3 R.s.size := by
  have hk := (linesFrom0 hE).2 h
  have hz : kindAt R.s R.s.size = 0 := by rw [kindAt, if_neg (by omega)]
  have hsk : skipBl R.s R.s.size = R.s.size := skipBl_end R.s _ (by omega)
  unfold textM
  simp only
  by_cases hi : (nextM R.s ps0).ind = 0
  · rw [if_neg (by simp [hi])]
    have ha : aheadM R.s (nextM R.s ps0).k = false := by
      unfold aheadM
      simp only [hk, hsk, hz]
      simp
    have hf : flowM R.s R.B 21 1 (nextM R.s ps0) = .bad 3 R.s.size := by
      show flowS R.s R.B _ 1 (nextM R.s ps0) = _
      unfold flowS
      simp only [hk, hsk, hz]
      simp
    unfold topM
    rw [ha, hf]
    rfl
  · rw [if_pos hi, hk]

theorem wf0 (s : ByteArray) : WF s ps0 := ⟨by simp [ps0], by simp [ps0], by simp [ps0], by simp [ps0], (fun p hp => by cases hp), (fun i => by simp [ps0, heavyOf, NodeV.blank]), (fun i => by simp [ps0, highOf, NodeV.blank])⟩

theorem rst0 (s : ByteArray) : RSt s ov0 ps0 [] [] 0 := ⟨rfl, (fun i hi => by simp at hi), (fun i p hp => by cases hp), rfl, rfl, wf0 s⟩

/-- Behind all that is read: is there one more line? -/
def WhEnd (R : REnv) (r1 : Res Unit) (w wc : World) : Prop :=
  Below R.base w wc ∧ ((∃ er pl, r1 = .bad er pl ∧ RBad R ov0 ps0 er pl wc) ∨ (∃ u t1, r1 = .ok u t1 ∧ RGoodE R ov0 t1 wc))

/-- Does a block begin here? -/
def IsAhead (av : Bool) (s : ByteArray) (k : Nat) : Prop := aheadM s k = av

set_option maxRecDepth 20000 in
set_option maxHeartbeats 4000000 in
theorem rwhole_any {R : REnv} (hE : REnvOk R) (hd1 : 1 ≤ R.B.depth) {w : World} (hM : RMem R 0 0 0 0 0 (.slice none 0 0) (.slice none 0 0) [] [] w) :
    Calls Tryz.prog 82 #[.pointer (some ⟨R.b, 0, none⟩)] w fun e w' => RPostT R w (textM R.s R.B ps0) e w' := by
  have hsz := hE.s
  have hD := hE.d
  obtain ⟨la, lcap, hlve, hlc⟩ := own_shape hM.lines
  have d1 : w.cell? ⟨R.b, 1, none⟩ = some R.lv := hM.rd.cell rfl
  rw [hlve] at d1
  have d0 : w.cell? ⟨R.b, 0, none⟩ = some (.string R.s) := hM.rd.cell rfl
  have d3 : w.cell? ⟨R.b, 3, none⟩ = some (.int .i64 0) := hM.rd.cell rfl
  have g3 := hM.rd.free 3
  by_cases hlen : R.L.length = 0
  · have HT : Hid _ := textM_none hE hlen
    have hlz : ((R.L.length : Int) == 0) = true := by simp [hlen]
    clear hlen
    go_enter Tryz.func82, Tryz.ntmps82
    go_wp2_with fail
    refine (rwrong_any hM 3 R.s.size).mono ?_
    rintro e w1 ⟨rfl, h1, hb1⟩
    go_wp2_with fail
    first | (refine bodyPost_ret (results_none rfl _ _ _) rfl ?_) | go_end0
    refine ⟨rfl, hM.belowB hb1, ?_⟩
    rw [HT.out]
    exact (rst0 R.s).bad (t := ps0) h1 (by simp)
  · have hpos : 0 < R.L.length := by omega
    obtain ⟨l, hl⟩ : ∃ l, R.L[0]? = some l := ⟨_, List.getElem?_eq_getElem hpos⟩
    have hL := hE.line hl
    have ha := hL.at'
    have hen := hL.en
    obtain ⟨hx1, hx2⟩ := (linesFrom0 hE).1 l hl
    have hnb := hE.nb hl
    obtain ⟨lb, lcap', e, _, l0, l1, _⟩ := ownsLine hM.lines 0 hpos
    obtain ⟨rfl, rfl⟩ : la = some ⟨lb, 0, none⟩ ∧ lcap = lcap' := by have := hlve.symm.trans e; simpa using this
    have hle : R.L[0] = l := (List.getElem?_eq_some_iff.1 hl).2
    rw [hle] at l0 l1
    simp only [Nat.zero_mul, Nat.zero_add] at l0 l1
    have hlz : ((R.L.length : Int) == 0) = false := beq_eq_false_iff_ne.2 (by omega)
    have HL : Hid _ := hl
    have HX1 : Hid _ := hx1
    have HX2 : Hid _ := hx2
    have HNB : Hid _ := hnb
    have HMW : Hid _ := hM
    have HLVE : Hid _ := hlve
    have hB := hM.rd.set 3 (.int .i64 (l.at' : Int))
    have hcz : (rcells R 0 0 (.slice none 0 0) (.slice none 0 0) 0 0 0).setIfInBounds 3 (.int .i64 (l.at' : Int)) = rcells R 0 l.at' (.slice none 0 0) (.slice none 0 0) 0 0 0 := rcells_at R 0 0 l.at' _ _ 0 0 0
    rw [hcz] at hB
    have hb0 : But [R.b] w (w.setCell ⟨R.b, 3, none⟩ (.int .i64 (l.at' : Int))) := (But.refl _ _).setCell (by simp) _
    have h1 := hM.turn hb0 hB
    clear hlen hl hx1 hx2 hnb hM hlve e hB hcz hle
    go_enter Tryz.func82, Tryz.ntmps82
    go_upto_region 3 with fail
    refine name_world fun W hW => ?_
    rw [← hW.out] at h1 hb0
    clear hW d0 d1 d3 g3 l0 l1
    obtain ⟨lb', lcap', e, _, l0, l1, _⟩ := ownsLine h1.lines 0 hpos
    obtain ⟨rfl, rfl⟩ : lb = lb' ∧ lcap = lcap' := by have := HLVE.out.symm.trans e; simpa using this
    have hle : R.L[0] = l := (List.getElem?_eq_some_iff.1 HL.out).2
    rw [hle] at l0 l1
    simp only [Nat.zero_mul, Nat.zero_add] at l0 l1
    have e1 : W.cell? ⟨R.b, 1, none⟩ = some R.lv := h1.rd.cell rfl
    rw [HLVE.out] at e1
    have e3 : W.cell? ⟨R.b, 3, none⟩ = some (.int .i64 (l.at' : Int)) := h1.rd.cell rfl
    clear e hle l1
    by_cases hin : 0 < l.ind
    · have HT : Hid (textM R.s R.B ps0 = .bad 3 l.at') := by
        unfold Hid textM
        simp only
        rw [if_pos (by rw [HX1.out]; omega), HX2.out]
      go_wp2_with fail
      refine (rwrong_any h1 3 l.at').mono ?_
      rintro e w1 ⟨rfl, h2, hb1⟩
      go_wp2_with fail
      first | (refine bodyPost_ret (results_none rfl _ _ _) rfl ?_) | go_end0
      refine ⟨rfl, HMW.out.belowB (hb0.trans hb1 (by simp)), ?_⟩
      rw [HT.out]
      exact (rst0 R.s).bad (t := ps0) h2 (by simp)
    · have HT : Hid (textM R.s R.B ps0 = (topM R.s R.B (nextM R.s ps0)).bind fun _ t1 => if kindAt R.s (skipBl R.s t1.k) = 0 then .ok () { t1 with k := skipBl R.s t1.k } else .bad 3 (skipBl R.s t1.k)) := by
        unfold Hid textM
        simp only
        rw [if_neg (by rw [HX1.out]; omega)]
      have hSN : RSt R.s ov0 (nextM R.s ps0) [] [] 0 := (rst0 R.s).goto rfl rfl rfl (by rw [HX2.out]; omega)
      have HSN : Hid _ := hSN
      clear hSN
      go_wp2_with fail
      refine (rpairs_any hE h1 HL.out rfl).mono ?_
      rintro e w2 ⟨rfl, hb2⟩
      have h2 := h1.still hb2
      have HB2 : Hid (Below R.base w w2) := HMW.out.belowB (hb0.trans hb2 (by simp))
      obtain ⟨pb, HPB⟩ : ∃ pb : Bool, Hid (pairsM R.s l.at' = pb) := ⟨_, (rfl : pairsM R.s l.at' = pairsM R.s l.at')⟩
      rw [HPB.out]
      have d0 : w2.cell? ⟨R.b, 0, none⟩ = some (.string R.s) := h2.rd.cell rfl
      have d3 : w2.cell? ⟨R.b, 3, none⟩ = some (.int .i64 (l.at' : Int)) := h2.rd.cell rfl
      have hlt : l.at' < R.s.size := by omega
      have HAH : Hid (aheadM R.s l.at' = (pb || decide (kindAt R.s l.at' = 4))) := by unfold Hid; rw [← HPB.out]; exact aheadM_pairs R.s l.at' HNB.out
      have HK4 : Hid (kindAt R.s l.at' = 4 ↔ (R.s[l.at'].toNat : Int) = 45) := by unfold Hid; rw [kindAt, if_pos hlt, (kindB_tab _).2.1, byteAt_lt R.s l.at' hlt]
      clear h1 hb0 hb2 e1 e3 l0 HPB
      go_upto_region 6 with fail
      go_cut [55] from 41 to 54 (fun v wc => ∃ av : Bool, v = .bool av ∧ IsAhead av R.s l.at' ∧ ∃ m, wc = w2.drewN m)
      case first =>
        cases pb with
        | true =>
          go_quiet (fail)
          go_wp2_with fail
          go_meet
          case rel => exact ⟨_, rfl, by unfold IsAhead; rw [HAH.out]; rfl, _, rfl⟩
        | false =>
          by_cases h45 : (R.s[l.at'].toNat : Int) = 45
          · have HF : Hid (aheadM R.s l.at' = true) := by unfold Hid; rw [HAH.out, decide_eq_true (HK4.out.2 h45)]; rfl
            have hb45 : ((R.s[l.at'].toNat : Int) == 45) = true := by simp [h45]
            clear h45
            go_quiet (fail)
            go_wp2_with fail
            go_meet
            case rel => exact ⟨_, rfl, by unfold IsAhead; rw [HF.out], _, rfl⟩
          · have HF : Hid (aheadM R.s l.at' = false) := by unfold Hid; rw [HAH.out, decide_eq_false (fun hc => h45 (HK4.out.1 hc))]; rfl
            have hb45 : ((R.s[l.at'].toNat : Int) == 45) = false := by simp; omega
            clear h45
            go_quiet (fail)
            go_wp2_with fail
            go_meet
            case rel => exact ⟨_, rfl, by unfold IsAhead; rw [HF.out], _, rfl⟩
      case rest =>
        obtain ⟨W3, hW3⟩ : ∃ W3, W3 = wc := ⟨wc, rfl⟩
        subst hW3
        obtain ⟨av, rfl, HAV, m, hwc⟩ := hcut
        have h3 := h2.still ((But.refl [] w2).drewN m)
        rw [← hwc] at h3
        have HB3 : Hid (Below R.base w W3) := by unfold Hid; rw [hwc]; exact HB2.out.trans (h2.belowB ((But.refl [R.b] w2).drewN m))
        have hAt : RAtLine R ov0 0 (nextM R.s ps0) W3 := ⟨_, _, [], [], by rw [HX2.out]; exact h3, HSN.out, l, HL.out, HX1.out, HX2.out⟩
        have HAT : Hid (RAtLine R ov0 0 (nextM R.s ps0) W3) := hAt
        have HAV' : Hid (aheadM R.s (nextM R.s ps0).k = av) := by unfold Hid; rw [HX2.out]; exact HAV
        clear hwc h2 h3 hAt d0 d3 HAV HAH HK4 HB2
        go_upto_if 55 with fail
        go_cut [] from 56 to 64 (fun wc => WhEnd R (topM R.s R.B (nextM R.s ps0)) w wc)
        case first =>
          cases av with
          | true =>
            have HTOP : Hid (topM R.s R.B (nextM R.s ps0) = (beginM R.B 1 (nextM R.s ps0)).bind fun id t1 => blockM R.s R.B 21 id 0 t1) := by unfold Hid topM; rw [HAV'.out]; rfl
            have HBG : Hid _ := rbegin_good hE (RAtLine.good hE HAT.out) 1
            go_wp2_with fail
            refine Calls.mono HBG.out ?_
            rintro e w4 ⟨rfl, hb4, hp4⟩
            have HB4 : Hid (Below R.base w w4) := HB3.out.trans hb4
            cases hm : beginM R.B 1 (nextM R.s ps0) with
            | bad er pl =>
              rw [hm] at hp4
              obtain ⟨he, nv4, mv4, rows4, names4, hM4, hA4, hlt4, hov4⟩ := hp4
              have HER : Hid _ := rblock_err hM4 he (by rw [HX2.out]; omega) (nextM R.s ps0).nodes.length hlt4 0 1
              have HA4 : Hid (RBadAt ov0 ps0 er 0 rows4 names4) := hA4
              have HM : Hid (topM R.s R.B (nextM R.s ps0) = .bad er pl) := by unfold Hid; rw [HTOP.out, hm]; rfl
              clear hm hM4 hA4 hov4
              go_wp2_with fail
              refine Calls.mono HER.out ?_
              rintro e w5 ⟨rfl, hb5, r', hM5⟩
              go_wp2_with fail
              go_meet
              case rel => exact ⟨HB4.out.trans hb5, .inl ⟨er, pl, HM.out, HA4.out.set (i := (nextM R.s ps0).nodes.length) rfl hM5⟩⟩
            | ok id t1 =>
              rw [hm] at hp4
              obtain ⟨rfl, hG4, hov4, hbl4⟩ := hp4
              obtain ⟨hlvd, _, ht1, _, _, s1⟩ := beginM_ok hE.n HSN.out.wf hm
              have hAt4 : RAtLine R ov0 0 t1 w4 := by
                obtain ⟨nv4, mv4, rows4, names4, hM4, hS4, _⟩ := hG4
                exact ⟨nv4, mv4, rows4, names4, hM4, hS4, l, HL.out, by rw [ht1]; exact HX1.out, by rw [ht1]; exact HX2.out⟩
              have HBK : Hid _ := rblock_any hE 21 0 (by omega) (by omega) (by omega) ov0 0 t1 w4 (nextM R.s ps0).nodes.length 0 1 rfl rfl hAt4 rfl hbl4
              have HM1 : Hid (topM R.s R.B (nextM R.s ps0) = blockM R.s R.B 21 (nextM R.s ps0).nodes.length 0 t1) := by unfold Hid; rw [HTOP.out, hm]; rfl
              have HST : Hid _ := s1
              clear hm hG4 hov4 hbl4 hAt4 ht1 s1
              go_wp2_with fail
              refine Calls.mono HBK.out ?_
              rintro e w5 ⟨rfl, hb5, hp5⟩
              have HF : Hid (WhEnd R (topM R.s R.B (nextM R.s ps0)) w w5) := by
                refine ⟨HB4.out.trans hb5, ?_⟩
                cases hm : blockM R.s R.B 21 (nextM R.s ps0).nodes.length 0 t1 with
                | bad er pl =>
                  simp only [hm] at hp5
                  exact .inl ⟨er, pl, by rw [HM1.out, hm], RBad.from (t := ps0) hp5 (by simp [ps0]) (HST.out.nm)⟩
                | ok u t2 =>
                  simp only [hm] at hp5
                  exact .inr ⟨u, t2, by rw [HM1.out, hm], hp5⟩
              clear hp5
              go_wp2_with fail
              go_meet
              case rel => exact HF.out
          | false =>
            have HTOP : Hid (topM R.s R.B (nextM R.s ps0) = (flowM R.s R.B 21 1 (nextM R.s ps0)).bind fun _ t1 => endLineM R.s t1) := by unfold Hid topM; rw [HAV'.out]; rfl
            have HFL : Hid _ := rflow_any hE 21 1 (by omega) (by omega) (by omega) ov0 0 (nextM R.s ps0) W3 (RAtLine.good hE HAT.out)
            go_wp2_with fail
            refine Calls.mono HFL.out ?_
            rintro e w4 ⟨hb4, hp4⟩
            have HB4 : Hid (Below R.base w w4) := HB3.out.trans hb4
            cases hm : flowM R.s R.B 21 1 (nextM R.s ps0) with
            | bad er pl =>
              simp only [hm] at hp4
              obtain ⟨⟨i, rfl⟩, hg⟩ := hp4
              have HM : Hid (topM R.s R.B (nextM R.s ps0) = .bad er pl) := by unfold Hid; rw [HTOP.out, hm]; rfl
              have HBD : Hid (RBad R ov0 ps0 er pl w4) := hg
              obtain ⟨he, _, _, _, _, _, _, _, hM5⟩ := hg.any
              clear hm hg
              go_wp2_with fail
              refine (rleave_err hM5 he).mono ?_
              rintro e w5 ⟨rfl, hw5⟩
              have hw6 := hw5.symm
              clear hw5
              subst hw6
              go_wp2_with fail
              go_meet
              case rel => exact ⟨HB4.out, .inl ⟨er, pl, HM.out, HBD.out⟩⟩
            | ok id t1 =>
              simp only [hm] at hp4
              obtain ⟨rfl, hg⟩ := hp4
              have s1 := (flowM_ok hD hE.n hE.a 21 1 (nextM R.s ps0) t1 id HSN.out.wf (by omega) hm).1
              have HST : Hid _ := s1
              have HM1 : Hid (topM R.s R.B (nextM R.s ps0) = endLineM R.s t1) := by unfold Hid; rw [HTOP.out, hm]; rfl
              clear hm s1
              go_wp2_with fail
              refine (rleave_any hE hg).mono ?_
              rintro e w5 ⟨rfl, hb5, hp5⟩
              have HF : Hid (WhEnd R (topM R.s R.B (nextM R.s ps0)) w w5) := by
                refine ⟨HB4.out.trans hb5, ?_⟩
                cases hm : endLineM R.s t1 with
                | bad er pl =>
                  simp only [hm] at hp5
                  exact .inl ⟨er, pl, by rw [HM1.out, hm], RBad.from (t := ps0) hp5 (by simp [ps0]) (HST.out.nm)⟩
                | ok u t2 =>
                  simp only [hm] at hp5
                  exact .inr ⟨u, t2, by rw [HM1.out, hm], hp5⟩
              clear hp5
              go_wp2_with fail
              go_meet
              case rel => exact HF.out
        case rest =>
          obtain ⟨W5, hW5⟩ : ∃ W5, W5 = wc := ⟨wc, rfl⟩
          subst hW5
          obtain ⟨hb5, ⟨er, pl, hr1, hbad⟩ | ⟨u, t1, hr1, hG⟩⟩ := hcut
          · have HM : Hid (textM R.s R.B ps0 = .bad er pl) := by unfold Hid; rw [HT.out, hr1]; rfl
            have HBD : Hid (RBad R ov0 ps0 er pl W5) := hbad
            obtain ⟨he, _, _, _, _, _, _, _, hM5⟩ := hbad.any
            have d11 : W5.cell? ⟨R.b, 11, none⟩ = some (.int .i64 (er : Int)) := hM5.rd.cell rfl
            have heb : ((er : Int) == 0) = false := by simp; omega
            clear hr1 hbad HT
            go_upto_region 11 with fail
            go_quiet (fail)
            have hbq : Below R.base W5 (W5.drewN nq) := hM5.belowB ((But.refl [R.b] W5).drewN nq)
            obtain ⟨he2, K2, k2, an2, nv2, mv2, rows2, names2, hM2, q1, q2, q3, q4⟩ := HBD.out
            have HBD2 : Hid (RBad R ov0 ps0 er pl (W5.drewN nq)) := ⟨he2, K2, k2, an2, nv2, mv2, rows2, names2, hM2.still ((But.refl [] W5).drewN nq), q1, q2, q3, q4⟩
            generalize W5.drewN nq = W6 at *
            clear q1 q2 q3 q4 hM2 he2
            go_wp2_with fail
            go_end0
            refine ⟨rfl, hb5.trans hbq, ?_⟩
            rw [HM.out]
            exact HBD2.out
          · obtain ⟨K5, k5, nv5, mv5, rows5, names5, hM5, hS5, hA5⟩ := hG.out
            have HSK : Hid (skipBl R.s t1.k = t1.k) := AtG.skip hE (K := K5) (k := k5) hA5
            have d11 : W5.cell? ⟨R.b, 11, none⟩ = some (.int .i64 0) := hM5.rd.cell rfl
            have d2 : W5.cell? ⟨R.b, 2, none⟩ = some (.int .i64 (K5 : Int)) := hM5.rd.cell rfl
            have d1 : W5.cell? ⟨R.b, 1, none⟩ = some R.lv := hM5.rd.cell rfl
            rw [HLVE.out] at d1
            have HS5 : Hid _ := hS5
            have HR1 : Hid _ := hr1
            clear hS5 hG hr1
            rcases hA5 with ⟨rfl, l5, hl5, hi5, hk5⟩ | ⟨hk5, hK5⟩
            · have hK5 : K5 < R.L.length := (List.getElem?_eq_some_iff.1 hl5).1
              have hL5 := hE.line hl5
              have := hL5.at'
              have := hL5.en
              have HM : Hid (textM R.s R.B ps0 = .bad 3 t1.k) := by
                unfold Hid
                rw [HT.out, HR1.out]
                simp only [Res.bind_ok]
                rw [HSK.out, if_neg]
                rw [kindAt, if_pos (by omega)]
                exact (kindB_tab _).2.2.2.2.2.2.2.2.2.2
              have hdk : decide ((K5 : Int) < (R.L.length : Int)) = true := by simp; omega
              clear hl5 hi5 hk5 HT
              go_upto_region 11 with fail
              go_quiet (fail)
              have h6 := hM5.still ((But.refl [] W5).drewN nq)
              have hbq : Below R.base W5 (W5.drewN nq) := hM5.belowB ((But.refl [R.b] W5).drewN nq)
              generalize W5.drewN nq = W6 at *
              have d3 : W6.cell? ⟨R.b, 3, none⟩ = some (.int .i64 (t1.k : Int)) := h6.rd.cell rfl
              go_wp2_with fail
              refine (rwrong_any h6 3 t1.k).mono ?_
              rintro e w7 ⟨rfl, h7, hb7⟩
              go_wp2_with fail
              go_end0
              refine ⟨rfl, (hb5.trans hbq).trans (h6.belowB hb7), ?_⟩
              rw [HM.out]
              exact RBad.from (t := ps0) (HS5.out.bad h7 (by simp)) (by simp [ps0]) (by have := HS5.out.wf.names; simp [ps0]; omega)
            · have HM : Hid (textM R.s R.B ps0 = .ok () t1) := by
                unfold Hid
                rw [HT.out, HR1.out]
                simp only [Res.bind_ok]
                rw [HSK.out, if_pos]
                rw [hk5, kindAt, if_neg (by omega)]
              have hdk : decide ((K5 : Int) < (R.L.length : Int)) = false := by simp; omega
              clear hk5 HT
              go_upto_region 11 with fail
              go_quiet (fail)
              have h6 := hM5.still ((But.refl [] W5).drewN nq)
              have hbq : Below R.base W5 (W5.drewN nq) := hM5.belowB ((But.refl [R.b] W5).drewN nq)
              generalize W5.drewN nq = W6 at *
              go_wp2_with fail
              go_end0
              refine ⟨rfl, hb5.trans hbq, ?_⟩
              rw [HM.out]
              exact ⟨K5, k5, nv5, mv5, rows5, names5, h6, HS5.out⟩

end Go.Proofs.YtkflkmmbakccoaaGreatDoor

/- WALKS: package grafterref: Load. -/
namespace Go.Proofs.YtkflkmmbakccoaaGreatDoor
open Go.RowKit Go.Maps

/-- What Load leaves. -/
def RLoadPost (s : ByteArray) (B : Bud) (w : World) (r : Res Unit) (e : Ending) (w' : World) : Prop :=
  match r with
  | .ok _ t => ∃ R K k nv mv rows names, e = .returned (.tuple #[.pointer (some ⟨R.b, 0, none⟩), .int .i64 0, .int .i64 0]) ∧ R.s = s ∧ R.B = B ∧ RMem R K k t.anchors 0 0 nv mv rows names w' ∧ RSt R.s ov0 t rows names t.anchors ∧ 0 < rows.length ∧ w.heap.size ≤ R.base ∧ But [] w w'
  | .bad er pl => e = .returned (.tuple #[.pointer none, .int .i64 (er : Int), .int .i64 (pl : Int)]) ∧ But [] w w' ∧ er ≠ 0

theorem But.of_below {w W W' : World} {B : Nat} (h : But [] w W) (k : Below B W W') (hB : w.heap.size ≤ B) : But [] w W' :=
  ⟨k.os.trans h.os, k.tape.trans h.tape, k.output.trans h.output, Nat.le_trans h.size k.size, fun i hi hn => by rw [k.block i (by omega), h.block i hi hn]⟩

theorem Blk.of_below {W W' : World} {B b : Nat} {cs : Array Value} {T : TypeId} (h : Blk W b cs T) (k : Below B W W') (hb : b < B) : Blk W' b cs T := by
  unfold Blk at *
  rw [k.block b hb]
  exact h

/-- The Reader is made. -/
def LoadMid (s : ByteArray) (B : Bud) (w : World) (R : REnv) (wc : World) : Prop :=
  R.s = s ∧ R.B = B ∧ R.L = linesFrom s 0 ∧ w.heap.size ≤ R.base ∧ RMem R 0 0 0 0 0 (.slice none 0 0) (.slice none 0 0) [] [] wc ∧ But [] w wc ∧ w.heap.size < R.base ∧ Blk wc w.heap.size #[.int .i64 B.depth, .int .i64 B.nodes, .int .i64 B.anchors, .int .i64 B.weight] 29

theorem loadMid_mk {s : ByteArray} {B : Bud} {w w1 w2 w3 : World} {v : Value} (hb : But [] w w1) (hB1 : Blk w1 w.heap.size #[.int .i64 B.depth, .int .i64 B.nodes, .int .i64 B.anchors, .int .i64 B.weight] 29) (hown : w2.ownsRow w1.heap.size 158 3 v (linesFrom s 0).length ((linesFrom s 0).flatMap LineV.cells)) (hb2 : But [] w1 w2)
    (h3 : w3 = w2.alloc (.cells #[.string s, v, .int .i64 0, .int .i64 0, .int .i64 B.depth, .int .i64 B.nodes, .int .i64 B.anchors, .int .i64 B.weight, .slice none 0 0, .slice none 0 0, .int .i64 0, .int .i64 0, .int .i64 0] 114)) : LoadMid s B w ⟨s, B, w2.heap.size, w1.heap.size, v, linesFrom s 0⟩ w3 := by
  have hb3 : But [] w2 w3 := by rw [h3]; exact alloc_but _ _
  refine ⟨rfl, rfl, rfl, hb.size, ⟨?_, ownsRow_but hown hb3 (by simp), ⟨rfl, .inl ⟨rfl, rfl⟩⟩, (fun r hr => by cases hr), ⟨rfl, .inl ⟨rfl, rfl⟩⟩, (fun i j r q x hi => by simp at hi), ?_, hb2.size⟩, (hb.trans hb2 (by simp)).trans hb3 (by simp), hB1.lt, hb3.blk (hb2.blk hB1 (by simp)) (by simp)⟩
  · rw [h3]; exact blk_new _ _ _
  · exact Nat.le_trans hb2.size hb3.size

set_option maxRecDepth 20000 in
set_option maxHeartbeats 2000000 in
theorem rload_any (s : ByteArray) (B : Bud) (hsz : s.size ≤ 9223372036854775807) (w : World) :
    Calls Tryz.prog 52 #[.string s, budV B] w fun e w' => RLoadPost s B w (loadM s B) e w' := by
  go_enter Tryz.func52, Tryz.ntmps52
  go_wp2_with fail
  have hb0 : But [] w (w.alloc (.cells #[.int .i64 B.depth, .int .i64 B.nodes, .int .i64 B.anchors, .int .i64 B.weight] 29)) := alloc_but _ _
  have hB0 : Blk (w.alloc (.cells #[.int .i64 B.depth, .int .i64 B.nodes, .int .i64 B.anchors, .int .i64 B.weight] 29)) w.heap.size #[.int .i64 B.depth, .int .i64 B.nodes, .int .i64 B.anchors, .int .i64 B.weight] 29 := blk_new _ _ _
  refine (rBudget_any B _).mono ?_
  rintro e w1 ⟨rfl, hb1⟩
  have hB1 := hb1.blk hB0 (by simp)
  have hb1' : But [] w w1 := hb0.trans hb1 (by simp)
  clear hb0 hB0 hb1
  by_cases hok : okBud B = true
  · by_cases hlong : 1000 < s.size
    · have HM : Hid (loadM s B = .bad 2 0) := by unfold Hid loadM; rw [if_neg (by simp [hok]), if_pos hlong]
      go_wp2_with fail
      go_ret3
      rw [HM.out]
      exact ⟨rfl, hb1', by omega⟩
    · have HM0 : Hid (loadM s B = (textM s B ps0).bind fun u t => if B.weight < (heavyOf t.nodes 0 : Int) then .bad 9 0 else .ok u t) := by unfold Hid loadM; rw [if_neg (by simp [hok]), if_neg hlong]
      have hbd : (1 ≤ B.depth ∧ B.depth ≤ 20) ∧ (1 ≤ B.nodes ∧ B.nodes ≤ 500) ∧ (0 ≤ B.anchors ∧ B.anchors ≤ 100) ∧ (1 ≤ B.weight ∧ B.weight ≤ 1000000000000) := by
        unfold okBud at hok; simp at hok; omega
      have hs : s.size ≤ 1000 := by omega
      have l0 := hB1.cell (i := 0) rfl
      have l1 := hB1.cell (i := 1) rfl
      have l2 := hB1.cell (i := 2) rfl
      have l3 := hB1.cell (i := 3) rfl
      have HB1 : Hid (Blk w1.drew w.heap.size #[.int .i64 B.depth, .int .i64 B.nodes, .int .i64 B.anchors, .int .i64 B.weight] 29) := hB1.drew
      have HBW : Hid (But [] w w1.drew) := hb1'.drew
      clear hlong hB1 hb1'
      go_upto_region 6 with fail
      go_cut [8] from 16 to 21 (fun v wc => ∃ R : REnv, v = .pointer (some ⟨R.b, 0, none⟩) ∧ LoadMid s B w R wc)
      case first =>
        go_region_with ((go_at_call 81; refine (lines_any s hs _).mono ?_; rintro e w2 ⟨v, rfl, hown, hb2⟩; obtain ⟨la, ln, lc, rfl⟩ := own_slice hown; have m0 := (But.blk hb2 HB1.out (by simp)).cell (i := 0) rfl; have m1 := (But.blk hb2 HB1.out (by simp)).cell (i := 1) rfl; have m2 := (But.blk hb2 HB1.out (by simp)).cell (i := 2) rfl; have m3 := (But.blk hb2 HB1.out (by simp)).cell (i := 3) rfl))
        all_goals
          go_wp2_with fail
          go_meet
          case rel => exact ⟨_, rfl, loadMid_mk (w1 := w1.drew) HBW.out HB1.out hown hb2 rfl⟩
      case rest =>
        obtain ⟨W, hW⟩ : ∃ W, W = wc := ⟨wc, rfl⟩
        subst hW
        obtain ⟨R, rfl, hRs, hRB, hRL, hRb, hRM, hbW, hRlt, hBW⟩ := hcut
        subst hRs hRB
        have hE : REnvOk R := ⟨hs, hbd.1.2, hbd.2.1.2, hbd.2.2.1.2, hRL⟩
        have HE : Hid _ := hE
        have HRL : Hid _ := hRL
        have HWH : Hid _ := rwhole_any hE hbd.1.1 hRM
        clear l0 l1 l2 l3 HB1 HBW hRL hE
        go_wp2_with fail
        refine Calls.mono HWH.out ?_
        rintro e w3 ⟨rfl, hb3, hp3⟩
        have hbw3 : But [] w w3 := But.of_below hbW hb3 hRb
        have hB3 : Blk w3 w.heap.size #[.int .i64 R.B.depth, .int .i64 R.B.nodes, .int .i64 R.B.anchors, .int .i64 R.B.weight] 29 := Blk.of_below hBW hb3 hRlt
        clear HWH hRM
        cases hm : textM R.s R.B ps0 with
        | bad er pl =>
          simp only [hm] at hp3
          have HM : Hid (loadM R.s R.B = .bad er pl) := by unfold Hid; rw [HM0.out, hm]; rfl
          obtain ⟨he, K3, k3, an3, nv3, mv3, rows3, names3, hM3, _⟩ := hp3
          have d11 : w3.cell? ⟨R.b, 11, none⟩ = some (.int .i64 (er : Int)) := hM3.rd.cell rfl
          have d12 : w3.cell? ⟨R.b, 12, none⟩ = some (.int .i64 (pl : Int)) := hM3.rd.cell rfl
          have hne : ((er : Int) != 0) = true := by simp; omega
          clear hm HM0 hM3
          go_upto_region 9 with fail
          go_quiet (fail)
          have hbq : But [] w (w3.drewN nq) := hbw3.drewN nq
          generalize w3.drewN nq = W4 at *
          go_wp2_with fail
          go_ret3
          rw [HM.out]
          exact ⟨rfl, hbq, he⟩
        | ok u t =>
          simp only [hm] at hp3
          have hpos := textM_pos hbd.1.2 hbd.2.1.2 hbd.2.2.1.2 hm
          have HM1 : Hid (loadM R.s R.B = if R.B.weight < (heavyOf t.nodes 0 : Int) then .bad 9 0 else .ok u t) := by unfold Hid; rw [HM0.out, hm]; rfl
          obtain ⟨K3, k3, nv3, mv3, rows3, names3, hM3, hS3⟩ := hp3
          have hrow : 0 < rows3.length := by rw [hS3.len]; exact hpos
          obtain ⟨nb, cap, rfl, hcap, hcn⟩ := hM3.node 0 hrow
          have d5 := (hcn 5 (by omega)).1
          simp only [RRow.cells, List.getElem?_cons_succ, List.getElem?_cons_zero, Nat.zero_mul, Nat.zero_add] at d5
          have hhv : (rows3[0]).n.heavy = heavyOf t.nodes 0 := by
            have h0 := (hS3.shut 0 hrow rfl).1
            simp [heavyOf, List.getD, h0]
          rw [hhv] at d5
          have d11 : w3.cell? ⟨R.b, 11, none⟩ = some (.int .i64 0) := hM3.rd.cell rfl
          have d8 : w3.cell? ⟨R.b, 8, none⟩ = some (.slice (some ⟨nb, 0, none⟩) rows3.length cap) := hM3.rd.cell rfl
          have m3 := hB3.cell (i := 3) rfl
          have HS3 : Hid _ := hS3
          have HM3 : Hid _ := hM3
          clear hm HM0 hcn hhv hS3 hM3
          generalize heavyOf t.nodes 0 = H at *
          by_cases hwt : R.B.weight < (H : Int)
          · have HM : Hid _ := HM1.out.trans (if_pos hwt)
            clear HM1
            go_upto_region 10 with fail
            go_quiet (fail)
            have hbq : But [] w (w3.drewN nq) := hbw3.drewN nq
            generalize w3.drewN nq = W4 at *
            go_wp2_with fail
            go_ret3
            rw [HM.out]
            exact ⟨rfl, hbq, by omega⟩
          · have HM : Hid _ := HM1.out.trans (if_neg hwt)
            clear HM1
            go_upto_region 10 with fail
            go_quiet (fail)
            have hbq : But [] w (w3.drewN nq) := hbw3.drewN nq
            have hM4 := HM3.out.still ((But.refl [] w3).drewN nq)
            generalize w3.drewN nq = W4 at *
            go_wp2_with fail
            go_ret3
            rw [HM.out]
            exact ⟨R, K3, k3, _, mv3, rows3, names3, rfl, rfl, rfl, hM4, HS3.out, hrow, hRb, hbq⟩
  · have hok' : okBud B = false := by simpa using hok
    have HM : Hid (loadM s B = .bad 1 0) := by unfold Hid loadM; rw [if_pos hok']
    go_wp2_with fail
    go_ret3
    rw [HM.out]
    exact ⟨rfl, hb1', by omega⟩

end Go.Proofs.YtkflkmmbakccoaaGreatDoor

/- WALKS: package grafterlaw: loads. -/
namespace Go.Proofs.YtkflkmmbakccoaaGreatDoor
open Go.RowKit Go.Maps

set_option maxRecDepth 20000 in
set_option maxHeartbeats 2000000 in
theorem lloads_any {w0 : World} {wb : Nat} {ps : List (Nat × Nat)} {lv : Value} {w : World} (hW : WOk w0 wb ps lv w) (s : ByteArray) (hs : s.size ≤ 9223372036854775807) (B : Bud) (hn : ps.length + 1 ≤ 8000000000000) :
    Calls Tryz.prog 34 #[.pointer (some ⟨wb, 0, none⟩), .string s, budV B] w fun e w' => LPost w0 wb (ps.length + loadN s B) e w' := by
  obtain ⟨i0, hi0, hz0, hz1, hz2⟩ := info_parts infoPair
  have hb0 : But [] w (w.alloc (.cells #[.int .i64 B.depth, .int .i64 B.nodes, .int .i64 B.anchors, .int .i64 B.weight] 29)) := alloc_but _ _
  have hB0 : Blk (w.alloc (.cells #[.int .i64 B.depth, .int .i64 B.nodes, .int .i64 B.anchors, .int .i64 B.weight] 29)) w.heap.size #[.int .i64 B.depth, .int .i64 B.nodes, .int .i64 B.anchors, .int .i64 B.weight] 29 := blk_new _ _ _
  have HL1 : Hid _ := load_any s B hs (w.alloc (.cells #[.int .i64 B.depth, .int .i64 B.nodes, .int .i64 B.anchors, .int .i64 B.weight] 29))
  go_enter Tryz.func34, Tryz.ntmps34
  go_wp2_with fail
  refine Calls.mono HL1.out ?_
  intro e w1 hp1
  cases hm : loadM s B with
  | bad er pl =>
    rw [hm] at hp1
    obtain ⟨rfl, hb1, he⟩ := hp1
    have hB1 := hb1.blk hB0 (by simp)
    have l0 := hB1.cell (i := 0) rfl
    have l1 := hB1.cell (i := 1) rfl
    have l2 := hB1.cell (i := 2) rfl
    have l3 := hB1.cell (i := 3) rfl
    have HL2 : Hid _ := rload_any s B hs w1
    have HM : Hid (loadM s B = .bad er pl) := hm
    have hb01 := hb0.trans hb1 (by simp)
    clear hm HL1 hB0 hB1 hb0 hb1
    go_wp2_with fail
    refine Calls.mono HL2.out ?_
    intro e w2 hp2
    rw [HM.out] at hp2
    obtain ⟨rfl, hb2, _⟩ := hp2
    have hb02 := hb01.trans hb2 (by simp)
    clear HL2 l0 l1 l2 l3
    go_wp2_with (go_at_call 40; refine (lnum_any _ _).mono ?_; rintro e w' ⟨rfl, hww⟩; have hww2 := hww.symm; clear hww; subst hww2)
    go_ret
    exact ⟨rfl, ps, lv, hW.still hb02, by unfold loadN; rw [HM.out]; simp [Res.isOk]⟩
  | ok u t =>
    rw [hm] at hp1
    obtain ⟨E, nv, rows, d, rfl, hEs, hEB, hI, hrow, hd, hds, hEb, hb1⟩ := hp1
    have hB1 := hb1.blk hB0 (by simp)
    have l0 := hB1.cell (i := 0) rfl
    have l1 := hB1.cell (i := 1) rfl
    have l2 := hB1.cell (i := 2) rfl
    have l3 := hB1.cell (i := 3) rfl
    have HL2 : Hid _ := rload_any s B hs w1
    have HM : Hid (loadM s B = .ok u t) := hm
    have hb01 := hb0.trans hb1 (by simp)
    clear hm HL1 hB0 hB1 hb0 hb1 hEs hEB hds hEb
    go_wp2_with fail
    refine Calls.mono HL2.out ?_
    intro e w2 hp2
    rw [HM.out] at hp2
    obtain ⟨R, K, k, nv2, mv2, rows2, names2, rfl, hRs, hRB, hRM, hRS, hrow2, hRb, hb2⟩ := hp2
    have hb02 := hb01.trans hb2 (by simp)
    have hW2 := hW.still hb02
    have hD : DocOk (d, R.b) w2 := ⟨E, t, nv, rows, R, K, k, nv2, mv2, rows2, names2, hI.frame hb2 (by simp), hrow, hb2.blk hd (by simp), rfl, hRM, hRS, hrow2, load_whole HM.out⟩
    have HD : Hid (DocOk (d, R.b) w2) := hD
    obtain ⟨la, lcap, hlv, hlc⟩ := own_shape hW2.row
    subst hlv
    have c0 : w2.cell? ⟨wb, 0, none⟩ = some (.slice la ps.length lcap) := hW2.blk.cell rfl
    have hbase : w0.heap.size ≤ w2.heap.size := hW2.but.size
    clear HL2 l0 l1 l2 l3 hRs hRB hRM hRS hRb hI hd hD
    go_wp2_with (first | (go_at_call 40; refine (lnum_any _ _).mono ?_; rintro e w' ⟨rfl, hww⟩; have hww2 := hww.symm; clear hww; subst hww2) | (at_builtin; refine wpList_append_own_at _ rfl _ _ 51 rfl w0.heap.size 72 i0 (.agg #[.pointer none, .pointer none]) 2 16 undPairs hi0 hz0 hz1 hz2 rfl (by decide) _ _ _ rfl (hW2.row.alloc _) ⟨w2.heap.size, 0, none⟩ 1 1 (prCells (d, R.b)) rfl rfl ?c1 ?c2 ?c3 ?c4 ?c5 ?_))
    case c1 => exact cells_new w2 _ _ _ rfl
    case c2 => intro u hu; simp [prCells] at hu; rcases hu with rfl | rfl <;> rfl
    case c3 => unfold maxLen; omega
    case c4 => omega
    case c5 => simp; omega
    intro v' w5 hown hgrow hnil hloc
    obtain ⟨hg5, hW5⟩ := hW2.push HD.out hown hgrow
    obtain ⟨va, vn, vc, rfl⟩ := own_slice hown
    have e0 : w5.cell? ⟨wb, 0, none⟩ = some (.slice la ps.length lcap) := hg5.cell rfl
    have f0 : w5.frozen? ⟨wb, 0, none⟩ = false := hg5.free 0
    clear hown hgrow hnil hloc c0 hg5
    go_wp2_with fail
    go_ret
    exact ⟨rfl, _, _, hW5, by unfold loadN; rw [HM.out]; simp [Res.isOk]⟩

end Go.Proofs.YtkflkmmbakccoaaGreatDoor

/- WALKS: package grafterlaw: plays, Loads. -/
namespace Go.Proofs.YtkflkmmbakccoaaGreatDoor
open Go.RowKit Go.Maps

theorem lstep_any {w0 : World} {wb : Nat} {ps : List (Nat × Nat)} {lv : Value} {w : World} (hW : WOk w0 wb ps lv w) (kd e n : Int) (hkd : kd ≤ 2) (he : -9223372036854775808 ≤ e) (he2 : e ≤ 9223372036854775807) (s : ByteArray) (hs : s.size ≤ 9223372036854775807) (B : Bud) (pa : Option Addr) (pn pc : Nat) (hn : ps.length + 1 ≤ 8000000000000) :
    Calls Tryz.prog 25 #[.pointer (some ⟨wb, 0, none⟩), stepV kd e n s B (.slice pa pn pc)] w fun r w' => LPost w0 wb (ps.length + stepN kd s B) r w' :=
  lstep_of hW kd e n hkd he he2 s B pa pn pc (fun h => lloads_any h s hs B hn) hn

/-- The first doc's text: the document's second example. -/
def text0 : ByteArray := ⟨#[45, 32, 38, 112, 32, 91, 49, 44, 32, 50, 93, 10, 45, 32, 42, 112, 10, 45, 32, 123, 107, 58, 32, 42, 112, 125]⟩
def bud0 : Bud := ⟨4, 5, 1, 11⟩
theorem load0 : loadN text0 bud0 = 1 := by decide +kernel

/-- The cells of a step of the script. -/
structure StepC where
  kd : Int
  e : Int
  n : Int
  s : ByteArray
  B : Bud
  pa : Option Addr
  pn : Nat
  pc : Nat

def StepC.cells (c : StepC) : List Value := [.int .i64 c.kd, .int .i64 c.e, .int .i64 c.n, .string c.s, .int .i64 c.B.depth, .int .i64 c.B.nodes, .int .i64 c.B.anchors, .int .i64 c.B.weight, .slice c.pa c.pn c.pc]

/-- What the walk asks of a script. -/
structure Script (w : World) (v : Value) (steps : List StepC) : Prop where
  shape : ∃ a cap, v = .slice a steps.length cap ∧ steps.length ≤ cap ∧ (0 < steps.length → ∃ sb off, a = some ⟨sb, off, none⟩ ∧ sb < w.heap.size ∧ ∀ i (hi : i < steps.length), ∀ j, j < 9 → w.cell? ⟨sb, off + i * 9 + j, none⟩ = (steps[i]).cells[j]?)
  e : ∀ c ∈ steps, -9223372036854775808 ≤ c.e ∧ c.e ≤ 9223372036854775807
  s : ∀ c ∈ steps, c.s.size ≤ 9223372036854775807
  len : steps.length + 3 ≤ 8000000000000

theorem Script.cell {w : World} {v : Value} {steps : List StepC} (h : Script w v steps) {i : Nat} (hi : i < steps.length) : ∃ sb off cap, v = .slice (some ⟨sb, off, none⟩) steps.length cap ∧ steps.length ≤ cap ∧ ∀ (W : World), But [] w W → ∀ j, j < 9 → W.cell? ⟨sb, off + i * 9 + j, none⟩ = (steps[i]).cells[j]? := by
  obtain ⟨a, cap, e, hc, hs⟩ := h.shape
  obtain ⟨sb, off, rfl, hlt, hcell⟩ := hs (by omega)
  refine ⟨sb, off, cap, e, hc, fun W hW j hj => ?_⟩
  rw [← hcell i hi j hj]
  simp only [World.cell?]
  rw [hW.block sb hlt (by simp)]

set_option maxRecDepth 20000 in
set_option maxHeartbeats 8000000 in
theorem lplays_any {w : World} {v : Value} {steps : List StepC} (hS : Script w v steps) :
    Calls Tryz.prog 12 #[v, .int .i64 2] w fun e w' => e = .returned (.bool true) ∧ But [] w w' := by
  have hW0 : WOk w w.heap.size [] (.slice none 0 0) (w.alloc (.cells #[.slice none 0 0] 53)) := ⟨blk_new _ _ _, ⟨rfl, .inl ⟨rfl, rfl⟩⟩, (fun p hp => by cases hp), alloc_but _ _, Nat.le_refl _⟩
  have HS0 : Hid _ := lstep_any hW0 1 0 0 (by omega) (by omega) (by omega) text0 (by decide +kernel) bud0 none 0 0 (by simp)
  have HN0 : Hid (stepN 1 text0 bud0 = 1) := by unfold Hid stepN; rw [if_pos rfl]; exact load0
  obtain ⟨va, vcap, hv, hvc, _⟩ := hS.shape
  subst hv
  have hlen := hS.len
  have HSC : Hid _ := hS
  clear hS
  go_enter Tryz.func12, Tryz.ntmps12
  go_wp2_with fail
  refine Calls.mono HS0.out ?_
  rintro e w1 ⟨rfl, ps1, lv1, hW1, hl1⟩
  rw [HN0.out] at hl1
  obtain ⟨la, lcap, hlv, hlc⟩ := own_shape hW1.row
  subst hlv
  have c0 : w1.cell? ⟨w.heap.size, 0, none⟩ = some (.slice la ps1.length lcap) := hW1.blk.cell rfl
  have hne : ((ps1.length : Int) != 1) = false := by simp at hl1; simp [hl1]
  have hle1 : ps1.length ≤ 1 := by simp at hl1; omega
  clear HS0 hW0 hl1
  go_wp2_with fail
  go_loopg [6, 7] (steps.length + 1) (fun gk okv iv wr => ∃ (i : Nat) (ps : List (Nat × Nat)) (lv : Value), gk = steps.length + 1 - i ∧ i ≤ steps.length ∧ okv = .bool true ∧ iv = .int .i64 (i : Int) ∧ WOk w w.heap.size ps lv wr ∧ ps.length ≤ i + 1)
  case atStart => exact ⟨0, ps1, _, rfl, Nat.zero_le _, rfl, rfl, hW1, by omega⟩
  case round =>
    obtain ⟨i, ps, lv, rfl, hi, rfl, rfl, hW2, hpl⟩ := hrel
    clear c0 hne
    by_cases hlt : i < steps.length
    · obtain ⟨sb, off, cap', ev, _, hcell⟩ := HSC.out.cell hlt
      obtain ⟨rfl, rfl⟩ : va = some ⟨sb, off, none⟩ ∧ vcap = cap' := by simpa using ev
      have hc := hcell wr hW2.but
      have k0 := hc 0 (by omega)
      have k1 := hc 1 (by omega)
      have k2 := hc 2 (by omega)
      have k3 := hc 3 (by omega)
      have k4 := hc 4 (by omega)
      have k5 := hc 5 (by omega)
      have k6 := hc 6 (by omega)
      have k7 := hc 7 (by omega)
      have k8 := hc 8 (by omega)
      have hmem : steps[i] ∈ steps := List.getElem_mem hlt
      have hce := HSC.out.e _ hmem
      have hcs := HSC.out.s _ hmem
      clear hc hcell ev
      generalize steps[i] = c at *
      obtain ⟨kd, e, n, s, B, pa, pn, pc⟩ := c
      simp only [StepC.cells, List.getElem?_cons_succ, List.getElem?_cons_zero, Nat.add_zero] at k0 k1 k2 k3 k4 k5 k6 k7 k8 hce hcs
      by_cases hk : kd ≤ 2
      · have HST : Hid _ := lstep_any hW2 kd e n hk hce.1 hce.2 s hcs B pa pn pc (by omega)
        have HNN : Hid (stepN kd s B ≤ 1) := by
          unfold Hid stepN loadN
          split
          · split <;> omega
          · omega
        go_wp2_with fail
        refine Calls.mono HST.out ?_
        rintro r w2 ⟨rfl, ps', lv', hW3, hl3⟩
        go_wp2_with fail
        go_roundg (steps.length + 1 - (i + 1))
        case measure => omega
        case rel => exact ⟨i + 1, ps', lv', rfl, by omega, rfl, by go_num, hW3, by have := HNN.out; omega⟩
      · go_wp2_with fail
        go_roundg (steps.length + 1 - (i + 1))
        case measure => omega
        case rel => exact ⟨i + 1, ps, lv, rfl, by omega, rfl, by go_num, hW2, by omega⟩
    · have HW2 : Hid _ := hW2
      have hpl2 : ps.length ≤ steps.length + 1 := by omega
      clear hW2
      go_wp2_with fail
      go_loopg [6, 8, 9] (ps.length + 1) (fun gk okv iv _ wr2 => ∃ (j : Nat) (lv : Value) (ps2 : List (Nat × Nat)), gk = ps.length + 1 - j ∧ j ≤ ps.length ∧ okv = .bool true ∧ iv = .int .i64 (j : Int) ∧ WOk w w.heap.size ps2 lv wr2 ∧ ps2.length = ps.length)
      case atStart => exact ⟨0, lv, ps, rfl, Nat.zero_le _, rfl, rfl, HW2.out, rfl⟩
      case round =>
        obtain ⟨j, lv2, ps2, rfl, hj, rfl, rfl, hW3, hl3⟩ := hrel
        obtain ⟨la2, lcap2, hlv2, hlc2⟩ := own_shape hW3.row
        subst hlv2
        have c2 : wr.cell? ⟨w.heap.size, 0, none⟩ = some (.slice la2 ps2.length lcap2) := hW3.blk.cell rfl
        have HW3 : Hid _ := hW3
        clear hW3
        by_cases hlt2 : j < ps2.length
        · go_wp2_with fail
          go_loopg [6, 9] 2 (fun gk okv kv wr3 => ∃ (q : Nat) (lv : Value) (ps3 : List (Nat × Nat)), gk = 2 - q ∧ q ≤ 1 ∧ okv = .bool true ∧ kv = .int .i64 (2 + (q : Int)) ∧ WOk w w.heap.size ps3 lv wr3 ∧ ps3.length = ps.length)
          case atStart => exact ⟨0, _, ps2, rfl, by omega, rfl, rfl, HW3.out, hl3⟩
          case round =>
            obtain ⟨q, lv3, ps3, rfl, hq, rfl, rfl, hW4, hl4⟩ := hrel
            by_cases hq0 : q = 0
            · subst hq0
              have hbs : But [] wr (wr.alloc (.cells #[.string ⟨#[50]⟩] 9)) := alloc_but _ _
              have HST : Hid _ := lstep_any (hW4.still hbs) 2 (j : Int) 500 (by omega) (by omega) (by omega) ⟨#[]⟩ (by decide) ⟨0, 0, 0, 0⟩ (some ⟨wr.heap.size, 0, none⟩) 1 1 (by omega)
              have HNN : Hid (stepN 2 ⟨#[]⟩ ⟨0, 0, 0, 0⟩ = 0) := by unfold Hid stepN; rw [if_neg (by omega)]
              have hz : (2 : Int) + ((0 : Nat) : Int) = 2 := by omega
              rw [hz]
              clear hz
              go_wp2_with fail
              refine Calls.mono HST.out ?_
              rintro r w5 ⟨rfl, ps', lv', hW5, hl5⟩
              rw [HNN.out] at hl5
              go_wp2_with fail
              go_roundg 1
              case measure => omega
              case rel => exact ⟨1, lv', ps', rfl, by omega, rfl, by go_num, hW5, by omega⟩
            · have hq1 : q = 1 := by omega
              subst hq1
              have hz : (2 : Int) + ((1 : Nat) : Int) = 3 := by omega
              rw [hz]
              clear hz
              go_wp2_with fail
              go_roundg (ps.length + 1 - (j + 1))
              case measure => omega
              case rel => exact ⟨j + 1, lv3, ps3, rfl, by omega, rfl, by go_num, hW4, hl4⟩
        · go_wp2_with fail
          go_ret
          exact ⟨rfl, HW3.out.but⟩

set_option maxHeartbeats 400000 in
theorem lLoads_any {w : World} {v : Value} {steps : List StepC} (hS : Script w v steps) :
    Calls Tryz.prog 3 #[v] w fun e w' => e = .returned (.bool true) ∧ But [] w w' := by
  have HP : Hid _ := lplays_any hS
  clear hS
  go_enter Tryz.func3, Tryz.ntmps3
  go_wp2_with fail
  refine Calls.mono HP.out ?_
  rintro e w1 ⟨rfl, hb⟩
  go_wp2_with fail
  go_ret
  exact ⟨rfl, hb⟩

end Go.Proofs.YtkflkmmbakccoaaGreatDoor

/- THE STATEMENTS' GROUND: closed facts of the program; addresses. -/
namespace Go.Proofs.YtkflkmmbakccoaaGreatDoor
open Go.ChangeShapes Go.WideShapes Go.ChangeAt Go.WideElems Go.RowKit Go.Deep

theorem Tryz.own : ownKnob Tryz.prog.godebug = none := by kernel_rfl
theorem Tryz.laidOut : laidOutB Tryz.prog = true := by kernel_rfl
theorem cStep : Tryz.prog.cellsOf 56 = 9 := by kernel_rfl
theorem cBud : Tryz.prog.cellsOf 29 = 4 := by kernel_rfl
theorem cInt : Tryz.prog.cellsOf 3 = 1 := by kernel_rfl
theorem cStr : Tryz.prog.cellsOf 9 = 1 := by kernel_rfl
theorem cStrs : Tryz.prog.cellsOf 46 = 1 := by kernel_rfl
theorem bStep : Tryz.prog.bytesOf 56 = 96 := by kernel_rfl

theorem addr_add (a : Addr) (m j : Nat) : (a.add m).add j = a.add (m + j) := by
  unfold Addr.add
  by_cases hm : m = 0 <;> by_cases hj : j = 0 <;> simp [hm, hj, Nat.add_assoc]

theorem addr_none (b off n : Nat) : (⟨b, off, none⟩ : Addr).add n = ⟨b, off + n, none⟩ := by
  unfold Addr.add
  by_cases hn : n = 0 <;> simp [hn]

end Go.Proofs.YtkflkmmbakccoaaGreatDoor
