/- PARTS: R19, R20, R21. -/
import Derived.Test.YtkflkmmbakccoaaGreatDoorI24
import Derived.Test.YtkflkmmbakccoaaGreatDoorI9

/- WALKS: package grafterref: flow, by induction on the levels to come. -/
namespace Go.Proofs.YtkflkmmbakccoaaGreatDoor
open Go.RowKit Go.Maps

theorem RMem.belowM {R : REnv} {K k an er pl : Nat} {nv mv : Value} {rows : List RRow} {names : List (ByteArray × Nat)} {w w' : World} (h : RMem R K k an er pl nv mv rows names w) (hb : But (R.b :: own mv) w w') : Below R.base w w' :=
  hb.below h.base (fun x hx => by
    rcases List.mem_cons.1 hx with rfl | hx
    · exact h.bb
    · exact (ownsRow_lt h.names hx).1)

theorem RPostN.trans {R : REnv} {ov : Over} {K q : Nat} {t : PS} {w w1 w2 : World} {r : Res Nat} {e : Ending} (hb : Below R.base w w1) (h : RPostN R ov K { t with k := q } w1 r e w2) : RPostN R ov K t w r e w2 := by
  obtain ⟨hb2, h2⟩ := h
  refine ⟨hb.trans hb2, ?_⟩
  cases r with
  | ok id t' => exact h2
  | bad er pl => exact h2

theorem startsB_42 : startsB 42 = false := by decide
theorem startsB_38 : startsB 38 = false := by decide

theorem NmBad.from {ov : Over} {t t1 : PS} {er an : Nat} {rows : List RRow} {names : List (ByteArray × Nat)} (h : NmBad ov t1 er an rows names) (h1 : t.nodes.length ≤ t1.nodes.length) (h2 : t1.names = t.names) (h3 : t1.anchors = t.anchors) : NmBad ov t er an rows names := by
  obtain ⟨h4, h5⟩ := h
  rw [h2, h3] at h5
  exact ⟨h4.from h1 (by rw [h2, h3]; omega), h5⟩

theorem NmBad.len {s : ByteArray} {ov : Over} {t : PS} {er an : Nat} {rows : List RRow} {names : List (ByteArray × Nat)} (h : NmBad ov t er an rows names) (hw : WF s t) : names.length ≤ 300 := by
  have := h.1.2.2.2.2
  have := h.2
  have := hw.names
  have := hw.anchors
  omega

set_option maxRecDepth 20000 in
set_option maxHeartbeats 4000000 in
theorem rflowS_any {R : REnv} (hE : REnvOk R) (lv : Int) (h0 : 0 ≤ lv) (h1 : lv ≤ 100) (val : Nat → Int → PS → Res Unit) (hv : lv ≤ R.B.depth → RValueSaid R lv (fun id => val id lv)) (hvo : ∀ id, ValOk R.s R.B id lv (val id lv)) (hfo : FlowOk R.s R.B lv (flowS R.s R.B val lv)) : RFlowSaid R lv (flowS R.s R.B val lv) := by
  intro ov K t w h
  obtain ⟨i0, hi0, hz0, hz1, hz2⟩ := info_parts infoName
  obtain ⟨nv, mv, rows, names, hM, hS, l, hl, hind, hat, hen⟩ := h
  have hL := hE.line hl
  have hq := skipBl_en R.s t.k l.en hen hL.en hL.nl
  have hq0 := skipBl_ge R.s t.k
  have hsz := hE.s
  have hes := hL.en
  have hnow := rnow_any hM hE.s hl hL hen
  have hbd := nowB_bd R.s t.k l.en hes
  have hst := starts_any (nowB R.s t.k l.en) hbd.1 hbd.2
  have hstb := nowB_starts hL hen
  have n7 := nowB_kind (κ := 7) hL hen (by decide) (by decide) (by decide)
  have n8 := nowB_kind (κ := 8) hL hen (by decide) (by decide) (by decide)
  rw [(kindB_tab _).2.2.2.2.1] at n7
  rw [(kindB_tab _).2.2.2.2.2.1] at n8
  have HG : Hid (∀ w1, RMem R K (skipBl R.s t.k) t.anchors 0 0 nv mv rows names w1 → RGood R ov K { t with k := skipBl R.s t.k } w1) := fun w1 h2 => ⟨nv, mv, rows, names, h2, hS.move (by omega), l, hl, hind, by simp only; omega, by simp only; omega⟩
  have hwf : WF R.s t := hS.wf
  have HST : Hid _ := hst
  have HS : Hid _ := hS
  have HL : Hid _ := hl
  have HV : Hid _ := hv
  have HVO : Hid _ := hvo
  have HFO : Hid _ := hfo
  have HMW : Hid _ := hM
  clear hst hS hl hind hv hvo hfo hM
  by_cases h7 : kindAt R.s (skipBl R.s t.k) = 7
  · have HM0 : Hid (flowS R.s R.B val lv t = aliasM R.s R.B lv { t with k := skipBl R.s t.k }) := by unfold Hid flowS; simp only; rw [if_pos h7]
    have hce := n7.1 h7
    rw [hce] at hnow HST
    have hsf := startsB_42
    have H7 : Hid _ := h7
    clear hce hstb n7 n8 hbd h7
    generalize skipBl R.s t.k = q at *
    go_enter Tryz.func107, Tryz.ntmps107
    go_wp2_with fail
    refine hnow.mono ?_
    rintro e w1 ⟨rfl, h2, hb2⟩
    go_wp2_with fail
    refine (HST.out w1).mono ?_
    rintro e w2 ⟨rfl, hw2⟩
    have hw3 := hw2.symm
    clear hw2
    subst hw3
    have d11 : w1.cell? ⟨R.b, 11, none⟩ = some (.int .i64 0) := h2.rd.cell rfl
    rw [hsf]
    go_wp2_with fail
    refine (ralias_any hE (HG.out w1 h2) H7.out lv h0 h1).mono ?_
    intro e w2 hp
    have hp' := RPostN.trans (HMW.out.belowB hb2) hp
    rw [← HM0.out] at hp'
    clear hp HM0
    cases hm : flowS R.s R.B val lv t with
    | ok x t1 =>
      rw [hm] at hp'
      obtain ⟨hb3, rfl, hg⟩ := hp'
      have HM : Hid _ := hm
      clear hm
      go_wp2_with fail
      go_ret
      rw [HM.out]
      exact ⟨hb3, rfl, hg⟩
    | bad er pl =>
      rw [hm] at hp'
      obtain ⟨hb3, ⟨x, rfl⟩, hg⟩ := hp'
      have HM : Hid _ := hm
      clear hm
      go_wp2_with fail
      go_ret
      rw [HM.out]
      exact ⟨hb3, ⟨x, rfl⟩, hg⟩
  · by_cases h8 : kindAt R.s (skipBl R.s t.k) = 8
    · have HM0 : Hid (flowS R.s R.B val lv t = namedM R.s R.B lv (fun id v => val id lv v) { t with k := skipBl R.s t.k }) := by unfold Hid flowS; simp only; rw [if_neg h7, if_pos h8]
      have hce := n8.1 h8
      rw [hce] at hnow HST
      have hsf := startsB_38
      have H8 : Hid _ := h8
      clear hce hstb n7 n8 hbd h7 h8
      generalize skipBl R.s t.k = q at *
      go_enter Tryz.func107, Tryz.ntmps107
      go_wp2_with fail
      refine hnow.mono ?_
      rintro e w1 ⟨rfl, h2, hb2⟩
      go_wp2_with fail
      refine (HST.out w1).mono ?_
      rintro e w2 ⟨rfl, hw2⟩
      have hw3 := hw2.symm
      clear hw2
      subst hw3
      have d11 : w1.cell? ⟨R.b, 11, none⟩ = some (.int .i64 0) := h2.rd.cell rfl
      rw [hsf]
      go_wp2_with fail
      refine (rbegin_good hE (HG.out w1 h2) lv).mono ?_
      rintro e w2 ⟨rfl, hb3, hp2⟩
      have HB2 : Hid (Below R.base w w2) := (HMW.out.belowB hb2).trans hb3
      clear hb3 hb2 d11 h2
      cases hm : beginM R.B lv { t with k := q } with
      | bad er pl =>
        rw [hm] at hp2
        have HM : Hid (flowS R.s R.B val lv t = .bad er pl) := by unfold Hid; rw [HM0.out, namedM_anchor, hm]; rfl
        obtain ⟨he, nv2, mv2, rows2, names2, hM2, hA2, _, _⟩ := hp2
        have d11 : w2.cell? ⟨R.b, 11, none⟩ = some (.int .i64 (er : Int)) := hM2.rd.cell rfl
        have HA2 : Hid (RBadAt ov t er t.anchors rows2 names2) := hA2
        clear hm HM0 hA2
        go_wp2_with fail
        refine (rvalue_err hM2 he hE.s HL.out hL hq t.nodes.length lv).mono ?_
        rintro e w3 ⟨rfl, hb3, hM3⟩
        go_wp2_with fail
        go_ret
        rw [HM.out]
        exact ⟨HB2.out.trans (hM2.belowB hb3), ⟨_, rfl⟩, HA2.out.bad hM3⟩
      | ok id t1 =>
        rw [hm] at hp2
        obtain ⟨rfl, hG2, hov2, hbl2⟩ := hp2
        simp only at hG2 hov2 hbl2
        obtain ⟨hlv, _, ht1, _, _, _⟩ := beginM_ok hE.n (hwf.move (k := q) (by omega)) hm
        simp only at ht1
        have HM1 : Hid (flowS R.s R.B val lv t = (anchorM R.s R.B t1).bind fun x t2 => (val t.nodes.length lv t2).bind fun _ t3 => .ok t.nodes.length { t3 with names := (x, t.nodes.length) :: t3.names }) := by unfold Hid; rw [HM0.out, namedM_anchor, hm]; rfl
        have d11 : w2.cell? ⟨R.b, 11, none⟩ = some (.int .i64 0) := by
          obtain ⟨_, _, _, _, hMx, _⟩ := hG2
          exact hMx.rd.cell rfl
        have HT1 : Hid _ := ht1
        have hk8 : kindAt R.s t1.k = 8 := by rw [HT1.out]; exact H8.out
        have HK8 : Hid _ := hk8
        clear hm HM0 ht1 hk8
        go_wp2_with fail
        refine (ranchor_good hE hG2 HK8.out).mono ?_
        rintro e w3 ⟨x, rfl, hb3, hp3⟩
        have HVL : Hid (Calls Tryz.prog 138 #[.pointer (some ⟨R.b, 0, none⟩), .int .i64 (t.nodes.length : Int), .int .i64 lv] w3 fun e w4 => e = .returned (.tuple #[]) ∧ Below R.base w3 w4 ∧ ∃ K3 k3 an3 er3 pl3 nv3 mv3 rows3 names3, RMem R K3 k3 an3 er3 pl3 nv3 mv3 rows3 names3 w4 ∧ names3.length ≤ 300 ∧
            Hid (NmAfter R ov (fun t3 K3 k3 => K3 = K ∧ k3 = t3.k ∧ InLine R K t3) t t.nodes.length x (flowS R.s R.B val lv t) K3 k3 an3 er3 pl3 rows3 names3)) := by
          have hnl : t.nodes.length ≤ t1.nodes.length := by rw [HT1.out]; simp
          have hnm : t1.names = t.names := by rw [HT1.out]
          have han : t1.anchors = t.anchors := by rw [HT1.out]
          cases hm : anchorM R.s R.B t1 with
          | bad er pl =>
            rw [hm] at hp3
            obtain ⟨l3, k3, nv3, mv3, rows3, names3, hl3, hk3, hM3, hN3⟩ := hp3
            refine (rvalue_err hM3 hN3.1.1 hE.s hl3 (hE.line hl3) hk3 t.nodes.length lv).mono ?_
            rintro e w4 ⟨rfl, hb4, hM4⟩
            have hN := hN3.from hnl hnm han
            exact ⟨rfl, hM3.belowB hb4, K, _, _, er, pl, nv3, mv3, rows3, names3, hM4, hN.len hwf, .inl ⟨er, pl, by rw [HM1.out, hm]; rfl, rfl, rfl, hN⟩⟩
          | ok y t2 =>
            rw [hm] at hp3
            obtain ⟨rfl, hn2, hm2, ha2, hG3⟩ := hp3
            refine (HV.out hlv ov K t2 w3 t.nodes.length hG3 hov2 (by rw [hn2]; exact hbl2)).mono ?_
            rintro e w4 ⟨rfl, hb4, hp4⟩
            refine ⟨rfl, hb4, ?_⟩
            cases hm3 : val t.nodes.length lv t2 with
            | bad er pl =>
              simp only [hm3] at hp4
              obtain ⟨K3, k3, an3, nv3, mv3, rows3, names3, hM4, hN3⟩ := hp4.nm hn2 hm2 ha2
              have hN := hN3.from hnl hnm han
              exact ⟨K3, k3, an3, er, pl, nv3, mv3, rows3, names3, hM4, hN.len hwf, .inl ⟨er, pl, by rw [HM1.out, hm]; simp only [Res.bind_ok]; rw [hm3]; rfl, rfl, rfl, hN⟩⟩
            | ok u t3 =>
              simp only [hm3] at hp4
              obtain ⟨nv3, mv3, rows3, names3, hM4, hS4, hl4⟩ := hp4
              have hl300 : names3.length ≤ 300 := by
                rw [hS4.names]
                have := hS4.wf.names
                have := hS4.wf.anchors
                simp; omega
              exact ⟨K, t3.k, t3.anchors, 0, 0, nv3, mv3, rows3, names3, hM4, hl300, .inr ⟨t3, by rw [HM1.out, hm]; simp only [Res.bind_ok]; rw [hm3]; rfl, rfl, rfl, rfl, ⟨rfl, rfl, hl4⟩, hS4⟩⟩
        have HB3 : Hid (Below R.base w w3) := HB2.out.trans hb3
        clear hp3 hb3 HB2 hG2 hov2 hbl2 d11
        go_wp2_with fail
        refine Calls.mono HVL.out ?_
        rintro e w4 ⟨rfl, hb4, K3, k3, an3, er3, pl3, nv3, mv3, rows3, names3, hM4, hnl, HAF⟩
        have HB4 : Hid (Below R.base w w4) := HB3.out.trans hb4
        obtain ⟨na, ncap, rfl⟩ := hM4.mvIs
        have d9 : w4.cell? ⟨R.b, 9, none⟩ = some (.slice na names3.length ncap) := hM4.rd.cell rfl
        have hbase := hM4.base
        clear HVL HB3 hb4
        go_wp2_with (at_builtin; refine wpList_append_own_at _ rfl _ _ 112 rfl R.base 178 i0 (.agg #[.string ⟨#[]⟩, .int .i64 0]) 2 24 undNames hi0 hz0 hz1 hz2 rfl (by decide) _ _ _ rfl (hM4.names.alloc _) ⟨w4.heap.size, 0, none⟩ 1 1 (nmCells (x, t.nodes.length)) rfl rfl ?c1 ?c2 ?c3 ?c4 ?c5 ?_)
        case c1 => exact cells_new w4 _ _ _ rfl
        case c2 => intro u hu; simp [nmCells] at hu; rcases hu with rfl | rfl <;> rfl
        case c3 => unfold maxLen; omega
        case c4 => omega
        case c5 => simp; omega
        intro v' w5 hown hgrow hnil hloc
        obtain ⟨hg5, hM5, hb5⟩ := hM4.pushName hown hgrow
        obtain ⟨va, vn, vc, rfl⟩ := own_slice hown
        have e9 : w5.cell? ⟨R.b, 9, none⟩ = some (.slice na names3.length ncap) := hg5.cell rfl
        have f9 : w5.frozen? ⟨R.b, 9, none⟩ = false := hg5.free 9
        clear hown hgrow hnil hloc d9 hg5
        go_wp2_with fail
        go_ret
        refine ⟨HB4.out.trans (hM4.belowM hb5), ?_⟩
        rcases HAF.out with ⟨er, pl, hres, rfl, rfl, hN⟩ | ⟨t3, hres, rfl, rfl, rfl, ⟨rfl, rfl, hl4⟩, hS4⟩
        · rw [hres]
          exact ⟨⟨_, rfl⟩, NmBad.name hN hM5⟩
        · have hwf4 := (HFO.out t _ _ hwf h0 hres).1.wf
          rw [hres]
          exact ⟨rfl, nv3, _, rows3, _, hM5, hS4.name hwf4, hl4⟩
    · by_cases hbv : kindAt R.s (skipBl R.s t.k) = 2 ∨ kindAt R.s (skipBl R.s t.k) = 3 ∨ kindAt R.s (skipBl R.s t.k) = 9 ∨ kindAt R.s (skipBl R.s t.k) = 11
      · have HM0 : Hid (flowS R.s R.B val lv t = (beginM R.B lv { t with k := skipBl R.s t.k }).bind fun id t1 => (val id lv t1).bind fun _ t2 => .ok id t2) := by unfold Hid flowS; simp only; rw [if_neg h7, if_neg h8, if_pos hbv]
        have hsf := hstb.2 hbv
        have h42 : nowB R.s t.k l.en ≠ 42 := fun e => h7 (n7.2 e)
        have h38 : nowB R.s t.k l.en ≠ 38 := fun e => h8 (n8.2 e)
        clear hstb n7 n8 hbd h7 h8 hbv
        generalize nowB R.s t.k l.en = c at *
        generalize skipBl R.s t.k = q at *
        go_enter Tryz.func107, Tryz.ntmps107
        go_wp2_with fail
        refine hnow.mono ?_
        rintro e w1 ⟨rfl, h2, hb2⟩
        go_wp2_with fail
        refine (HST.out w1).mono ?_
        rintro e w2 ⟨rfl, hw2⟩
        have hw3 := hw2.symm
        clear hw2
        subst hw3
        have d11 : w1.cell? ⟨R.b, 11, none⟩ = some (.int .i64 0) := h2.rd.cell rfl
        rw [hsf]
        go_wp2_with fail
        refine (rbegin_good hE (HG.out w1 h2) lv).mono ?_
        rintro e w2 ⟨rfl, hb3, hp2⟩
        have HB2 : Hid (Below R.base w w2) := (HMW.out.belowB hb2).trans hb3
        clear hb3 hb2 d11 h2
        cases hm : beginM R.B lv { t with k := q } with
        | bad er pl =>
          rw [hm] at hp2
          have HM : Hid (flowS R.s R.B val lv t = .bad er pl) := by unfold Hid; rw [HM0.out, hm]; rfl
          obtain ⟨he, nv2, mv2, rows2, names2, hM2, hA2, _, _⟩ := hp2
          have HA2 : Hid (RBadAt ov t er t.anchors rows2 names2) := hA2
          clear hm HM0 hA2
          go_wp2_with fail
          refine (rvalue_err hM2 he hE.s HL.out hL hq t.nodes.length lv).mono ?_
          rintro e w3 ⟨rfl, hb3, hM3⟩
          go_wp2_with fail
          go_ret
          rw [HM.out]
          exact ⟨HB2.out.trans (hM2.belowB hb3), ⟨_, rfl⟩, HA2.out.bad hM3⟩
        | ok id t1 =>
          rw [hm] at hp2
          obtain ⟨rfl, hG2, hov2, hbl2⟩ := hp2
          simp only at hG2 hov2 hbl2
          obtain ⟨hlv, _, ht1, _, _, _⟩ := beginM_ok hE.n (hwf.move (k := q) (by omega)) hm
          simp only at ht1
          have HM1 : Hid (flowS R.s R.B val lv t = (val t.nodes.length lv t1).bind fun _ t2 => .ok t.nodes.length t2) := by unfold Hid; rw [HM0.out, hm]; rfl
          have HT1 : Hid _ := ht1
          clear hm HM0 ht1
          go_wp2_with fail
          refine (HV.out hlv ov K t1 w2 t.nodes.length hG2 hov2 hbl2).mono ?_
          rintro e w3 ⟨rfl, hb3, hp3⟩
          cases hm : val t.nodes.length lv t1 with
          | ok u t2 =>
            simp only [hm] at hp3
            have HM : Hid (flowS R.s R.B val lv t = .ok t.nodes.length t2) := by unfold Hid; rw [HM1.out, hm]; rfl
            clear hm
            go_wp2_with fail
            go_ret
            rw [HM.out]
            exact ⟨HB2.out.trans hb3, rfl, hp3⟩
          | bad er pl =>
            simp only [hm] at hp3
            have HM : Hid (flowS R.s R.B val lv t = .bad er pl) := by unfold Hid; rw [HM1.out, hm]; rfl
            clear hm
            go_wp2_with fail
            go_ret
            rw [HM.out]
            exact ⟨HB2.out.trans hb3, ⟨_, rfl⟩, hp3.from (by rw [HT1.out]; simp) (by rw [HT1.out]; simp only; omega)⟩
      · have HM : Hid (flowS R.s R.B val lv t = .bad 3 (skipBl R.s t.k)) := by unfold Hid flowS; simp only; rw [if_neg h7, if_neg h8, if_neg hbv]
        have hsf : startsB (nowB R.s t.k l.en) = false := by
          cases hb : startsB (nowB R.s t.k l.en) with
          | false => rfl
          | true => exact absurd (hstb.1 hb) hbv
        have h42 : (nowB R.s t.k l.en != 42) = true := bne_iff_ne.2 (fun e => h7 (n7.2 e))
        have h38 : (nowB R.s t.k l.en != 38) = true := bne_iff_ne.2 (fun e => h8 (n8.2 e))
        clear hstb n7 n8 hbd h7 h8 hbv
        generalize nowB R.s t.k l.en = c at *
        generalize skipBl R.s t.k = q at *
        go_enter Tryz.func107, Tryz.ntmps107
        go_wp2_with fail
        refine hnow.mono ?_
        rintro e w1 ⟨rfl, h2, hb2⟩
        have d3 : w1.cell? ⟨R.b, 3, none⟩ = some (.int .i64 (q : Int)) := h2.rd.cell rfl
        go_wp2_with fail
        refine (HST.out w1).mono ?_
        rintro e w2 ⟨rfl, hw2⟩
        have hw3 := hw2.symm
        clear hw2
        subst hw3
        rw [hsf]
        go_wp2_with fail
        refine (rwrong_any h2 3 q).mono ?_
        rintro e w3 ⟨rfl, h3, hb3⟩
        have d11 : w3.cell? ⟨R.b, 11, none⟩ = some (.int .i64 3) := h3.rd.cell rfl
        go_wp2_with fail
        go_ret
        rw [HM.out]
        exact ⟨HMW.out.belowB (hb2.trans hb3 (by simp)), ⟨0, rfl⟩, HS.out.bad h3 (by simp)⟩

/-- A flow, with as many levels to come as there may be. -/
theorem rflow_any {R : REnv} (hE : REnvOk R) (f : Nat) : ∀ lv : Int, 0 ≤ lv → lv ≤ 50 → R.B.depth < lv + f → RFlowSaid R lv (flowM R.s R.B f lv) := by
  have hD := hE.d
  induction f with
  | zero =>
    intro lv h0 h1 hf
    exact rflowS_any hE lv h0 (by omega) _ (fun hlv => absurd hlv (by omega)) (fun id t t' u _ _ _ hlv _ => absurd hlv (by omega)) (flowM_ok hD hE.n hE.a 0 lv)
  | succ f ih =>
    intro lv h0 h1 hf
    refine rflowS_any hE lv h0 (by omega) _ (fun hlv => ?_) (fun id => valueS_ok hD (flowM_ok hD hE.n hE.a f)) (flowM_ok hD hE.n hE.a (f + 1) lv)
    intro ov K t w id h hov hbl
    exact rvalue_any hE h id hov hbl lv h0 hlv (flowM R.s R.B f) (ih (lv + 1) (by omega) (by omega) (by push_cast at hf; omega)) (flowM_ok hD hE.n hE.a f (lv + 1))

theorem rvalueM_any {R : REnv} (hE : REnvOk R) (lv : Int) (h0 : 0 ≤ lv) (h1 : lv ≤ 49) (hlv : lv ≤ R.B.depth) : RValueSaid R lv (fun id => valueM R.s R.B 21 id lv) := by
  have hD := hE.d
  intro ov K t w id h hov hbl
  exact rvalue_any hE h id hov hbl lv h0 hlv (flowM R.s R.B 21) (rflow_any hE 21 (lv + 1) (by omega) (by omega) (by omega)) (flowM_ok hD hE.n hE.a 21 (lv + 1))

end Go.Proofs.YtkflkmmbakccoaaGreatDoor

/- WALKS: package grafterref: block, with an error told; where the next line is at hand. -/
namespace Go.Proofs.YtkflkmmbakccoaaGreatDoor
open Go.RowKit Go.Maps

/-- The next line is at hand, or there is none: what the Reader's line and place are. -/
def AtG (R : REnv) (t : PS) (K k : Nat) : Prop := (k = t.k ∧ ∃ l, R.L[K]? = some l ∧ t.ind = l.ind ∧ t.k = l.at') ∨ (t.k = R.s.size ∧ R.L.length ≤ K)

theorem RGoodE.mk {R : REnv} {ov : Over} {t : PS} {K k : Nat} {nv mv : Value} {rows : List RRow} {names : List (ByteArray × Nat)} {w : World} (hM : RMem R K k t.anchors 0 0 nv mv rows names w) (hS : RSt R.s ov t rows names t.anchors) (h : AtG R t K k) : RGoodE R ov t w := by
  rcases h with ⟨rfl, hl⟩ | ⟨h1, h2⟩
  · exact .inl ⟨K, nv, mv, rows, names, hM, hS, hl⟩
  · exact .inr ⟨h1, K, k, nv, mv, rows, names, h2, hM, hS⟩

theorem RGoodE.out {R : REnv} {ov : Over} {t : PS} {w : World} (h : RGoodE R ov t w) : ∃ K k nv mv rows names, RMem R K k t.anchors 0 0 nv mv rows names w ∧ RSt R.s ov t rows names t.anchors ∧ AtG R t K k := by
  rcases h with ⟨K, nv, mv, rows, names, hM, hS, hl⟩ | ⟨h1, K, k, nv, mv, rows, names, h2, hM, hS⟩
  · exact ⟨K, t.k, nv, mv, rows, names, hM, hS, .inl ⟨rfl, hl⟩⟩
  · exact ⟨K, k, nv, mv, rows, names, hM, hS, .inr ⟨h1, h2⟩⟩

/-- What a method that answers a node's place and goes to the next line leaves. -/
def RPostNE (R : REnv) (ov : Over) (t : PS) (w : World) (r : Res Nat) (e : Ending) (w' : World) : Prop :=
  Below R.base w w' ∧ match r with
  | .ok id t' => e = .returned (.int .i64 (id : Int)) ∧ RGoodE R ov t' w'
  | .bad er pl => (∃ i : Nat, e = .returned (.int .i64 (i : Int))) ∧ RBad R ov t er pl w'

/-- A way to read a block that has begun, as a call of grafterref. -/
def RBlockSaid (R : REnv) (d : Nat) (blk : Nat → PS → Res Unit) : Prop :=
  ∀ ov K t w (id : Nat) (iv lv : Int), iv = 2 * (d : Int) → lv = (d : Int) + 1 → RAtLine R ov K t w → ov id = none → t.nodes[id]? = some NodeV.blank → Calls Tryz.prog 106 #[.pointer (some ⟨R.b, 0, none⟩), .int .i64 (id : Int), .int .i64 iv, .int .i64 lv] w fun e w' => RPostE R ov t w (blk id t) e w'

/-- One cell of a node's row: its kind's byte. -/
theorem RMem.setKb {R : REnv} {K k an er pl nb cap : Nat} {mv : Value} {rows : List RRow} {names : List (ByteArray × Nat)} {w : World} (h : RMem R K k an er pl (.slice (some ⟨nb, 0, none⟩) rows.length cap) mv rows names w) {i : Nat} (hi : i < rows.length) (kb kd : Nat) :
    RMem R K k an er pl (.slice (some ⟨nb, 0, none⟩) rows.length cap) mv (rows.set i ⟨kb, { (rows[i]).n with kind := kd }, (rows[i]).kv, (rows[i]).pv⟩) names (w.setCell ⟨nb, i * 6, none⟩ (.int .u8 (kb : Int))) := by
  have := h.setNode (i := i) (j := 0) (r := ⟨kb, { (rows[i]).n with kind := kd }, (rows[i]).kv, (rows[i]).pv⟩) (v := .int .u8 (kb : Int)) hi (by omega) rfl (fun p hp hne => by
    match p, hp with
    | 0, _ => exact absurd rfl hne
    | 1, _ => rfl
    | 2, _ => rfl
    | 3, _ => rfl
    | 4, _ => rfl
    | 5, _ => rfl) rfl rfl rfl rfl
  rwa [Nat.add_zero] at this

/-- A node's row: the cell of its kind's byte. -/
theorem RMem.kbCell {R : REnv} {K k an er pl nb cap : Nat} {mv : Value} {rows : List RRow} {names : List (ByteArray × Nat)} {w : World} (h : RMem R K k an er pl (.slice (some ⟨nb, 0, none⟩) rows.length cap) mv rows names w) {i : Nat} (hi : i < rows.length) :
    w.cell? ⟨nb, i * 6, none⟩ = some (.int .u8 ((rows[i]).kb : Int)) ∧ w.frozen? ⟨nb, i * 6, none⟩ = false := by
  obtain ⟨nb', cap', e, _, hcn⟩ := h.node i hi
  obtain ⟨rfl, rfl⟩ : nb = nb' ∧ cap = cap' := by simpa using e
  have := hcn 0 (by omega)
  simpa [RRow.cells] using this

theorem RMem.belowKb {R : REnv} {K k an er pl nb cap : Nat} {mv : Value} {rows : List RRow} {names : List (ByteArray × Nat)} {w : World} (h : RMem R K k an er pl (.slice (some ⟨nb, 0, none⟩) rows.length cap) mv rows names w) (i : Nat) (v : Value) : Below R.base w (w.setCell ⟨nb, i, none⟩ v) :=
  h.belowN (S := []) (by simp) ((But.refl [nb] w).setCell (p := ⟨nb, i, none⟩) (by simp) v)

set_option maxRecDepth 20000 in
set_option maxHeartbeats 1000000 in
/-- With an error told, a block's node gets a kind, and no more. -/
theorem rblock_err {R : REnv} {K k an er pl : Nat} {nv mv : Value} {rows : List RRow} {names : List (ByteArray × Nat)} {w : World} (h : RMem R K k an er pl nv mv rows names w) (he : er ≠ 0) (hk : k < R.s.size) (id : Nat) (hi : id < rows.length) (iv lv : Int) :
    Calls Tryz.prog 106 #[.pointer (some ⟨R.b, 0, none⟩), .int .i64 (id : Int), .int .i64 iv, .int .i64 lv] w fun e w' => e = .returned (.tuple #[]) ∧ Below R.base w w' ∧ ∃ r', RMem R K k an er pl nv mv (rows.set id r') names w' := by
  obtain ⟨nb, cap, rfl, hcap, _⟩ := h.node id hi
  have c8 : w.cell? ⟨R.b, 8, none⟩ = some (.slice (some ⟨nb, 0, none⟩) rows.length cap) := h.rd.cell rfl
  obtain ⟨i0, f0⟩ := h.kbCell hi
  have h1 := h.setKb hi 109 2
  have HB1 : Hid (Below R.base w _) := h.belowKb (id * 6) (.int .u8 109)
  go_enter Tryz.func106, Tryz.ntmps106
  go_upto_region 1 with fail
  refine name_world fun W hW => ?_
  have h1' : RMem R K k an er pl (.slice (some ⟨nb, 0, none⟩) rows.length cap) mv (rows.set id ⟨109, { (rows[id]).n with kind := 2 }, (rows[id]).kv, (rows[id]).pv⟩) names W := by rw [hW.out]; exact h1
  have HB2 : Hid (Below R.base w W) := by unfold Hid; rw [hW.out]; exact HB1.out
  clear h1 HB1 hW c8 i0 f0
  have d0 : W.cell? ⟨R.b, 0, none⟩ = some (.string R.s) := h1'.rd.cell rfl
  have d3 : W.cell? ⟨R.b, 3, none⟩ = some (.int .i64 (k : Int)) := h1'.rd.cell rfl
  by_cases hb : R.s[k].toNat = 45
  · go_quiet (fail)
    have h2 := h1'.still ((But.refl [] W).drewN nq)
    have HB3 : Hid (Below R.base w (W.drewN nq)) := HB2.out.trans (h1'.belowB ((But.refl [R.b] W).drewN nq))
    generalize W.drewN nq = W2 at *
    have hlen : rows.length = (rows.set id ⟨109, { (rows[id]).n with kind := 2 }, (rows[id]).kv, (rows[id]).pv⟩).length := by simp
    rw [hlen] at h2
    have hi2 : id < (rows.set id ⟨109, { (rows[id]).n with kind := 2 }, (rows[id]).kv, (rows[id]).pv⟩).length := by rw [← hlen]; exact hi
    have e8 : W2.cell? ⟨R.b, 8, none⟩ = some (.slice (some ⟨nb, 0, none⟩) (rows.set id ⟨109, { (rows[id]).n with kind := 2 }, (rows[id]).kv, (rows[id]).pv⟩).length cap) := h2.rd.cell rfl
    obtain ⟨j0, g0⟩ := h2.kbCell hi2
    have h3 := h2.setKb hi2 108 1
    rw [List.set_set, ← hlen] at h3
    rw [← hlen] at e8
    have HB4 : Hid (Below R.base w _) := HB3.out.trans (h2.belowKb (id * 6) (.int .u8 108))
    clear hlen
    go_upto_region 3 with fail
    refine name_world fun W3 hW => ?_
    rw [← hW.out] at HB4
    have h3' : ∃ r', RMem R K k an er pl (.slice (some ⟨nb, 0, none⟩) rows.length cap) mv (rows.set id r') names W3 := by rw [hW.out]; exact ⟨_, h3⟩
    clear h3 h2 hW e8 j0 g0
    obtain ⟨r', h3'⟩ := h3'
    go_loopg [8, 9] 1 (fun _ _ _ wr => RMem R K k an er pl (.slice (some ⟨nb, 0, none⟩) rows.length cap) mv (rows.set id r') names wr ∧ Below R.base w wr)
    case atStart => exact ⟨h3', HB4.out⟩
    case round =>
      obtain ⟨h4, hb4⟩ := hrel
      have g11 : wr.cell? ⟨R.b, 11, none⟩ = some (.int .i64 (er : Int)) := h4.rd.cell rfl
      go_wp2_with fail
      go_end0
      exact ⟨rfl, hb4, r', h4⟩
  · go_quiet (fail)
    have h2 := h1'.still ((But.refl [] W).drewN nq)
    have HB3 : Hid (Below R.base w (W.drewN nq)) := HB2.out.trans (h1'.belowB ((But.refl [R.b] W).drewN nq))
    generalize W.drewN nq = W2 at *
    go_wp2_with fail
    go_loopg [8, 9] 1 (fun _ _ _ wr => RMem R K k an er pl (.slice (some ⟨nb, 0, none⟩) rows.length cap) mv (rows.set id ⟨109, { (rows[id]).n with kind := 2 }, (rows[id]).kv, (rows[id]).pv⟩) names wr ∧ Below R.base w wr)
    case atStart => exact ⟨h2, HB3.out⟩
    case round =>
      obtain ⟨h4, hb4⟩ := hrel
      have g11 : wr.cell? ⟨R.b, 11, none⟩ = some (.int .i64 (er : Int)) := h4.rd.cell rfl
      go_wp2_with fail
      go_end0
      exact ⟨rfl, hb4, _, h4⟩

end Go.Proofs.YtkflkmmbakccoaaGreatDoor

/- WALKS: package grafterref: below. -/
namespace Go.Proofs.YtkflkmmbakccoaaGreatDoor
open Go.RowKit Go.Maps

theorem RSt.goto {s : ByteArray} {ov : Over} {t t' : PS} {rows : List RRow} {names : List (ByteArray × Nat)} {an : Nat} (h : RSt s ov t rows names an) (h1 : t'.nodes = t.nodes) (h2 : t'.names = t.names) (h3 : t'.anchors = t.anchors) (hk : t'.k ≤ s.size) : RSt s ov t' rows names an := by
  obtain ⟨k, ind, nodes, anchors, nms⟩ := t
  obtain ⟨k', ind', nodes', anchors', nms'⟩ := t'
  simp only at h1 h2 h3 hk
  subst h1 h2 h3
  exact ⟨h.len, h.shut, h.opened, h.names, h.an, ⟨hk, h.wf.nodes, h.wf.anchors, h.wf.names, h.wf.named, h.wf.heavy, h.wf.high⟩⟩

/-- Does a line not begin the block that must be there? -/
def NotBelow (bv : Bool) (ind d : Nat) (c : Int) : Prop := bv = true ↔ ¬ (ind = 2 * d ∧ (isWB c = true ∨ c = 45 ∨ c = 34))

theorem goBelowM_line {R : REnv} (hE : REnvOk R) {K : Nat} {l l' : LineV} (hl : R.L[K]? = some l) (hl' : R.L[K + 1]? = some l') {t : PS} (ht : t.k = l.en) (d : Nat) :
    goBelowM R.s d t = if l'.ind = 2 * d ∧ (isWB (byteAt R.s l'.at') = true ∨ byteAt R.s l'.at' = 45 ∨ byteAt R.s l'.at' = 34) then .ok () (nextM R.s t) else .bad 3 l'.at' := by
  obtain ⟨h1, h2⟩ := (hE.next hl t ht).1 l' hl'
  have hnb := hE.nb hl'
  have hL' := hE.line hl'
  have ha := hL'.at'
  have he := hL'.en
  have hk : kindAt R.s l'.at' = kindB (byteAt R.s l'.at') := by rw [kindAt, if_pos (by omega)]
  have hkk : (kindAt R.s l'.at' = 4 ∨ kindAt R.s l'.at' = 2 ∨ kindAt R.s l'.at' = 3) ↔ (isWB (byteAt R.s l'.at') = true ∨ byteAt R.s l'.at' = 45 ∨ byteAt R.s l'.at' = 34) := by
    rw [hk, kindB_2, kindB_3, (kindB_tab _).2.1]
    constructor
    · rintro (h | h | h)
      · exact .inr (.inl h)
      · exact .inl h
      · exact .inr (.inr h)
    · rintro (h | h | h)
      · exact .inr (.inl h)
      · exact .inl h
      · exact .inr (.inr h)
  have e : nextM R.s t = ⟨l'.at', l'.ind, t.nodes, t.anchors, t.names⟩ := by rw [← h1, ← h2]; rfl
  unfold goBelowM
  simp only [e, hnb, hkk]

theorem goBelowM_none {R : REnv} (hE : REnvOk R) {K : Nat} {l : LineV} (hl : R.L[K]? = some l) (hlen : R.L.length ≤ K + 1) {t : PS} (ht : t.k = l.en) (d : Nat) : goBelowM R.s d t = .bad 3 R.s.size := by
  have h2 := (hE.next hl t ht).2 hlen
  have e : skipBl R.s R.s.size = R.s.size := skipBl_end R.s _ (by omega)
  have k0 : kindAt R.s R.s.size = 0 := by rw [kindAt, if_neg (by omega)]
  unfold goBelowM
  simp only [h2, e, k0]
  rw [if_neg (by omega)]

set_option maxRecDepth 20000 in
set_option maxHeartbeats 4000000 in
theorem rbelow_new {R : REnv} (hE : REnvOk R) {ov : Over} {K : Nat} {t : PS} {w : World} (h : RGood R ov K t w) (hke : ∀ l, R.L[K]? = some l → t.k = l.en) (d : Nat) (blk : Nat → PS → Res Unit) (hb : (d : Int) + 1 ≤ R.B.depth → RBlockSaid R d blk) (iv lv : Int) (hiv : iv = 2 * (d : Int)) (hlv : lv = (d : Int) + 1) :
    Calls Tryz.prog 174 #[.pointer (some ⟨R.b, 0, none⟩), .int .i64 iv, .int .i64 lv, .int .i64 (-1)] w fun e w' => RPostNE R ov t w (belowM R.s R.B blk d t) e w' := by
  obtain ⟨nv, mv, rows, names, hM, hS, l, hl, hind, hat, hen⟩ := h
  have hsz := hE.s
  have hKL : R.L.length ≤ 1000 := by
    rw [hE.L]
    exact Nat.le_trans (linesFrom_len R.s 0 (by omega)) (by omega)
  have hK : K < R.L.length := (List.getElem?_eq_some_iff.1 hl).1
  have HS : Hid _ := hS
  have HL : Hid _ := hl
  have HKE : Hid _ := hke
  have HMW : Hid _ := hM
  have hnx := rnext_any hM (by omega)
  have HHL : Hid _ := hlv
  have HHI : Hid _ := hiv
  have HB0 : Hid _ := hb
  clear hS hl hke hind hM hlv hiv hb
  go_enter Tryz.func174, Tryz.ntmps174
  go_wp2_with fail
  refine hnx.mono ?_
  rintro e w1 ⟨hb1, ⟨l', hl', rfl, h1⟩ | ⟨hlen, rfl, h1⟩⟩
  · have hL' := hE.line hl'
    have ha' := hL'.at'
    have he' := hL'.en
    have has : l'.at' < R.s.size := by omega
    have HL' : Hid _ := hl'
    have HNX : Hid _ := (hE.next HL.out t (HKE.out l HL.out)).1 l' hl'
    have HGB : Hid _ := goBelowM_line hE HL.out hl' (HKE.out l HL.out) d
    have HSN : Hid (RSt R.s ov (nextM R.s t) rows names t.anchors) := HS.out.goto rfl rfl rfl (by rw [(HNX.out).2]; omega)
    clear hl'
    have hby := byteAt_lt R.s l'.at' has
    rw [hby] at HGB
    have hcb : 0 ≤ (R.s[l'.at'].toNat : Int) ∧ (R.s[l'.at'].toNat : Int) ≤ 255 := by
      have := R.s[l'.at'].toNat_lt
      omega
    clear hby
    have d0 : w1.cell? ⟨R.b, 0, none⟩ = some (.string R.s) := h1.rd.cell rfl
    have d3 : w1.cell? ⟨R.b, 3, none⟩ = some (.int .i64 (l'.at' : Int)) := h1.rd.cell rfl
    go_upto_region 5 with fail
    go_quiet (fail)
    have h2 := h1.still ((But.refl [] w1).drewN nq)
    have hb2 : But [R.b] w (w1.drewN nq) := hb1.drewN nq
    generalize w1.drewN nq = W at *
    generalize (R.s[l'.at'].toNat : Int) = c at *
    clear d0 d3 h1 hb1
    go_upto_region 7 with (go_at_call 109; refine (letter_any _ _).mono ?_; rintro e w' ⟨rfl, hww⟩; have hww2 := hww.symm; clear hww; subst hww2)
    have hKJ : K + 1 < R.L.length := (List.getElem?_eq_some_iff.1 HL'.out).1
    obtain ⟨lb, lcap, hlve, hlc, l0, _, _⟩ := ownsLine h2.lines (K + 1) hKJ
    have hle : R.L[K + 1] = l' := (List.getElem?_eq_some_iff.1 HL'.out).2
    rw [hle] at l0
    have e1 : W.cell? ⟨R.b, 1, none⟩ = some R.lv := h2.rd.cell rfl
    rw [hlve] at e1
    have e2 : W.cell? ⟨R.b, 2, none⟩ = some (.int .i64 ((K + 1 : Nat) : Int)) := h2.rd.cell rfl
    have HM2 : Hid _ := h2
    have HBW : Hid _ := hb2
    have HLVE : Hid _ := hlve
    obtain ⟨J, HJ⟩ : ∃ J, Hid (J = K + 1) := ⟨K + 1, (rfl : K + 1 = K + 1)⟩
    rw [← HJ.out] at e2 l0 hKJ
    clear h2 hb2 hle hlve
    go_cut [60] from 36 to 59 (fun v wc => ∃ bv : Bool, v = .bool bv ∧ NotBelow bv l'.ind d c ∧ ∃ m, wc = W.drewN m)
    case first =>
      by_cases g1 : l'.ind = 2 * d
      · have b1 : ((l'.ind : Int) != iv) = false := by rw [HHI.out]; simp [g1]
        have G1 : Hid _ := g1
        clear g1
        by_cases g2 : isWB c = true
        · go_quiet (fail)
          go_wp2_with fail
          go_meet
          case rel => exact ⟨_, rfl, by unfold NotBelow; simp [G1.out, g2], _, rfl⟩
        · have g2' : isWB c = false := by simpa using g2
          by_cases g3 : c = 45
          · have b3 : (c != 45) = false := by simp [g3]
            have G3 : Hid _ := g3
            clear g3
            go_quiet (fail)
            go_wp2_with fail
            go_meet
            case rel => exact ⟨_, rfl, by unfold NotBelow; simp [G1.out, G3.out], _, rfl⟩
          · have b3 : (c != 45) = true := by simp [g3]
            by_cases g4 : c = 34
            · have b4 : (c != 34) = false := by simp [g4]
              have G4 : Hid _ := g4
              clear g4
              go_quiet (fail)
              go_wp2_with fail
              go_meet
              case rel => exact ⟨_, rfl, by unfold NotBelow; simp [G1.out, G4.out], _, rfl⟩
            · have b4 : (c != 34) = true := by simp [g4]
              go_quiet (fail)
              go_wp2_with fail
              go_meet
              case rel => exact ⟨_, rfl, by unfold NotBelow; simp [g2', g3, g4], _, rfl⟩
      · have b1 : ((l'.ind : Int) != iv) = true := by rw [HHI.out]; simp; omega
        go_quiet (fail)
        go_wp2_with fail
        go_meet
        case rel => exact ⟨_, rfl, by unfold NotBelow; simp [g1], _, rfl⟩
    case rest =>
      obtain ⟨bv, rfl, HBV, m, hwc⟩ := hcut
      have hM2 : RMem R (K + 1) l'.at' t.anchors 0 0 nv mv rows names wc := by rw [hwc]; exact HM2.out.still ((But.refl [] W).drewN m)
      have HB2 : Hid (Below R.base w wc) := HMW.out.belowB (by rw [hwc]; exact HBW.out.drewN m)
      clear hwc
      obtain ⟨W2, hW2⟩ : ∃ W2, W2 = wc := ⟨wc, rfl⟩
      subst hW2
      clear e1 e2 l0 HM2 HBW
      cases bv with
      | true =>
        have HM : Hid (belowM R.s R.B blk d t = .bad 3 l'.at') := by unfold Hid belowM; rw [HGB.out, if_neg (HBV.1 rfl)]; rfl
        have d3 : W2.cell? ⟨R.b, 3, none⟩ = some (.int .i64 (l'.at' : Int)) := hM2.rd.cell rfl
        go_wp2_with fail
        refine (rwrong_any hM2 3 l'.at').mono ?_
        rintro e w3 ⟨rfl, h3, hb3⟩
        have d11 : w3.cell? ⟨R.b, 11, none⟩ = some (.int .i64 3) := h3.rd.cell rfl
        go_wp2_with fail
        go_ret
        refine ⟨HB2.out.trans (hM2.belowB hb3), ?_⟩
        rw [HM.out]
        exact ⟨⟨0, rfl⟩, HS.out.bad h3 (by simp)⟩
      | false =>
        have d11 : W2.cell? ⟨R.b, 11, none⟩ = some (.int .i64 0) := hM2.rd.cell rfl
        have HM : Hid (belowM R.s R.B blk d t = (beginM R.B ((d : Int) + 1) (nextM R.s t)).bind fun id t2 => (blk id t2).bind fun _ t3 => .ok id t3) := by
          unfold Hid belowM
          rw [HGB.out, if_pos (Classical.not_not.1 (fun hc => by have := HBV.2 hc; cases this))]
          rfl
        have hG1 : RGood R ov (K + 1) (nextM R.s t) W2 := RAtLine.good hE ⟨nv, mv, rows, names, by rw [(HNX.out).2]; exact hM2, HSN.out, l', HL'.out, (HNX.out).1, (HNX.out).2⟩
        have hbg := rbegin_good hE hG1 lv
        have hwf1 : WF R.s (nextM R.s t) := HSN.out.wf
        have HBG : Hid _ := hbg
        have HMB : Hid (Below R.base w W2) := HB2.out
        clear hbg hG1 hM2
        go_wp2_with fail
        refine Calls.mono HBG.out ?_
        rintro e w3 ⟨rfl, hb3, hp3⟩
        rw [HHL.out] at hp3
        have HB3 : Hid (Below R.base w w3) := HMB.out.trans hb3
        cases hm : beginM R.B ((d : Int) + 1) (nextM R.s t) with
        | bad er pl =>
          rw [hm] at hp3
          have HM2 : Hid (belowM R.s R.B blk d t = .bad er pl) := by unfold Hid; rw [HM.out, hm]; rfl
          obtain ⟨he, nv3, mv3, rows3, names3, hM3, hA3, hlt3, hov3⟩ := hp3
          have HA3 : Hid (RBadAt ov t er t.anchors rows3 names3) := hA3
          have HER : Hid _ := rblock_err hM3 he (by rw [(HNX.out).2]; omega) (nextM R.s t).nodes.length hlt3 iv lv
          have HOV : Hid (ov (nextM R.s t).nodes.length = none) := hov3
          clear hm hA3 hM3 hov3
          go_wp2_with fail
          refine Calls.mono HER.out ?_
          rintro e w4 ⟨rfl, hb4, r', hM4⟩
          go_wp2_with fail
          go_ret
          refine ⟨HB3.out.trans hb4, ?_⟩
          rw [HM2.out]
          exact ⟨⟨_, rfl⟩, HA3.out.set HOV.out hM4⟩
        | ok id t2 =>
          rw [hm] at hp3
          obtain ⟨rfl, hG3, hov3, hbl3⟩ := hp3
          obtain ⟨hlvd, _, ht2, _, _, s2⟩ := beginM_ok hE.n hwf1 hm
          have HM2 : Hid (belowM R.s R.B blk d t = (blk (nextM R.s t).nodes.length t2).bind fun _ t3 => .ok (nextM R.s t).nodes.length t3) := by unfold Hid; rw [HM.out, hm]; rfl
          have hAt : RAtLine R ov (K + 1) t2 w3 := by
            obtain ⟨nv3, mv3, rows3, names3, hM3, hS3, _⟩ := hG3
            exact ⟨nv3, mv3, rows3, names3, hM3, hS3, l', HL'.out, by rw [ht2]; exact (HNX.out).1, by rw [ht2]; exact (HNX.out).2⟩
          have HBK : Hid _ := HB0.out hlvd ov (K + 1) t2 w3 (nextM R.s t).nodes.length iv lv HHI.out HHL.out hAt hov3 hbl3
          have HST2 : Hid _ := s2
          clear hm hG3 hov3 hbl3 ht2 hAt s2
          go_wp2_with fail
          refine Calls.mono HBK.out ?_
          rintro e w4 ⟨rfl, hb4, hp4⟩
          cases hm : blk (nextM R.s t).nodes.length t2 with
          | ok u t3 =>
            simp only [hm] at hp4
            have HM3 : Hid (belowM R.s R.B blk d t = .ok (nextM R.s t).nodes.length t3) := by unfold Hid; rw [HM2.out, hm]; rfl
            clear hm
            go_wp2_with fail
            go_ret
            refine ⟨HB3.out.trans hb4, ?_⟩
            rw [HM3.out]
            exact ⟨rfl, hp4⟩
          | bad er pl =>
            simp only [hm] at hp4
            have HM3 : Hid (belowM R.s R.B blk d t = .bad er pl) := by unfold Hid; rw [HM2.out, hm]; rfl
            clear hm
            go_wp2_with fail
            go_ret
            refine ⟨HB3.out.trans hb4, ?_⟩
            rw [HM3.out]
            exact ⟨⟨_, rfl⟩, hp4.from HST2.out.len HST2.out.nm⟩
  · have d0 : w1.cell? ⟨R.b, 0, none⟩ = some (.string R.s) := h1.rd.cell rfl
    have HM : Hid (belowM R.s R.B blk d t = .bad 3 R.s.size) := by unfold Hid belowM; rw [goBelowM_none hE HL.out hlen (HKE.out l HL.out) d]; rfl
    go_wp2_with fail
    refine (rwrong_any h1 3 R.s.size).mono ?_
    rintro e w3 ⟨rfl, h3, hb3⟩
    go_wp2_with fail
    go_ret
    refine ⟨HMW.out.belowB (hb1.trans hb3 (by simp)), ?_⟩
    rw [HM.out]
    exact ⟨⟨0, rfl⟩, HS.out.bad h3 (by simp)⟩

set_option maxRecDepth 20000 in
set_option maxHeartbeats 4000000 in
theorem rbelow_old {R : REnv} (hE : REnvOk R) {ov : Over} {K : Nat} {t : PS} {w : World} (h : RGood R ov K t w) (hke : ∀ l, R.L[K]? = some l → t.k = l.en) (d : Nat) (blk : Nat → PS → Res Unit) (hb : RBlockSaid R d blk) (iv lv : Int) (hiv : iv = 2 * (d : Int)) (hlv : lv = (d : Int) + 1) (id : Nat) (hov : ov id = none) (hbl : t.nodes[id]? = some NodeV.blank) :
    Calls Tryz.prog 174 #[.pointer (some ⟨R.b, 0, none⟩), .int .i64 iv, .int .i64 lv, .int .i64 (id : Int)] w fun e w' => (∃ i : Nat, e = .returned (.int .i64 (i : Int))) ∧ RPostE R ov t w ((goBelowM R.s d t).bind fun _ t1 => blk id t1) (.returned (.tuple #[])) w' := by
  obtain ⟨nv, mv, rows, names, hM, hS, l, hl, hind, hat, hen⟩ := h
  have hsz := hE.s
  have hKL : R.L.length ≤ 1000 := by
    rw [hE.L]
    exact Nat.le_trans (linesFrom_len R.s 0 (by omega)) (by omega)
  have hK : K < R.L.length := (List.getElem?_eq_some_iff.1 hl).1
  have HS : Hid _ := hS
  have HL : Hid _ := hl
  have HKE : Hid _ := hke
  have HMW : Hid _ := hM
  have hnx := rnext_any hM (by omega)
  have HHL : Hid _ := hlv
  have HHI : Hid _ := hiv
  have HB0 : Hid _ := hb
  clear hS hl hke hind hM hlv hiv hb
  go_enter Tryz.func174, Tryz.ntmps174
  go_wp2_with fail
  refine hnx.mono ?_
  rintro e w1 ⟨hb1, ⟨l', hl', rfl, h1⟩ | ⟨hlen, rfl, h1⟩⟩
  · have hL' := hE.line hl'
    have ha' := hL'.at'
    have he' := hL'.en
    have has : l'.at' < R.s.size := by omega
    have HL' : Hid _ := hl'
    have HNX : Hid _ := (hE.next HL.out t (HKE.out l HL.out)).1 l' hl'
    have HGB : Hid _ := goBelowM_line hE HL.out hl' (HKE.out l HL.out) d
    have HSN : Hid (RSt R.s ov (nextM R.s t) rows names t.anchors) := HS.out.goto rfl rfl rfl (by rw [(HNX.out).2]; omega)
    clear hl'
    have hby := byteAt_lt R.s l'.at' has
    rw [hby] at HGB
    have hcb : 0 ≤ (R.s[l'.at'].toNat : Int) ∧ (R.s[l'.at'].toNat : Int) ≤ 255 := by
      have := R.s[l'.at'].toNat_lt
      omega
    clear hby
    have d0 : w1.cell? ⟨R.b, 0, none⟩ = some (.string R.s) := h1.rd.cell rfl
    have d3 : w1.cell? ⟨R.b, 3, none⟩ = some (.int .i64 (l'.at' : Int)) := h1.rd.cell rfl
    go_upto_region 5 with fail
    go_quiet (fail)
    have h2 := h1.still ((But.refl [] w1).drewN nq)
    have hb2 : But [R.b] w (w1.drewN nq) := hb1.drewN nq
    generalize w1.drewN nq = W at *
    generalize (R.s[l'.at'].toNat : Int) = c at *
    clear d0 d3 h1 hb1
    go_upto_region 7 with (go_at_call 109; refine (letter_any _ _).mono ?_; rintro e w' ⟨rfl, hww⟩; have hww2 := hww.symm; clear hww; subst hww2)
    have hKJ : K + 1 < R.L.length := (List.getElem?_eq_some_iff.1 HL'.out).1
    obtain ⟨lb, lcap, hlve, hlc, l0, _, _⟩ := ownsLine h2.lines (K + 1) hKJ
    have hle : R.L[K + 1] = l' := (List.getElem?_eq_some_iff.1 HL'.out).2
    rw [hle] at l0
    have e1 : W.cell? ⟨R.b, 1, none⟩ = some R.lv := h2.rd.cell rfl
    rw [hlve] at e1
    have e2 : W.cell? ⟨R.b, 2, none⟩ = some (.int .i64 ((K + 1 : Nat) : Int)) := h2.rd.cell rfl
    have HM2 : Hid _ := h2
    have HBW : Hid _ := hb2
    have HLVE : Hid _ := hlve
    obtain ⟨J, HJ⟩ : ∃ J, Hid (J = K + 1) := ⟨K + 1, (rfl : K + 1 = K + 1)⟩
    rw [← HJ.out] at e2 l0 hKJ
    clear h2 hb2 hle hlve
    go_cut [60] from 36 to 59 (fun v wc => ∃ bv : Bool, v = .bool bv ∧ NotBelow bv l'.ind d c ∧ ∃ m, wc = W.drewN m)
    case first =>
      by_cases g1 : l'.ind = 2 * d
      · have b1 : ((l'.ind : Int) != iv) = false := by rw [HHI.out]; simp [g1]
        have G1 : Hid _ := g1
        clear g1
        by_cases g2 : isWB c = true
        · go_quiet (fail)
          go_wp2_with fail
          go_meet
          case rel => exact ⟨_, rfl, by unfold NotBelow; simp [G1.out, g2], _, rfl⟩
        · have g2' : isWB c = false := by simpa using g2
          by_cases g3 : c = 45
          · have b3 : (c != 45) = false := by simp [g3]
            have G3 : Hid _ := g3
            clear g3
            go_quiet (fail)
            go_wp2_with fail
            go_meet
            case rel => exact ⟨_, rfl, by unfold NotBelow; simp [G1.out, G3.out], _, rfl⟩
          · have b3 : (c != 45) = true := by simp [g3]
            by_cases g4 : c = 34
            · have b4 : (c != 34) = false := by simp [g4]
              have G4 : Hid _ := g4
              clear g4
              go_quiet (fail)
              go_wp2_with fail
              go_meet
              case rel => exact ⟨_, rfl, by unfold NotBelow; simp [G1.out, G4.out], _, rfl⟩
            · have b4 : (c != 34) = true := by simp [g4]
              go_quiet (fail)
              go_wp2_with fail
              go_meet
              case rel => exact ⟨_, rfl, by unfold NotBelow; simp [g2', g3, g4], _, rfl⟩
      · have b1 : ((l'.ind : Int) != iv) = true := by rw [HHI.out]; simp; omega
        go_quiet (fail)
        go_wp2_with fail
        go_meet
        case rel => exact ⟨_, rfl, by unfold NotBelow; simp [g1], _, rfl⟩
    case rest =>
      obtain ⟨bv, rfl, HBV, m, hwc⟩ := hcut
      have hM2 : RMem R (K + 1) l'.at' t.anchors 0 0 nv mv rows names wc := by rw [hwc]; exact HM2.out.still ((But.refl [] W).drewN m)
      have HB2 : Hid (Below R.base w wc) := HMW.out.belowB (by rw [hwc]; exact HBW.out.drewN m)
      clear hwc
      obtain ⟨W2, hW2⟩ : ∃ W2, W2 = wc := ⟨wc, rfl⟩
      subst hW2
      clear e1 e2 l0 HM2 HBW
      cases bv with
      | true =>
        have HM : Hid (((goBelowM R.s d t).bind fun _ t1 => blk id t1) = .bad 3 l'.at') := by unfold Hid; rw [HGB.out, if_neg (HBV.1 rfl)]; rfl
        have d3 : W2.cell? ⟨R.b, 3, none⟩ = some (.int .i64 (l'.at' : Int)) := hM2.rd.cell rfl
        go_wp2_with fail
        refine (rwrong_any hM2 3 l'.at').mono ?_
        rintro e w3 ⟨rfl, h3, hb3⟩
        have d11 : w3.cell? ⟨R.b, 11, none⟩ = some (.int .i64 3) := h3.rd.cell rfl
        go_wp2_with fail
        go_ret
        refine ⟨⟨0, rfl⟩, rfl, HB2.out.trans (hM2.belowB hb3), ?_⟩
        rw [HM.out]
        exact HS.out.bad h3 (by simp)
      | false =>
        have d11 : W2.cell? ⟨R.b, 11, none⟩ = some (.int .i64 0) := hM2.rd.cell rfl
        have HM : Hid (((goBelowM R.s d t).bind fun _ t1 => blk id t1) = blk id (nextM R.s t)) := by
          unfold Hid
          rw [HGB.out, if_pos (Classical.not_not.1 (fun hc => by have := HBV.2 hc; cases this))]
          rfl
        have HBK : Hid _ := HB0.out ov (K + 1) (nextM R.s t) W2 id iv lv HHI.out HHL.out ⟨nv, mv, rows, names, by rw [(HNX.out).2]; exact hM2, HSN.out, l', HL'.out, (HNX.out).1, (HNX.out).2⟩ hov hbl
        clear hM2
        go_wp2_with fail
        refine Calls.mono HBK.out ?_
        rintro e w4 ⟨rfl, hb4, hp4⟩
        go_wp2_with fail
        go_ret
        refine ⟨⟨id, rfl⟩, rfl, HB2.out.trans hb4, ?_⟩
        rw [HM.out]
        cases hm : blk id (nextM R.s t) with
        | ok u t3 =>
          simp only [hm] at hp4
          exact hp4
        | bad er pl =>
          simp only [hm] at hp4
          exact hp4
  · have d0 : w1.cell? ⟨R.b, 0, none⟩ = some (.string R.s) := h1.rd.cell rfl
    have HM : Hid (((goBelowM R.s d t).bind fun _ t1 => blk id t1) = .bad 3 R.s.size) := by unfold Hid; rw [goBelowM_none hE HL.out hlen (HKE.out l HL.out) d]; rfl
    go_wp2_with fail
    refine (rwrong_any h1 3 R.s.size).mono ?_
    rintro e w3 ⟨rfl, h3, hb3⟩
    go_wp2_with fail
    go_ret
    refine ⟨⟨0, rfl⟩, rfl, HMW.out.belowB (hb1.trans hb3 (by simp)), ?_⟩
    rw [HM.out]
    exact HS.out.bad h3 (by simp)

end Go.Proofs.YtkflkmmbakccoaaGreatDoor
