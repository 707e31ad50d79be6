/- PARTS: R22, R23. -/
import Derived.Test.YtkflkmmbakccoaaGreatDoorI25

/- WALKS: package grafterref: item. -/
namespace Go.Proofs.YtkflkmmbakccoaaGreatDoor
open Go.RowKit Go.Maps

/-- Behind the taking of a name. -/
theorem item_named {R : REnv} {ov : Over} {t : PS} {id K3 k3 an3 er3 pl3 : Nat} {x : ByteArray} {res : Res Nat} {rows3 : List RRow} {names3 : List (ByteArray × Nat)} {nv mv : Value} {w : World} (h : NmAfter R ov (AtG R) t id x res K3 k3 an3 er3 pl3 rows3 names3) (hwf : ∀ t', res = .ok id t' → WF R.s t') (hM : RMem R K3 k3 an3 er3 pl3 nv mv rows3 (names3 ++ [(x, id)]) w) :
    match (motive := Res Nat → Prop) res with
    | .ok i t' => Ending.returned (.int .i64 (id : Int)) = .returned (.int .i64 (i : Int)) ∧ RGoodE R ov t' w
    | .bad er pl => (∃ i : Nat, Ending.returned (.int .i64 (id : Int)) = .returned (.int .i64 (i : Int))) ∧ RBad R ov t er pl w := by
  rcases h with ⟨er, pl, hres, rfl, rfl, hN⟩ | ⟨t3, hres, rfl, rfl, rfl, hG, hS⟩
  · subst hres
    exact ⟨⟨_, rfl⟩, hN.name hM⟩
  · have hw := hwf _ hres
    subst hres
    exact ⟨rfl, RGoodE.mk hM (hS.name hw) hG⟩

theorem itemS_below (s : ByteArray) (B : Bud) (blk : Nat → Nat → PS → Res Unit) (d : Nat) (t : PS) (h : lineOver s (skipBl s t.k) = true) : itemS s B blk d t = belowM s B (fun id => blk id (d + 1)) (d + 1) { t with k := skipBl s t.k } := by
  have e : ((d + 1 : Nat) : Int) + 1 = (d : Int) + 2 := by omega
  unfold itemS belowM
  simp only [e]
  rw [if_pos h]

theorem itemS_named (s : ByteArray) (B : Bud) (blk : Nat → Nat → PS → Res Unit) (d : Nat) (t : PS) (h : ¬ lineOver s (skipBl s t.k) = true) (h8 : kindAt s (skipBl s t.k) = 8) : itemS s B blk d t = (beginM B (d + 2) { t with k := skipBl s t.k }).bind fun id t1 => (anchorM s B t1).bind fun x t2 => (namedItemS s B blk d id t2).bind fun _ t3 => .ok id { t3 with names := (x, id) :: t3.names } := by
  unfold itemS
  simp only
  rw [if_neg h, if_pos h8, namedM_anchor]

theorem itemS_flow (s : ByteArray) (B : Bud) (blk : Nat → Nat → PS → Res Unit) (d : Nat) (t : PS) (h : ¬ lineOver s (skipBl s t.k) = true) (h8 : ¬ kindAt s (skipBl s t.k) = 8) : itemS s B blk d t = (flowM s B 21 (d + 2) { t with k := skipBl s t.k }).bind fun id t1 => (endLineM s t1).bind fun _ t2 => .ok id t2 := by
  unfold itemS
  simp only
  rw [if_neg h, if_neg h8]

theorem namedItemS_below (s : ByteArray) (B : Bud) (blk : Nat → Nat → PS → Res Unit) (d id : Nat) (t : PS) (h : lineOver s (skipBl s t.k) = true) : namedItemS s B blk d id t = (goBelowM s (d + 1) { t with k := skipBl s t.k }).bind fun _ t1 => blk id (d + 1) t1 := by
  unfold namedItemS
  simp only
  rw [if_pos h]

theorem namedItemS_value (s : ByteArray) (B : Bud) (blk : Nat → Nat → PS → Res Unit) (d id : Nat) (t : PS) (h : ¬ lineOver s (skipBl s t.k) = true) : namedItemS s B blk d id t = (valueM s B 21 id (d + 2) { t with k := skipBl s t.k }).bind fun _ t1 => endLineM s t1 := by
  unfold namedItemS
  simp only
  rw [if_neg h]

theorem RBad.any {R : REnv} {ov : Over} {t : PS} {er pl : Nat} {w : World} (h : RBad R ov t er pl w) : er ≠ 0 ∧ ∃ K k an nv mv rows names, RMem R K k an er pl nv mv rows names w := by
  obtain ⟨he, K, k, an, nv, mv, rows, names, hM, _⟩ := h
  exact ⟨he, K, k, an, nv, mv, rows, names, hM⟩

set_option maxRecDepth 20000 in
set_option maxHeartbeats 4000000 in
theorem ritem_any {R : REnv} (hE : REnvOk R) {ov : Over} {K : Nat} {t : PS} {w : World} (h : RGood R ov K t w) (d : Nat) (hd : d ≤ 25) (blk : Nat → Nat → PS → Res Unit) (hbs : (d : Int) + 2 ≤ R.B.depth → RBlockSaid R (d + 1) (fun id => blk id (d + 1))) (hbo : ∀ (id d : Nat), ValOk R.s R.B id ((d : Int) + 1) (blk id d)) (iv lv : Int) (hiv : iv = 2 * (d : Int)) (hlv : lv = (d : Int) + 2) :
    Calls Tryz.prog 133 #[.pointer (some ⟨R.b, 0, none⟩), .int .i64 iv, .int .i64 lv] w fun e w' => RPostNE R ov t w (itemS R.s R.B blk d t) e w' := by
  obtain ⟨i0, hi0, hz0, hz1, hz2⟩ := info_parts infoName
  obtain ⟨nv, mv, rows, names, hM, hS, l, hl, hind, hat, hen⟩ := h
  have hL := hE.line hl
  have hq := skipBl_en R.s t.k l.en hen hL.en hL.nl
  have hq0 := skipBl_ge R.s t.k
  have hsz := hE.s
  have hes := hL.en
  have hD := hE.d
  have hivb : 0 ≤ iv ∧ iv ≤ 100 := by omega
  have hlvb : 0 ≤ lv ∧ lv ≤ 100 := by omega
  have hnow := rnow_any hM hE.s hl hL hen
  have hlo := lineOver_iff (q := skipBl R.s t.k) hL (by omega) hq
  have n8 := nowB_kind (κ := 8) hL hen (by decide) (by decide) (by decide)
  rw [(kindB_tab _).2.2.2.2.2.1] at n8
  have HG : Hid (∀ w1, RMem R K (skipBl R.s t.k) t.anchors 0 0 nv mv rows names w1 → RGood R ov K { t with k := skipBl R.s t.k } w1) := fun w1 h2 => ⟨nv, mv, rows, names, h2, hS.move (by omega), l, hl, hind, by simp only; omega, by simp only; omega⟩
  have hwf : WF R.s t := hS.wf
  have HFO : Hid _ := itemS_ok (d := d) hD hE.n hE.a hbo
  have HL : Hid _ := hl
  have HBS : Hid _ := hbs
  have HMW : Hid _ := hM
  have HIV : Hid _ := hiv
  have HLV : Hid _ := hlv
  have HLO : Hid _ := hlo
  have HN8 : Hid _ := n8
  have HFS : Hid (RFlowSaid R lv (flowM R.s R.B 21 lv)) := rflow_any hE 21 lv (by omega) (by omega) (by omega)
  clear hS hl hind hbs hbo hM hiv hlv hlo n8
  generalize nowB R.s t.k l.en = c at *
  by_cases hov : lineOver R.s (skipBl R.s t.k) = true
  · have HM0 : Hid _ := itemS_below R.s R.B blk d t hov
    have hqe := HLO.out.1 hov
    have hbq : ((skipBl R.s t.k : Int) == (l.en : Int)) = true := by rw [hqe]; simp
    have HQE : Hid _ := hqe
    clear hqe hov HLO HN8
    generalize skipBl R.s t.k = q at *
    go_enter Tryz.func133, Tryz.ntmps133
    go_wp2_with fail
    refine hnow.mono ?_
    rintro e w1 ⟨rfl, h2, hb2⟩
    have d3 : w1.cell? ⟨R.b, 3, none⟩ = some (.int .i64 (q : Int)) := h2.rd.cell rfl
    go_upto_region 2 with fail
    go_quiet ((go_at_call 173; exact Calls.quiet_of (rendQ h2 HL.out _)))
    have h3 := h2.still ((But.refl [] w1).drewN nq)
    have hb3 : But [R.b] w (w1.drewN nq) := hb2.drewN nq
    generalize w1.drewN nq = W at *
    clear h2 hb2 d3
    have HBL : Hid _ := rbelow_new hE (HG.out W h3) (fun l2 hl2 => by have := HL.out.symm.trans hl2; have e := Option.some.inj this; rw [← e]; exact HQE.out) (d + 1) (fun id => blk id (d + 1)) (fun hh => HBS.out (by omega)) (iv + 2) lv (by rw [HIV.out]; omega) (by rw [HLV.out]; omega)
    go_wp2_with fail
    refine Calls.mono HBL.out ?_
    rintro e w4 ⟨hb4, hp4⟩
    have HB4 : Hid (Below R.base w w4) := (HMW.out.belowB hb3).trans hb4
    cases hm : belowM R.s R.B (fun id => blk id (d + 1)) (d + 1) { t with k := q } with
    | ok id t3 =>
      simp only [hm] at hp4
      obtain ⟨rfl, hg⟩ := hp4
      have HM : Hid (itemS R.s R.B blk d t = .ok id t3) := by unfold Hid; rw [HM0.out, hm]
      clear hm HBL HM0
      go_wp2_with fail
      go_ret
      refine ⟨HB4.out, ?_⟩
      rw [HM.out]
      exact ⟨rfl, hg⟩
    | bad er pl =>
      simp only [hm] at hp4
      obtain ⟨⟨i, rfl⟩, hg⟩ := hp4
      have HM : Hid (itemS R.s R.B blk d t = .bad er pl) := by unfold Hid; rw [HM0.out, hm]
      clear hm HBL HM0
      go_wp2_with fail
      go_ret
      refine ⟨HB4.out, ?_⟩
      rw [HM.out]
      exact ⟨⟨i, rfl⟩, hg⟩
  · have hbq : ((skipBl R.s t.k : Int) == (l.en : Int)) = false := by
      have : skipBl R.s t.k ≠ l.en := fun e => hov (HLO.out.2 e)
      simp; omega
    by_cases h8 : kindAt R.s (skipBl R.s t.k) = 8
    · have HM0 : Hid _ := itemS_named R.s R.B blk d t hov h8
      have hce := HN8.out.1 h8
      subst hce
      have H8 : Hid _ := h8
      clear h8 hov HLO HN8
      generalize skipBl R.s t.k = q at *
      go_enter Tryz.func133, Tryz.ntmps133
      go_wp2_with fail
      refine hnow.mono ?_
      rintro e w1 ⟨rfl, h2, hb2⟩
      have d3 : w1.cell? ⟨R.b, 3, none⟩ = some (.int .i64 (q : Int)) := h2.rd.cell rfl
      go_upto_region 2 with fail
      go_quiet ((go_at_call 173; exact Calls.quiet_of (rendQ h2 HL.out _)))
      have h3 := h2.still ((But.refl [] w1).drewN nq)
      have hb3 : But [R.b] w (w1.drewN nq) := hb2.drewN nq
      generalize w1.drewN nq = W at *
      clear h2 hb2 d3
      go_wp2_with fail
      refine (rbegin_good hE (HG.out W h3) lv).mono ?_
      rintro e w2 ⟨rfl, hb4, hp2⟩
      have HB2 : Hid (Below R.base w w2) := (HMW.out.belowB hb3).trans hb4
      rw [HLV.out] at hp2
      clear hb4 hb3 h3
      cases hm : beginM R.B ((d : Int) + 2) { t with k := q } with
      | bad er pl =>
        rw [hm] at hp2
        have HM : Hid (itemS R.s R.B blk d t = .bad er pl) := by unfold Hid; rw [HM0.out, hm]; rfl
        obtain ⟨he, nv2, mv2, rows2, names2, hM2, hA2, _, _⟩ := hp2
        have d11 : w2.cell? ⟨R.b, 11, none⟩ = some (.int .i64 (er : Int)) := hM2.rd.cell rfl
        have HA2 : Hid (RBadAt ov t er t.anchors rows2 names2) := hA2
        clear hm HM0 hA2
        go_wp2_with fail
        go_ret
        refine ⟨HB2.out, ?_⟩
        rw [HM.out]
        exact ⟨⟨0, rfl⟩, HA2.out.bad hM2⟩
      | ok id t1 =>
        rw [hm] at hp2
        obtain ⟨rfl, hG2, hov2, hbl2⟩ := hp2
        simp only at hG2 hov2 hbl2
        obtain ⟨hlvd, _, ht1, _, _, _⟩ := beginM_ok hE.n (hwf.move (k := q) (by omega)) hm
        simp only at ht1
        have HM1 : Hid (itemS R.s R.B blk d t = (anchorM R.s R.B t1).bind fun x t2 => (namedItemS R.s R.B blk d t.nodes.length t2).bind fun _ t3 => .ok t.nodes.length { t3 with names := (x, t.nodes.length) :: t3.names }) := by unfold Hid; rw [HM0.out, hm]; rfl
        have d11 : w2.cell? ⟨R.b, 11, none⟩ = some (.int .i64 0) := by
          obtain ⟨_, _, _, _, hMx, _⟩ := hG2
          exact hMx.rd.cell rfl
        have HT1 : Hid _ := ht1
        have hk8 : kindAt R.s t1.k = 8 := by rw [HT1.out]; exact H8.out
        have HK8 : Hid _ := hk8
        have hnl1 : t.nodes.length ≤ t1.nodes.length := by rw [HT1.out]; simp
        have HNM : Hid (t1.names = t.names) := by unfold Hid; rw [HT1.out]
        have HAN : Hid (t1.anchors = t.anchors) := by unfold Hid; rw [HT1.out]
        clear hm HM0 ht1 hk8
        go_wp2_with fail
        refine (ranchor_good hE hG2 HK8.out).mono ?_
        rintro e w3 ⟨x, rfl, hb3, hp3⟩
        have HB3 : Hid (Below R.base w w3) := HB2.out.trans hb3
        clear hb3 HB2 hG2 d11
        cases hm : anchorM R.s R.B t1 with
        | bad er pl =>
          rw [hm] at hp3
          obtain ⟨l3, k3, nv3, mv3, rows3, names3, hl3, hk3, hM3, hN3⟩ := hp3
          have HM2 : Hid (itemS R.s R.B blk d t = .bad er pl) := by unfold Hid; rw [HM1.out, hm]; rfl
          have he := hN3.1.1
          have hN := hN3.from hnl1 HNM.out HAN.out
          have hnl := hN.len hwf
          have HL3 : Hid _ := hl3
          have hL3 := hE.line hl3
          have hnow3 := rnow_any hM3 hE.s hl3 hL3 hk3
          have hq3 := skipBl_en R.s k3 l3.en hk3 hL3.en hL3.nl
          have HAF : Hid (NmAfter R ov (AtG R) t t.nodes.length x (itemS R.s R.B blk d t) K (skipBl R.s (skipBl R.s k3)) (t1.anchors + 1) er pl rows3 names3) := .inl ⟨er, pl, HM2.out, rfl, rfl, hN⟩
          generalize nowB R.s k3 l3.en = c3 at *
          clear hm hl3 hN3 hN HM1 HM2
          generalize skipBl R.s k3 = q3 at *
          go_wp2_with fail
          refine hnow3.mono ?_
          rintro e w4 ⟨rfl, h4, hb4⟩
          have d11 : w4.cell? ⟨R.b, 11, none⟩ = some (.int .i64 (er : Int)) := h4.rd.cell rfl
          have heb : ((er : Int) == 0) = false := by simp; omega
          go_upto_region 11 with fail
          go_quiet (fail)
          have h5 := h4.still ((But.refl [] w4).drewN nq)
          have HB5 : Hid (Below R.base w (w4.drewN nq)) := HB3.out.trans (hM3.belowB (hb4.drewN nq))
          generalize w4.drewN nq = W5 at *
          clear h4 hb4 d11 hnow3 HB3 hM3
          go_wp2_with fail
          refine (rvalue_err h5 he hE.s HL3.out hL3 hq3 t.nodes.length lv).mono ?_
          rintro e w6 ⟨rfl, hb6, hM4⟩
          have HB4 : Hid (Below R.base w w6) := HB5.out.trans (h5.belowB hb6)
          clear hb6 h5 HB5
          go_wp2_with fail
          refine (rleave_err hM4 he).mono ?_
          rintro e w7 ⟨rfl, hw7⟩
          have hw8 := hw7.symm
          clear hw7
          subst hw8
          obtain ⟨na, ncap, rfl⟩ := hM4.mvIs
          have d9 : w6.cell? ⟨R.b, 9, none⟩ = some (.slice na names3.length ncap) := hM4.rd.cell rfl
          have hbase := hM4.base
          go_wp2_with (at_builtin; refine wpList_append_own_at _ rfl _ _ 112 rfl R.base 178 i0 (.agg #[.string ⟨#[]⟩, .int .i64 0]) 2 24 undNames hi0 hz0 hz1 hz2 rfl (by decide) _ _ _ rfl (hM4.names.alloc _) ⟨w6.heap.size, 0, none⟩ 1 1 (nmCells (x, t.nodes.length)) rfl rfl ?c1 ?c2 ?c3 ?c4 ?c5 ?_)
          case c1 => exact cells_new w6 _ _ _ rfl
          case c2 => intro u hu; simp [nmCells] at hu; rcases hu with rfl | rfl <;> rfl
          case c3 => unfold maxLen; omega
          case c4 => omega
          case c5 => simp; omega
          intro v' w5 hown hgrow hnil hloc
          obtain ⟨hg5, hM5, hb5⟩ := hM4.pushName hown hgrow
          obtain ⟨va, vn, vc, rfl⟩ := own_slice hown
          have e9 : w5.cell? ⟨R.b, 9, none⟩ = some (.slice na names3.length ncap) := hg5.cell rfl
          have f9 : w5.frozen? ⟨R.b, 9, none⟩ = false := hg5.free 9
          clear hown hgrow hnil hloc d9 hg5
          go_wp2_with fail
          go_ret
          refine ⟨HB4.out.trans (hM4.belowM hb5), ?_⟩
          exact item_named HAF.out (fun t' hr => (HFO.out t t' _ hwf (by omega) hr).1.wf) hM5
        | ok y t2 =>
          rw [hm] at hp3
          obtain ⟨rfl, hn2, hm2, ha2, hG3⟩ := hp3
          have HM2 : Hid (itemS R.s R.B blk d t = (namedItemS R.s R.B blk d t.nodes.length t2).bind fun _ t3 => .ok t.nodes.length { t3 with names := (x, t.nodes.length) :: t3.names }) := by unfold Hid; rw [HM1.out, hm]; rfl
          have HN2 : Hid _ := hn2
          have HM22 : Hid _ := hm2
          have HA2 : Hid _ := ha2
          have hbl4 : t2.nodes[t.nodes.length]? = some NodeV.blank := by rw [hn2]; exact hbl2
          obtain ⟨nv3, mv3, rows3, names3, hM3, hS3, l3, hl3, hind3, hat3, hen3⟩ := hG3
          have hL3 := hE.line hl3
          have hnow3 := rnow_any hM3 hE.s hl3 hL3 hen3
          have hq3 := skipBl_en R.s t2.k l3.en hen3 hL3.en hL3.nl
          have hq30 := skipBl_ge R.s t2.k
          have HLO3 : Hid _ := lineOver_iff (q := skipBl R.s t2.k) hL3 (by omega) hq3
          have HL3 : Hid _ := hl3
          have HG3 : Hid (∀ w1, RMem R K (skipBl R.s t2.k) t2.anchors 0 0 nv3 mv3 rows3 names3 w1 → RGood R ov K { t2 with k := skipBl R.s t2.k } w1) := fun w1 h2 => ⟨nv3, mv3, rows3, names3, h2, hS3.move (by have := hL3.en; omega), l3, hl3, hind3, by simp only; omega, by simp only; omega⟩
          generalize nowB R.s t2.k l3.en = c3 at *
          clear hm hl3 HM1 hn2 hm2 ha2 hS3 hind3
          by_cases hov3 : lineOver R.s (skipBl R.s t2.k) = true
          · have HM3 : Hid (itemS R.s R.B blk d t = ((goBelowM R.s (d + 1) { t2 with k := skipBl R.s t2.k }).bind fun _ t1 => blk t.nodes.length (d + 1) t1).bind fun _ t3 => .ok t.nodes.length { t3 with names := (x, t.nodes.length) :: t3.names }) := by unfold Hid; rw [HM2.out, namedItemS_below R.s R.B blk d t.nodes.length t2 hov3]
            have hqe3 := HLO3.out.1 hov3
            have hbq3 : ((skipBl R.s t2.k : Int) == (l3.en : Int)) = true := by rw [hqe3]; simp
            have HQ3 : Hid _ := hqe3
            clear hov3 HLO3 HM2 hqe3
            generalize skipBl R.s t2.k = q3 at *
            go_wp2_with fail
            refine hnow3.mono ?_
            rintro e w4 ⟨rfl, h4, hb4⟩
            have d11 : w4.cell? ⟨R.b, 11, none⟩ = some (.int .i64 0) := h4.rd.cell rfl
            have d3 : w4.cell? ⟨R.b, 3, none⟩ = some (.int .i64 (q3 : Int)) := h4.rd.cell rfl
            go_upto_region 11 with fail
            go_quiet ((go_at_call 173; exact Calls.quiet_of (rendQ h4 HL3.out _)))
            have h5 := h4.still ((But.refl [] w4).drewN nq)
            have HB5 : Hid (Below R.base w (w4.drewN nq)) := HB3.out.trans (hM3.belowB (hb4.drewN nq))
            generalize w4.drewN nq = W5 at *
            clear h4 hb4 d11 d3 hnow3 HB3 hM3
            have HBL : Hid _ := rbelow_old hE (HG3.out W5 h5) (fun l2 hl2 => by have := HL3.out.symm.trans hl2; have e := Option.some.inj this; rw [← e]; exact HQ3.out) (d + 1) (fun id => blk id (d + 1)) (HBS.out hlvd) (iv + 2) lv (by rw [HIV.out]; omega) (by rw [HLV.out]; omega) t.nodes.length hov2 hbl4
            go_wp2_with fail
            refine Calls.mono HBL.out ?_
            rintro e w6 ⟨⟨i6, rfl⟩, _, hb6, hp6⟩
            have HB4 : Hid (Below R.base w w6) := HB5.out.trans hb6
            obtain ⟨K3, k3, an3, er3, pl3, nv4, mv4, rows4, names4, hM4, hnl, HAF⟩ : ∃ K3 k3 an3 er3 pl3 nv4 mv4 rows4 names4, RMem R K3 k3 an3 er3 pl3 nv4 mv4 rows4 names4 w6 ∧ names4.length ≤ 300 ∧ Hid (NmAfter R ov (AtG R) t t.nodes.length x (itemS R.s R.B blk d t) K3 k3 an3 er3 pl3 rows4 names4) := by
              cases hm3 : (goBelowM R.s (d + 1) { t2 with k := q3 }).bind fun _ t1 => blk t.nodes.length (d + 1) t1 with
              | bad er pl =>
                simp only [hm3] at hp6
                obtain ⟨K3, k3, an3, nv4, mv4, rows4, names4, hM4, hN4⟩ := RBad.nm (t := t1) (t2 := { t2 with k := q3 }) hp6 HN2.out HM22.out HA2.out
                have hN := hN4.from hnl1 HNM.out HAN.out
                exact ⟨K3, k3, an3, er, pl, nv4, mv4, rows4, names4, hM4, hN.len hwf, .inl ⟨er, pl, by rw [HM3.out, hm3]; rfl, rfl, rfl, hN⟩⟩
              | ok u t3 =>
                simp only [hm3] at hp6
                obtain ⟨K3, k3, nv4, mv4, rows4, names4, hM4, hS4, hA4⟩ := hp6.out
                have hl300 : names4.length ≤ 300 := by
                  rw [hS4.names]
                  have := hS4.wf.names
                  have := hS4.wf.anchors
                  simp; omega
                exact ⟨K3, k3, t3.anchors, 0, 0, nv4, mv4, rows4, names4, hM4, hl300, .inr ⟨t3, by rw [HM3.out, hm3]; rfl, rfl, rfl, rfl, hA4, hS4⟩⟩
            clear hp6 hb6 HBL HB5 h5
            obtain ⟨na, ncap, rfl⟩ := hM4.mvIs
            have d9 : w6.cell? ⟨R.b, 9, none⟩ = some (.slice na names4.length ncap) := hM4.rd.cell rfl
            have hbase := hM4.base
            go_wp2_with (at_builtin; refine wpList_append_own_at _ rfl _ _ 112 rfl R.base 178 i0 (.agg #[.string ⟨#[]⟩, .int .i64 0]) 2 24 undNames hi0 hz0 hz1 hz2 rfl (by decide) _ _ _ rfl (hM4.names.alloc _) ⟨w6.heap.size, 0, none⟩ 1 1 (nmCells (x, t.nodes.length)) rfl rfl ?c1 ?c2 ?c3 ?c4 ?c5 ?_)
            case c1 => exact cells_new w6 _ _ _ rfl
            case c2 => intro u hu; simp [nmCells] at hu; rcases hu with rfl | rfl <;> rfl
            case c3 => unfold maxLen; omega
            case c4 => omega
            case c5 => simp; omega
            intro v' w5 hown hgrow hnil hloc
            obtain ⟨hg5, hM5, hb5⟩ := hM4.pushName hown hgrow
            obtain ⟨va, vn, vc, rfl⟩ := own_slice hown
            have e9 : w5.cell? ⟨R.b, 9, none⟩ = some (.slice na names4.length ncap) := hg5.cell rfl
            have f9 : w5.frozen? ⟨R.b, 9, none⟩ = false := hg5.free 9
            clear hown hgrow hnil hloc d9 hg5
            go_wp2_with fail
            go_ret
            refine ⟨HB4.out.trans (hM4.belowM hb5), ?_⟩
            exact item_named HAF.out (fun t' hr => (HFO.out t t' _ hwf (by omega) hr).1.wf) hM5
          · have HM3 : Hid (itemS R.s R.B blk d t = ((valueM R.s R.B 21 t.nodes.length lv { t2 with k := skipBl R.s t2.k }).bind fun _ t1 => endLineM R.s t1).bind fun _ t3 => .ok t.nodes.length { t3 with names := (x, t.nodes.length) :: t3.names }) := by unfold Hid; rw [HM2.out, namedItemS_value R.s R.B blk d t.nodes.length t2 hov3, HLV.out]
            have hbq3 : ((skipBl R.s t2.k : Int) == (l3.en : Int)) = false := by
              have : skipBl R.s t2.k ≠ l3.en := fun e => hov3 (HLO3.out.2 e)
              simp; omega
            clear hov3 HLO3 HM2
            generalize skipBl R.s t2.k = q3 at *
            go_wp2_with fail
            refine hnow3.mono ?_
            rintro e w4 ⟨rfl, h4, hb4⟩
            have d11 : w4.cell? ⟨R.b, 11, none⟩ = some (.int .i64 0) := h4.rd.cell rfl
            have d3 : w4.cell? ⟨R.b, 3, none⟩ = some (.int .i64 (q3 : Int)) := h4.rd.cell rfl
            go_upto_region 11 with fail
            go_quiet ((go_at_call 173; exact Calls.quiet_of (rendQ h4 HL3.out _)))
            have h5 := h4.still ((But.refl [] w4).drewN nq)
            have HB5 : Hid (Below R.base w (w4.drewN nq)) := HB3.out.trans (hM3.belowB (hb4.drewN nq))
            generalize w4.drewN nq = W5 at *
            clear h4 hb4 d11 d3 hnow3 HB3 hM3
            have HVL : Hid _ := rvalueM_any hE lv (by omega) (by rw [HLV.out]; omega) (by rw [HLV.out]; exact hlvd) ov K { t2 with k := q3 } W5 t.nodes.length (HG3.out W5 h5) hov2 hbl4
            go_wp2_with fail
            refine Calls.mono HVL.out ?_
            rintro e w6 ⟨rfl, hb6, hp6⟩
            have HB6 : Hid (Below R.base w w6) := HB5.out.trans hb6
            have HLV6 : Hid (Calls Tryz.prog 108 #[.pointer (some ⟨R.b, 0, none⟩)] w6 fun e w7 => e = .returned (.tuple #[]) ∧ Below R.base w6 w7 ∧ ∃ K3 k3 an3 er3 pl3 nv4 mv4 rows4 names4, RMem R K3 k3 an3 er3 pl3 nv4 mv4 rows4 names4 w7 ∧ names4.length ≤ 300 ∧ Hid (NmAfter R ov (AtG R) t t.nodes.length x (itemS R.s R.B blk d t) K3 k3 an3 er3 pl3 rows4 names4)) := by
              cases hm3 : valueM R.s R.B 21 t.nodes.length lv { t2 with k := q3 } with
              | bad er pl =>
                simp only [hm3] at hp6
                obtain ⟨K3, k3, an3, nv4, mv4, rows4, names4, hM4, hN4⟩ := RBad.nm (t := t1) (t2 := { t2 with k := q3 }) hp6 HN2.out HM22.out HA2.out
                have hN := hN4.from hnl1 HNM.out HAN.out
                refine (rleave_err hM4 hN.1.1).mono ?_
                rintro e w7 ⟨rfl, rfl⟩
                exact ⟨rfl, Below.refl _ _, K3, k3, an3, er, pl, nv4, mv4, rows4, names4, hM4, hN.len hwf, .inl ⟨er, pl, by rw [HM3.out, hm3]; rfl, rfl, rfl, hN⟩⟩
              | ok u t3 =>
                simp only [hm3] at hp6
                refine (rleave_any hE hp6).mono ?_
                rintro e w7 ⟨rfl, hb7, hp7⟩
                refine ⟨rfl, hb7, ?_⟩
                have hwf2 : WF R.s { t2 with k := q3 } := by
                  obtain ⟨_, _, _, _, _, hSx, _⟩ := HG3.out W5 h5
                  exact hSx.wf
                obtain ⟨s3, _, _⟩ := valueM_ok hD hE.n hE.a 21 t.nodes.length lv { t2 with k := q3 } t3 u hwf2 (List.getElem?_eq_some_iff.1 hbl4).1 (by omega) (by rw [HLV.out]; exact hlvd) hm3
                cases hm4 : endLineM R.s t3 with
                | bad er pl =>
                  simp only [hm4] at hp7
                  have hlen3 := s3.len
                  have hnm3 := s3.nm
                  simp only at hlen3 hnm3
                  obtain ⟨K3, k3, an3, nv4, mv4, rows4, names4, hM4, hN4⟩ := RBad.nm (t := t1) (t2 := { t2 with k := q3 }) (RBad.from (t := { t2 with k := q3 }) hp7 hlen3 hnm3) HN2.out HM22.out HA2.out
                  have hN := hN4.from hnl1 HNM.out HAN.out
                  exact ⟨K3, k3, an3, er, pl, nv4, mv4, rows4, names4, hM4, hN.len hwf, .inl ⟨er, pl, by rw [HM3.out, hm3]; simp only [Res.bind_ok]; rw [hm4]; rfl, rfl, rfl, hN⟩⟩
                | ok u4 t4 =>
                  simp only [hm4] at hp7
                  obtain ⟨K3, k3, nv4, mv4, rows4, names4, hM4, hS4, hA4⟩ := hp7.out
                  have hl300 : names4.length ≤ 300 := by
                    rw [hS4.names]
                    have := hS4.wf.names
                    have := hS4.wf.anchors
                    simp; omega
                  exact ⟨K3, k3, t4.anchors, 0, 0, nv4, mv4, rows4, names4, hM4, hl300, .inr ⟨t4, by rw [HM3.out, hm3]; simp only [Res.bind_ok]; rw [hm4]; rfl, rfl, rfl, rfl, hA4, hS4⟩⟩
            clear hp6 hb6 HVL HB5 h5
            go_wp2_with fail
            refine Calls.mono HLV6.out ?_
            rintro e w7 ⟨rfl, hb7, K3, k3, an3, er3, pl3, nv4, mv4, rows4, names4, hM4, hnl, HAF⟩
            have HB4 : Hid (Below R.base w w7) := HB6.out.trans hb7
            clear HLV6 HB6 hb7
            obtain ⟨na, ncap, rfl⟩ := hM4.mvIs
            have d9 : w7.cell? ⟨R.b, 9, none⟩ = some (.slice na names4.length ncap) := hM4.rd.cell rfl
            have hbase := hM4.base
            go_wp2_with (at_builtin; refine wpList_append_own_at _ rfl _ _ 112 rfl R.base 178 i0 (.agg #[.string ⟨#[]⟩, .int .i64 0]) 2 24 undNames hi0 hz0 hz1 hz2 rfl (by decide) _ _ _ rfl (hM4.names.alloc _) ⟨w7.heap.size, 0, none⟩ 1 1 (nmCells (x, t.nodes.length)) rfl rfl ?c1 ?c2 ?c3 ?c4 ?c5 ?_)
            case c1 => exact cells_new w7 _ _ _ rfl
            case c2 => intro u hu; simp [nmCells] at hu; rcases hu with rfl | rfl <;> rfl
            case c3 => unfold maxLen; omega
            case c4 => omega
            case c5 => simp; omega
            intro v' w5 hown hgrow hnil hloc
            obtain ⟨hg5, hM5, hb5⟩ := hM4.pushName hown hgrow
            obtain ⟨va, vn, vc, rfl⟩ := own_slice hown
            have e9 : w5.cell? ⟨R.b, 9, none⟩ = some (.slice na names4.length ncap) := hg5.cell rfl
            have f9 : w5.frozen? ⟨R.b, 9, none⟩ = false := hg5.free 9
            clear hown hgrow hnil hloc d9 hg5
            go_wp2_with fail
            go_ret
            refine ⟨HB4.out.trans (hM4.belowM hb5), ?_⟩
            exact item_named HAF.out (fun t' hr => (HFO.out t t' _ hwf (by omega) hr).1.wf) hM5
    · have HM0 : Hid (itemS R.s R.B blk d t = (flowM R.s R.B 21 lv { t with k := skipBl R.s t.k }).bind fun id t1 => (endLineM R.s t1).bind fun _ t2 => .ok id t2) := by unfold Hid; rw [itemS_flow R.s R.B blk d t hov h8, HLV.out]
      have hce : c ≠ 38 := fun e => h8 (HN8.out.2 e)
      clear h8 hov HLO HN8
      generalize skipBl R.s t.k = q at *
      go_enter Tryz.func133, Tryz.ntmps133
      go_wp2_with fail
      refine hnow.mono ?_
      rintro e w1 ⟨rfl, h2, hb2⟩
      have d3 : w1.cell? ⟨R.b, 3, none⟩ = some (.int .i64 (q : Int)) := h2.rd.cell rfl
      go_upto_region 2 with fail
      go_quiet ((go_at_call 173; exact Calls.quiet_of (rendQ h2 HL.out _)))
      have h3 := h2.still ((But.refl [] w1).drewN nq)
      have hb3 : But [R.b] w (w1.drewN nq) := hb2.drewN nq
      generalize w1.drewN nq = W at *
      clear h2 hb2 d3
      go_wp2_with fail
      refine (HFS.out ov K { t with k := q } W (HG.out W h3)).mono ?_
      rintro e w4 ⟨hb4, hp4⟩
      have HB4 : Hid (Below R.base w w4) := (HMW.out.belowB hb3).trans hb4
      have hwfq : WF R.s { t with k := q } := hwf.move (by omega)
      cases hm : flowM R.s R.B 21 lv { t with k := q } with
      | bad er pl =>
        simp only [hm] at hp4
        obtain ⟨⟨i, rfl⟩, hg⟩ := hp4
        have HM : Hid (itemS R.s R.B blk d t = .bad er pl) := by unfold Hid; rw [HM0.out, hm]; rfl
        have HBD : Hid (RBad R ov t er pl w4) := hg
        obtain ⟨he, _, _, _, _, _, _, _, hM5⟩ := hg.any
        clear hm HM0 hg
        go_wp2_with fail
        refine (rleave_err hM5 he).mono ?_
        rintro e w5 ⟨rfl, hw5⟩
        have hw6 := hw5.symm
        clear hw5
        subst hw6
        go_wp2_with fail
        go_ret
        refine ⟨HB4.out, ?_⟩
        rw [HM.out]
        exact ⟨⟨i, rfl⟩, HBD.out⟩
      | ok id t1 =>
        simp only [hm] at hp4
        obtain ⟨rfl, hg⟩ := hp4
        have s1 := (flowM_ok hD hE.n hE.a 21 lv { t with k := q } t1 id hwfq (by omega) hm).1
        have HST : Hid _ := s1
        have HM1 : Hid (itemS R.s R.B blk d t = (endLineM R.s t1).bind fun _ t2 => .ok id t2) := by unfold Hid; rw [HM0.out, hm]; rfl
        clear hm HM0 s1
        go_wp2_with fail
        refine (rleave_any hE hg).mono ?_
        rintro e w5 ⟨rfl, hb5, hp5⟩
        cases hm : endLineM R.s t1 with
        | bad er pl =>
          simp only [hm] at hp5
          have HM : Hid (itemS R.s R.B blk d t = .bad er pl) := by unfold Hid; rw [HM1.out, hm]; rfl
          clear hm HM1
          go_wp2_with fail
          go_ret
          refine ⟨HB4.out.trans hb5, ?_⟩
          rw [HM.out]
          exact ⟨⟨_, rfl⟩, hp5.from HST.out.len HST.out.nm⟩
        | ok u t2 =>
          simp only [hm] at hp5
          have HM : Hid (itemS R.s R.B blk d t = .ok id t2) := by unfold Hid; rw [HM1.out, hm]; rfl
          clear hm HM1
          go_wp2_with fail
          go_ret
          refine ⟨HB4.out.trans hb5, ?_⟩
          rw [HM.out]
          exact ⟨rfl, hp5⟩

end Go.Proofs.YtkflkmmbakccoaaGreatDoor

/- WALKS: package grafterref: block. -/
namespace Go.Proofs.YtkflkmmbakccoaaGreatDoor
open Go.RowKit Go.Maps

def kbOf (isMap : Bool) : Nat := if isMap then 109 else 108
def nOf (isMap : Bool) : NodeV := { NodeV.blank with kind := if isMap then 2 else 1 }

/-- All that is known of what has been read of a block. -/
structure BlkOk (R : REnv) (d : Nat) (t t1 : PS) (keys : List ByteArray) (parts : List Nat) : Prop where
  kl : keys.length ≤ t1.k
  pl : parts.length ≤ t1.k
  st : Step R.s none t t1
  ph : ∀ x ∈ parts, highOf t1.nodes x ≠ 0 ∧ (highOf t1.nodes x : Int) + ((d : Int) + 1) ≤ R.B.depth

/-- Where a block stands, at the head of its rounds. -/
def BlkAt (R : REnv) (ov : Over) (id d : Nat) (it : PS → Res Nat) (isMap : Bool) (t : PS) (res : Res Unit) (w : World) (gk : Nat) (wr : World) : Prop :=
  Below R.base w wr ∧ ((∃ er pl, res = .bad er pl ∧ RBad R ov t er pl wr) ∨ (∃ K1 t1 keys parts, res = blockLoop R.s it id d isMap gk keys parts t1 ∧ R.s.size < gk + t1.k ∧ RAtLine R (ov.put id (kbOf isMap, { nOf isMap with keys := keys, parts := parts })) K1 t1 wr ∧ (isMap = false → kindAt R.s t1.k = 4) ∧ BlkOk R d t t1 keys parts))

/-- Ahead of an item. -/
def BlkMid (R : REnv) (ov : Over) (id d : Nat) (it : PS → Res Nat) (isMap : Bool) (t : PS) (res : Res Unit) (w : World) (m : Nat) (parts : List Nat) (wc : World) : Prop :=
  Below R.base w wc ∧ ((∃ er pl, res = .bad er pl ∧ RBad R ov t er pl wc) ∨ (∃ K1 t2 keys2, res = (it t2).bind (fun x t3 => blkTail R.s it id d isMap m keys2 (parts ++ [x]) t3) ∧ R.s.size < m + t2.k ∧ parts.length < t2.k ∧ RGood R (ov.put id (kbOf isMap, { nOf isMap with keys := keys2, parts := parts })) K1 t2 wc ∧ BlkOk R d t t2 keys2 parts))

/-- Behind an item. -/
def BlkAfter (R : REnv) (ov : Over) (id d : Nat) (it : PS → Res Nat) (isMap : Bool) (t : PS) (res : Res Unit) (m : Nat) (keys : List ByteArray) (parts : List Nat) (x K3 k3 an3 er3 pl3 : Nat) (rows3 : List RRow) (names3 : List (ByteArray × Nat)) : Prop :=
  (∃ er pl, res = .bad er pl ∧ er3 = er ∧ pl3 = pl ∧ RBadAt ov t er an3 rows3 names3) ∨
  (∃ t3, res = blkTail R.s it id d isMap m keys (parts ++ [x]) t3 ∧ er3 = 0 ∧ pl3 = 0 ∧ an3 = t3.anchors ∧ AtG R t3 K3 k3 ∧ RSt R.s (ov.put id (kbOf isMap, { nOf isMap with keys := keys, parts := parts })) t3 rows3 names3 t3.anchors ∧ R.s.size < m + t3.k ∧ BlkOk R d t t3 keys (parts ++ [x]))

theorem BlkOk.step {R : REnv} {d : Nat} {t t1 t2 : PS} {keys keys2 : List ByteArray} {parts : List Nat} (h : BlkOk R d t t1 keys parts) (hs : Step R.s none t1 t2) (hk : keys2.length ≤ t2.k) : BlkOk R d t t2 keys2 parts :=
  ⟨hk, Nat.le_trans h.pl hs.k, h.st.andThen hs, fun x hx => by
    have := h.ph x hx
    rw [hs.highKeep (highOf_lt this.1) (by simp)]
    exact this⟩

theorem RGoodE.partly {R : REnv} {ov : Over} {i kb : Nat} {n : NodeV} {t : PS} {w : World} (h : RGoodE R (ov.put i (kb, n)) t w) :
    ∃ K k nb cap mv rows names, Partly R i kb n K k t.anchors 0 0 nb cap mv rows names w ∧ RSt R.s (ov.put i (kb, n)) t rows names t.anchors ∧ AtG R t K k := by
  obtain ⟨K, k, nv, mv, rows, names, hM, hS, hG⟩ := h.out
  obtain ⟨hi, h1, h2⟩ := hS.rowAt
  obtain ⟨nb, cap, rfl, _, _⟩ := hM.node i hi
  exact ⟨K, k, nb, cap, mv, rows, names, ⟨hM, hi, h1, h2⟩, hS, hG⟩

/-- Is a block at its end? -/
def BlkEnd (bv : Bool) (R : REnv) (d : Nat) (K : Nat) (t : PS) : Prop := bv = true ↔ (R.L.length ≤ K ∨ t.ind < 2 * d)
/-- Does a line not go on with the block? -/
def BlkNot (bv : Bool) (R : REnv) (d : Nat) (isMap : Bool) (t : PS) : Prop := bv = true ↔ (2 * d < t.ind ∨ (kindAt R.s t.k = 4 ↔ isMap = true))

theorem AtG.skip {R : REnv} (hE : REnvOk R) {t : PS} {K k : Nat} (h : AtG R t K k) : skipBl R.s t.k = t.k := by
  rcases h with ⟨_, l, hl, _, hk⟩ | ⟨h1, _⟩
  · rw [hk]; exact hE.nb hl
  · rw [h1]; exact skipBl_end R.s _ (by omega)

theorem blkTail_end {R : REnv} (hE : REnvOk R) {t : PS} {K k d : Nat} (h : AtG R t K k) (he : R.L.length ≤ K ∨ t.ind < 2 * d) (it : PS → Res Nat) (id : Nat) (isMap : Bool) (m : Nat) (keys : List ByteArray) (parts : List Nat) :
    blkTail R.s it id d isMap m keys parts t = .ok () (endM id { nOf isMap with keys := keys, parts := parts } t) := by
  have hsk := h.skip hE
  unfold blkTail
  rw [hsk]
  rw [if_pos]
  · rfl
  · rcases he with he | he
    · rcases h with ⟨_, l, hl, _, _⟩ | ⟨h1, _⟩
      · have := (List.getElem?_eq_some_iff.1 hl).1
        omega
      · left
        rw [h1, kindAt, if_neg (by omega)]
    · exact .inr he

theorem blkTail_on {R : REnv} (hE : REnvOk R) {t : PS} {K k d : Nat} (h : AtG R t K k) (he : ¬ (R.L.length ≤ K ∨ t.ind < 2 * d)) (it : PS → Res Nat) (id : Nat) (isMap : Bool) (m : Nat) (keys : List ByteArray) (parts : List Nat) :
    blkTail R.s it id d isMap m keys parts t = if 2 * d < t.ind then .bad 3 t.k else blockLoop R.s it id d isMap m keys parts t := by
  have hsk := h.skip hE
  unfold blkTail
  rw [hsk]
  rw [if_neg]
  rintro (hc | hc)
  · rcases h with ⟨_, l, hl, _, hk⟩ | ⟨_, h2⟩
    · have hL := hE.line hl
      have := hL.at'
      have := hL.en
      rw [hk, kindAt, if_pos (by omega)] at hc
      exact (kindB_tab _).2.2.2.2.2.2.2.2.2.2 hc
    · exact he (.inl h2)
  · exact he (.inr hc)

/-- A line that does not go on with the block is wrong at its first byte. -/
theorem blockLoop_not {s : ByteArray} {t : PS} (hsk : skipBl s t.k = t.k) (it : PS → Res Nat) (id d : Nat) (isMap : Bool) (m : Nat) (keys : List ByteArray) (parts : List Nat) (h : kindAt s t.k = 4 ↔ isMap = true) : blockLoop s it id d isMap (m + 1) keys parts t = .bad 3 t.k := by
  rw [blockLoop_lead]
  cases isMap with
  | true =>
    have h4 := h.2 rfl
    have : leadM s true keys t = .bad 3 t.k := by
      unfold leadM
      simp only [if_true]
      unfold keyM
      rw [hsk, if_neg (by omega)]
    rw [this]
    rfl
  | false =>
    have h4 : ¬ kindAt s t.k = 4 := fun hc => by have := h.1 hc; cases this
    have : leadM s false keys t = .bad 3 t.k := by
      unfold leadM expectM
      rw [hsk, if_neg h4]
      rfl
    rw [this]
    rfl

theorem AtG.kind4 {R : REnv} (hE : REnvOk R) {t : PS} {l : LineV} {K : Nat} (hl : R.L[K]? = some l) (hk : t.k = l.at') : ∃ h : t.k < R.s.size, (kindAt R.s t.k = 4 ↔ (R.s[t.k].toNat : Int) = 45) := by
  have hL := hE.line hl
  have := hL.at'
  have := hL.en
  have hlt : t.k < R.s.size := by omega
  exact ⟨hlt, by rw [kindAt, if_pos hlt, (kindB_tab _).2.1, byteAt_lt R.s t.k hlt]⟩

end Go.Proofs.YtkflkmmbakccoaaGreatDoor
