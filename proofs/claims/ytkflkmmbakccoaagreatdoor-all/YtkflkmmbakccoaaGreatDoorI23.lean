/- PARTS: R15. -/
import Derived.Test.YtkflkmmbakccoaaGreatDoorI22

/- WALKS: package grafterref: inside. -/
namespace Go.Proofs.YtkflkmmbakccoaaGreatDoor
open Go.RowKit Go.Maps

/-- Behind a part: what the append leaves is told of this. -/
def InAfter (R : REnv) (ov : Over) (K i kb : Nat) (n : NodeV) (fl : PS → Res Nat) (isMap : Bool) (m : Nat) (keys : List ByteArray) (parts : List Nat) (t : PS) (res : Res (List ByteArray × List Nat)) (x K3 k3 an3 er3 pl3 : Nat) (rows3 : List RRow) (names3 : List (ByteArray × Nat)) : Prop :=
  (∃ er pl, res = .bad er pl ∧ er3 = er ∧ pl3 = pl ∧ RBadAt ov t er an3 rows3 names3) ∨
  (∃ t3, res = inRest R.s fl isMap m keys (parts ++ [x]) t3 ∧ er3 = 0 ∧ pl3 = 0 ∧ K3 = K ∧ k3 = t3.k ∧ an3 = t3.anchors ∧ RSt R.s (ov.put i (kb, { n with keys := keys, parts := parts })) t3 rows3 names3 t3.anchors ∧ InLine R K t3 ∧ keys.length ≤ t3.k ∧ parts.length ≤ t3.k ∧ R.s.size < m + 1 + t3.k ∧ Step R.s none t t3)

set_option maxRecDepth 20000 in
set_option maxHeartbeats 4000000 in
theorem rinside_any {R : REnv} (hE : REnvOk R) {ov : Over} {K i kb : Nat} {n : NodeV} {t : PS} {w : World} (h : RGood R (ov.put i (kb, n)) K t w) (hov : ov i = none) (isMap : Bool) (hkb : (kb : Int) = if isMap then 109 else 108) (hnk : n.keys = []) (hnp : n.parts = []) (lv : Int) (h0 : 0 ≤ lv) (h1 : lv ≤ 100)
    (fl : PS → Res Nat) (hfs : RFlowSaid R (lv + 1) fl) (hfo : FlowOk R.s R.B (lv + 1) fl) :
    Calls Tryz.prog 176 #[.pointer (some ⟨R.b, 0, none⟩), .int .i64 (i : Int), .int .i64 lv] w fun e w' => RPostI R ov K i kb n t w (insideM R.s fl isMap t) e w' := by
  obtain ⟨i0, hi0, hz0, hz1, hz2⟩ := info_parts infoInt
  obtain ⟨nb, cap, mv, rows, names, ⟨hM, hi, hrkb, hrn⟩, hS, l, hl, hind, hat, hen⟩ := h.partly
  have hL := hE.line hl
  have hq := skipBl_en R.s t.k l.en hen hL.en hL.nl
  have hq0 := skipBl_ge R.s t.k
  have hsz := hE.s
  have hes := hL.en
  have hnow := rnow_any hM hE.s hl hL hen
  have hnk2 := nowB_kind (κ := lastK isMap) hL hen (by cases isMap <;> decide) (by cases isMap <;> decide) (by cases isMap <;> decide)
  rw [lastB_kind] at hnk2
  have HS : Hid _ := hS
  have HL : Hid _ := hl
  have HI : Hid _ := hind
  have HFS : Hid _ := hfs
  have HFO : Hid _ := hfo
  have HMW : Hid _ := hM
  have HK2 : Hid _ := hnk2
  have HG : Hid _ := h
  obtain ⟨nb', cap', e, _, hcn⟩ := hM.node i hi
  obtain ⟨rfl, rfl⟩ : nb = nb' ∧ cap = cap' := by simpa using e
  have c0 := (hcn 0 (by omega)).1
  simp only [RRow.cells, List.getElem?_cons_zero] at c0
  rw [hrkb, Nat.add_zero] at c0
  have c8 : w.cell? ⟨R.b, 8, none⟩ = some (.slice (some ⟨nb, 0, none⟩) rows.length cap) := hM.rd.cell rfl
  have HKB : Hid _ := hkb
  clear hS hl hind hfs hfo hnk2 hcn e hrn hrkb hkb h
  generalize nowB R.s t.k l.en = c at *
  go_enter Tryz.func176, Tryz.ntmps176
  go_upto_if 17 with fail
  go_cut [6] from 9 to 17 (fun v wc => v = .int .u8 (lastB isMap) ∧ wc = w)
  case first =>
    cases isMap with
    | true =>
      have hk9 : (kb : Int) = 109 := HKB.out
      go_wp2_with fail
      go_meet
      case rel => exact ⟨rfl, rfl⟩
    | false =>
      have hk9 : (kb : Int) = 108 := HKB.out
      go_wp2_with fail
      go_meet
      case rel => exact ⟨rfl, rfl⟩
  case rest =>
    obtain ⟨rfl, hwc⟩ := hcut
    have hwc2 := hwc.symm
    clear hwc
    subst hwc2
    have hlb : lastB isMap = 93 ∨ lastB isMap = 125 := by cases isMap <;> simp [lastB]
    by_cases hcl : kindAt R.s (skipBl R.s t.k) = lastK isMap
    · have HM : Hid (insideM R.s fl isMap t = .ok ([], []) { t with k := skipBl R.s t.k + 1 }) := by unfold Hid insideM; rw [if_pos hcl]
      have hce := HK2.out.1 hcl
      have hlt : skipBl R.s t.k < l.en := by
        by_cases e : skipBl R.s t.k < l.en
        · exact e
        · exfalso
          have : skipBl R.s t.k = l.en := by omega
          rw [this, kindAt] at hcl
          split at hcl
          · rename_i hz
            rw [hL.nl hz] at hcl
            revert hcl; cases isMap <;> decide
          · revert hcl; cases isMap <;> decide
      subst hce
      generalize lastB isMap = lb at *
      generalize skipBl R.s t.k = q at *
      clear hcl HK2
      go_wp2_with fail
      refine hnow.mono ?_
      rintro e w1 ⟨rfl, h2, hb2⟩
      have d3 : w1.cell? ⟨R.b, 3, none⟩ = some (.int .i64 (q : Int)) := h2.rd.cell rfl
      have f3 := h2.rd.free 3
      have h3 := h2.step
      have hb3 : But [R.b] w1 _ := (But.refl [R.b] w1).setCell (p := ⟨R.b, 3, none⟩) (by simp) (.int .i64 ((q : Int) + 1))
      go_wp2_with fail
      go_end0
      refine ⟨rfl, HMW.out.belowB (hb2.trans hb3 (by simp)), ?_⟩
      rw [HM.out]
      have hS2 := HS.out.move (k := q + 1) (by omega)
      obtain ⟨kd, tx, ks, ps, hh, he⟩ := n
      simp only at hnk hnp
      subst hnk hnp
      exact ⟨_, mv, rows, names, h3, hS2, l, HL.out, HI.out, by simp only; omega, by simp only; omega⟩
    · have HM : Hid (insideM R.s fl isMap t = inLoop R.s fl isMap (lastK isMap) (R.s.size + 1) [] [] { t with k := skipBl R.s t.k }) := by unfold Hid insideM; rw [if_neg hcl]
      have hce : (c == lastB isMap) = false := beq_eq_false_iff_ne.2 (fun e => hcl (HK2.out.2 e))
      have hwf : WF R.s t := HS.out.wf
      clear HK2 hcl
      go_wp2_with fail
      refine hnow.mono ?_
      rintro e w1 ⟨rfl, h2, hb2⟩
      have hG1 : RGood R (ov.put i (kb, { n with keys := [], parts := [] })) K { t with k := skipBl R.s t.k } w1 := by
        obtain ⟨kd, tx, ks, ps, hh, he⟩ := n
        simp only at hnk hnp
        subst hnk hnp
        exact ⟨_, mv, rows, names, h2, HS.out.move (by omega), l, HL.out, HI.out, by simp only; omega, by simp only; omega⟩
      go_wp2_with fail
      go_loopg [7, 8] (R.s.size + 1) (fun gk _ _ wr => ∃ t1 keys parts, insideM R.s fl isMap t = inLoop R.s fl isMap (lastK isMap) gk keys parts t1 ∧ R.s.size < gk + t1.k ∧ RGood R (ov.put i (kb, { n with keys := keys, parts := parts })) K t1 wr ∧ Below R.base w wr ∧ keys.length ≤ t1.k ∧ parts.length ≤ t1.k ∧ Step R.s none t t1)
      case atStart => exact ⟨_, [], [], HM.out, by simp only; omega, hG1, HMW.out.belowB hb2, by simp, by simp, Step.skipTo hwf⟩
      case round =>
        obtain ⟨t1, keys, parts, hm, hgk, hGr, hbr, hkl, hpl, hst⟩ := hrel
        obtain ⟨m, rfl⟩ : ∃ m, gk = m + 1 := ⟨gk - 1, by obtain ⟨_, _, _, _, _, hS1, _⟩ := hGr; have := hS1.wf.k; omega⟩
        have HGR : Hid _ := hGr
        have HBR : Hid _ := hbr
        have HST : Hid _ := hst
        have HGK : Hid _ := hgk
        have HM1 : Hid _ := hm
        obtain ⟨nb1, cap1, mv1, rows1, names1, ⟨hM1, _, _, _⟩, hS1, _⟩ := hGr.partly
        have d11 : wr.cell? ⟨R.b, 11, none⟩ = some (.int .i64 0) := hM1.rd.cell rfl
        have HWF : Hid (WF R.s t1) := hS1.wf
        clear hm HM hG1 hbr hst hgk h2 hb2 hnow c0 c8 hM1 hS1 hGr
        go_upto_if 36 with fail
        go_cut [] from 30 to 96 (fun wc => InMid R ov K i kb n fl isMap m parts t (insideM R.s fl isMap t) w wc)
        case first =>
          cases isMap with
          | true =>
            have hl5 : lastB true = 125 := rfl
            rw [hl5]
            go_wp2_with fail
            refine (rkey_any hE HGR.out hov hkl).mono ?_
            rintro e w2 ⟨rfl, hb2, hp2⟩
            have HF : Hid (InMid R ov K i kb n fl true m parts t (insideM R.s fl true t) w w2) := by
              refine ⟨HBR.out.trans hb2, ?_⟩
              cases hm : keyM R.s keys t1 with
              | bad er pl =>
                simp only [hm] at hp2
                exact .inl ⟨er, pl, by rw [HM1.out, inLoop_tail]; simp only [if_true]; rw [hm]; rfl, hp2.from HST.out.len HST.out.nm⟩
              | ok keys2 t2 =>
                simp only [hm] at hp2
                have s2 := keyM_ok HWF.out hm
                have l2 := keyM_len hm
                have := s2.2
                have := HGK.out
                exact .inr ⟨keys2, t2, by rw [HM1.out, inLoop_tail]; simp only [if_true]; rw [hm]; rfl, hp2, by omega, by omega, by omega, HST.out.andThen s2.1⟩
            clear hp2
            go_wp2_with fail
            go_meet
            case rel => exact HF.out
          | false =>
            have hl5 : lastB false = 93 := rfl
            rw [hl5]
            have HF : Hid (InMid R ov K i kb n fl false m parts t (insideM R.s fl false t) w wr) :=
              ⟨HBR.out, .inr ⟨keys, t1, by rw [HM1.out, inLoop_tail]; rfl, HGR.out, hkl, hpl, HGK.out, HST.out⟩⟩
            go_wp2_with fail
            go_meet
            case rel => exact HF.out
        case rest =>
          obtain ⟨wm, hwm⟩ : ∃ wm, wm = wc := ⟨wc, rfl⟩
          subst hwm
          obtain ⟨hbm, ⟨er, pl, hres, hbad⟩ | ⟨keys2, t2, hres, hG2, hk2, hp2, hg2, hst2⟩⟩ := hcut
          · have HRES : Hid _ := hres
            have HBAD : Hid _ := hbad
            obtain ⟨he, Kx, kx, anx, nvx, mvx, rowsx, namesx, hMx, _⟩ := hbad
            have d11b : wm.cell? ⟨R.b, 11, none⟩ = some (.int .i64 (er : Int)) := hMx.rd.cell rfl
            clear hres hMx d11
            go_wp2_with fail
            go_end0
            refine ⟨rfl, hbm, ?_⟩
            rw [HRES.out]
            exact HBAD.out
          · obtain ⟨nb2, cap2, mv2, rows2, names2, ⟨hM2, _, _, _⟩, hS2, _⟩ := hG2.partly
            have d11b : wm.cell? ⟨R.b, 11, none⟩ = some (.int .i64 0) := hM2.rd.cell rfl
            have hwf2 : WF R.s t2 := hS2.wf
            have HRES : Hid _ := hres
            have HBM : Hid _ := hbm
            clear hres d11 hM2 hS2 hbm
            go_wp2_with fail
            refine (HFS.out _ K t2 wm hG2).mono ?_
            rintro e w3 ⟨hb3, hp3⟩
            obtain ⟨x, K3, k3, an3, er3, pl3, nb3, cap3, mv3, rows3, names3, rfl, hP, HAF⟩ : ∃ x K3 k3 an3 er3 pl3 nb3 cap3 mv3 rows3 names3, e = .returned (.int .i64 ((x : Nat) : Int)) ∧ Partly R i kb { n with keys := keys2, parts := parts } K3 k3 an3 er3 pl3 nb3 cap3 mv3 rows3 names3 w3 ∧ Hid (InAfter R ov K i kb n fl isMap m keys2 parts t (insideM R.s fl isMap t) x K3 k3 an3 er3 pl3 rows3 names3) := by
              cases hm : fl t2 with
              | ok x t3 =>
                simp only [hm] at hp3
                obtain ⟨rfl, hG3⟩ := hp3
                obtain ⟨nb3, cap3, mv3, rows3, names3, hP, hS3, hl3⟩ := hG3.partly
                have s3 := (HFO.out t2 t3 x hwf2 (by omega) hm).1
                have hk3 := s3.k
                exact ⟨x, K, t3.k, t3.anchors, 0, 0, nb3, cap3, mv3, rows3, names3, rfl, hP, .inr ⟨t3, by rw [HRES.out, inTail_ok hm], rfl, rfl, rfl, rfl, rfl, hS3, hl3, by omega, by omega, by omega, hst2.andThen s3⟩⟩
              | bad er pl =>
                simp only [hm] at hp3
                obtain ⟨⟨x, rfl⟩, hbad⟩ := hp3
                obtain ⟨K3, k3, an3, nb3, cap3, mv3, rows3, names3, hP, hA⟩ := hbad.partly hov
                exact ⟨x, K3, k3, an3, er, pl, nb3, cap3, mv3, rows3, names3, rfl, hP, .inl ⟨er, pl, by rw [HRES.out, inTail_bad hm], rfl, rfl, hA.from hst2.len hst2.nm⟩⟩
            have HB3 : Hid (Below R.base w w3) := HBM.out.trans hb3
            have hpl3 : parts.length ≤ 1000 := by have := hwf2.k; omega
            clear hp3 hb3 HBM HRES hG2 hst2 d11b hwf2
            obtain ⟨hM3, hi3, hkb3, hn3⟩ := hP
            obtain ⟨pa, pcap, hpv, hpc⟩ := own_shape (hM3.ok _ (List.getElem_mem hi3)).2
            have hMd : RMem R K3 k3 an3 er3 pl3 (.slice (some ⟨nb3, 0, none⟩) rows3.length cap3) mv3 rows3 names3 w3.drew := hM3.still (But.refl [] w3).drew
            have HB3D : Hid (Below R.base w w3.drew) := HB3.out.trans (hM3.belowB (But.refl [R.b] w3).drew)
            have hRW : (rows3[i]).n.parts = parts := by rw [hn3]
            rw [hRW] at hpv hpc
            have HOWN : Hid ((w3.drew.alloc (.cells #[.int .i64 (x : Int)] 3)).ownsRow R.base 3 1 (.slice pa parts.length pcap) parts.length (parts.map fun (i : Nat) => Value.int .i64 (i : Int))) := by
              have := (hMd.ok _ (List.getElem_mem hi3)).2.alloc (.cells #[.int .i64 (x : Int)] 3)
              rw [hRW, hpv] at this
              exact this
            have HC1 : Hid (∀ (j : Nat) (u : Value), [Value.int .i64 (x : Int)][j]? = some u → (w3.drew.alloc (.cells #[.int .i64 (x : Int)] 3)).cell? ((⟨w3.heap.size, 0, none⟩ : Addr).add j) = some u) := cells_new w3.drew _ _ _ rfl
            have HBS : Hid (R.base ≤ (w3.drew.alloc (.cells #[.int .i64 (x : Int)] 3)).heap.size) := by
              have := hMd.base
              show R.base ≤ _
              simp at this ⊢
              omega
            have d8 : w3.cell? ⟨R.b, 8, none⟩ = some (.slice (some ⟨nb3, 0, none⟩) rows3.length cap3) := hM3.rd.cell rfl
            obtain ⟨nb', cap', e, _, hcn⟩ := hM3.node i hi3
            obtain ⟨rfl, rfl⟩ : nb3 = nb' ∧ cap3 = cap' := by simpa using e
            have i3 := (hcn 3 (by omega)).1
            simp only [RRow.cells, List.getElem?_cons_succ, List.getElem?_cons_zero] at i3
            rw [hpv] at i3
            clear hcn e
            have hB1 : But [] w3 (w3.alloc (.cells #[.int .i64 (x : Int)] 3)) := (But.refl [] w3).alloc _
            have hMa := hM3.still hB1
            have e8 : (w3.alloc (.cells #[.int .i64 (x : Int)] 3)).cell? ⟨R.b, 8, none⟩ = some (.slice (some ⟨nb3, 0, none⟩) rows3.length cap3) := hMa.rd.cell rfl
            obtain ⟨nb', cap', e, _, hcn⟩ := hMa.node i hi3
            obtain ⟨rfl, rfl⟩ : nb3 = nb' ∧ cap3 = cap' := by simpa using e
            have j3 := (hcn 3 (by omega)).1
            simp only [RRow.cells, List.getElem?_cons_succ, List.getElem?_cons_zero] at j3
            rw [hpv] at j3
            have HPV : Hid _ := hpv
            have HRW : Hid _ := hRW
            have HMD : Hid _ := hMd
            have HN3 : Hid _ := hn3
            have HKB3 : Hid _ := hkb3
            clear hcn e hMa hB1 hMd hM3 hpv hRW hn3 hkb3
            go_upto_region 11 with fail
            go_cut [] from 30 to 96 (fun wc => ∃ v', RMem R K3 k3 an3 er3 pl3 (.slice (some ⟨nb3, 0, none⟩) rows3.length cap3) mv3 (rows3.set i ⟨(rows3[i]).kb, { (rows3[i]).n with parts := (rows3[i]).n.parts ++ [x] }, (rows3[i]).kv, v'⟩) names3 wc ∧ Below R.base w wc)
            case first =>
              go_region_law ((refine step_append_own rfl (.tmp 61) (.tmp 63) 42 rfl R.base 3 i0 (.int .i64 0) 1 8 undInts hi0 hz0 hz1 hz2 rfl (by decide) (.slice pa parts.length pcap) parts.length (parts.map fun (i : Nat) => Value.int .i64 (i : Int)) (by simp [Act.eval]) HOWN.out ⟨w3.heap.size, 0, none⟩ 1 1 [.int .i64 (x : Int)] (by simp [Act.eval]) rfl HC1.out (fun u hu => by simp at hu; subst hu; rfl) (by unfold maxLen; omega) (by omega) HBS.out ?_; intro v' w' hown hgrow hloc; obtain ⟨hg1, ⟨ncs, hN1, hN2⟩, hb5, hM5⟩ := HMD.out.pushPart hi3 (v' := v') (w1 := w') (x := x) (o := .cells #[.int .i64 (x : Int)] 3) (by rw [HRW.out]; exact hown) (by rw [HPV.out]; exact hgrow) (by rw [HPV.out]; exact hloc); obtain ⟨va, vn, vc, rfl⟩ := own_slice hown; have g8 : w'.cell? ⟨R.b, 8, none⟩ = some (.slice (some ⟨nb3, 0, none⟩) rows3.length cap3) := hg1.cell rfl; have g2 := hN1.cell (i := i * 6 + 3) (Array.getElem?_eq_getElem (by omega)); have gf := hN1.free (i * 6 + 3); clear hown hgrow hloc))
              all_goals
                go_wp2_with fail
                go_meet
                case rel => exact ⟨_, hM5, HB3D.out.trans (HMD.out.belowP hi3 hb5)⟩
            case rest =>
              obtain ⟨v', hM5, hbel⟩ := hcut
              have d11c : wc.cell? ⟨R.b, 11, none⟩ = some (.int .i64 (er3 : Int)) := hM5.rd.cell rfl
              clear e8 j3 d8 i3 HOWN HC1 HBS
              rcases HAF.out with ⟨er, pl, hres, rfl, rfl, hA⟩ | ⟨t3, hres, rfl, rfl, rfl, rfl, rfl, hS3, ⟨l3, hl3, hi3', ha3, he3⟩, hk3, hp3, hg3, hst3⟩
              · have he := hA.1
                have HA : Hid (RBadAt ov t er3 an3 rows3 names3) := hA
                have HRES : Hid _ := hres
                clear hres HAF hA
                go_wp2_with fail
                go_end0
                refine ⟨rfl, hbel, ?_⟩
                rw [HRES.out]
                exact HA.out.set hov hM5
              · obtain rfl : l = l3 := by have := HL.out.symm.trans hl3; simpa using this
                have hnow2 := rnow_any hM5 hE.s HL.out hL he3
                have hq3 := skipBl_en R.s t3.k l.en he3 hL.en hL.nl
                have hge3 := skipBl_ge R.s t3.k
                have n6 := nowB_kind (k := t3.k) (κ := 6) hL he3 (by decide) (by decide) (by decide)
                rw [(kindB_tab _).2.2.2.1] at n6
                have nl6 := nowB_kind (k := t3.k) (κ := lastK isMap) hL he3 (by cases isMap <;> decide) (by cases isMap <;> decide) (by cases isMap <;> decide)
                rw [lastB_kind] at nl6
                have HN6 : Hid _ := n6
                have HNL : Hid _ := nl6
                have hlt3 := nowB_lt R.s t3.k l.en
                have HLT3 : Hid _ := hlt3
                have HRES : Hid (insideM R.s fl isMap t = if kindAt R.s (skipBl R.s t3.k) = 6 then inLoop R.s fl isMap (lastK isMap) m keys2 (parts ++ [x]) { t3 with k := skipBl R.s t3.k + 1 } else if kindAt R.s (skipBl R.s t3.k) = lastK isMap then .ok (keys2, parts ++ [x]) { t3 with k := skipBl R.s t3.k + 1 } else .bad 3 (skipBl R.s t3.k)) := hres
                have HS3 : Hid _ := hS3
                have HI3 : Hid _ := hi3'
                have HST3 : Hid _ := hst3
                have HBEL : Hid _ := hbel
                clear n6 nl6 hlt3 hres HAF hS3 hi3' hst3 hl3 hbel
                generalize lastB isMap = lb at *
                generalize nowB R.s t3.k l.en = c3 at *
                generalize skipBl R.s t3.k = q3 at *
                by_cases h44 : c3 = 44
                · subst h44
                  have hq3lt := HLT3.out (by decide)
                  go_wp2_with fail
                  refine hnow2.mono ?_
                  rintro e w6 ⟨rfl, h6, hb6⟩
                  have d3 : w6.cell? ⟨R.b, 3, none⟩ = some (.int .i64 (q3 : Int)) := h6.rd.cell rfl
                  have f3 := h6.rd.free 3
                  have h7 := h6.step
                  have hb7 : But [R.b] w6 _ := (But.refl [R.b] w6).setCell (p := ⟨R.b, 3, none⟩) (by simp) (.int .i64 ((q3 : Int) + 1))
                  go_wp2_with fail
                  go_roundg m
                  case measure => omega
                  case rel =>
                    refine ⟨{ t3 with k := q3 + 1 }, keys2, parts ++ [x], ?_, by simp only; omega, ⟨_, mv3, _, names3, h7, (HS3.out.reopen (by rw [HKB3.out]) (by rw [HN3.out])).move (by omega), l, HL.out, HI3.out, by simp only; omega, by simp only; omega⟩, HBEL.out.trans (hM5.belowB (hb6.trans hb7 (by simp))), by simp only; omega, by simp; omega, HST3.out.andThen (Step.move HS3.out.wf (by omega) (by omega))⟩
                    rw [HRES.out, if_pos (HN6.out.2 (by trivial))]
                · by_cases hlast : c3 = lb
                  · have hq3lt := HLT3.out (by omega)
                    have e1 : (c3 != lb) = false := by simp [hlast]
                    have e2 : (c3 == lb) = true := by simp [hlast]
                    have HLA : Hid _ := hlast
                    clear hlast
                    go_wp2_with fail
                    refine hnow2.mono ?_
                    rintro e w6 ⟨rfl, h6, hb6⟩
                    have d3 : w6.cell? ⟨R.b, 3, none⟩ = some (.int .i64 (q3 : Int)) := h6.rd.cell rfl
                    have f3 := h6.rd.free 3
                    have h7 := h6.step
                    have hb7 : But [R.b] w6 _ := (But.refl [R.b] w6).setCell (p := ⟨R.b, 3, none⟩) (by simp) (.int .i64 ((q3 : Int) + 1))
                    go_wp2_with fail
                    go_end0
                    refine ⟨rfl, HBEL.out.trans (hM5.belowB (hb6.trans hb7 (by simp))), ?_⟩
                    rw [HRES.out, if_neg (fun hc => h44 (HN6.out.1 hc)), if_pos (HNL.out.2 HLA.out)]
                    exact ⟨_, mv3, _, names3, h7, (HS3.out.reopen (by rw [HKB3.out]) (by rw [HN3.out])).move (by omega), l, HL.out, HI3.out, by simp only; omega, by simp only; omega⟩
                  · have e1 : (c3 != lb) = true := by simp [hlast]
                    have e2 : (c3 != 44) = true := by simp [h44]
                    go_wp2_with fail
                    refine hnow2.mono ?_
                    rintro e w6 ⟨rfl, h6, hb6⟩
                    have d3 : w6.cell? ⟨R.b, 3, none⟩ = some (.int .i64 (q3 : Int)) := h6.rd.cell rfl
                    go_wp2_with fail
                    refine (rwrong_any h6 3 q3).mono ?_
                    rintro e w7 ⟨rfl, h7, hb7⟩
                    go_wp2_with fail
                    go_end0
                    refine ⟨rfl, HBEL.out.trans (hM5.belowB (hb6.trans hb7 (by simp))), ?_⟩
                    rw [HRES.out, if_neg (fun hc => h44 (HN6.out.1 hc)), if_neg (fun hc => hlast (HNL.out.1 hc))]
                    exact (HS3.out.badSet hov h7 (by simp [wrE])).from HST3.out.len HST3.out.nm

end Go.Proofs.YtkflkmmbakccoaaGreatDoor
