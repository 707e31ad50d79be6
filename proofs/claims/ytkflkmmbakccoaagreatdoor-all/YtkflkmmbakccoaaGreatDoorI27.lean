/- PARTS: R24. -/
import Derived.Test.YtkflkmmbakccoaaGreatDoorI26

/- WALKS: package grafterref: block. -/
namespace Go.Proofs.YtkflkmmbakccoaaGreatDoor
open Go.RowKit Go.Maps

set_option maxRecDepth 20000 in
set_option maxHeartbeats 40000000 in
theorem rblockS_any {R : REnv} (hE : REnvOk R) {ov : Over} {K : Nat} {t : PS} {w : World} (h : RAtLine R ov K t w) (id : Nat) (hov : ov id = none) (hbl : t.nodes[id]? = some NodeV.blank) (d : Nat) (hd : d ≤ 25) (hlvd : (d : Int) + 1 ≤ R.B.depth) (it : PS → Res Nat)
    (hits : ∀ ov K t w (iv lv : Int), iv = 2 * (d : Int) → lv = (d : Int) + 2 → RGood R ov K t w → Calls Tryz.prog 133 #[.pointer (some ⟨R.b, 0, none⟩), .int .i64 iv, .int .i64 lv] w fun e w' => RPostNE R ov t w (it t) e w') (hito : FlowOk R.s R.B ((d : Int) + 2) it) (iv lv : Int) (hiv : iv = 2 * (d : Int)) (hlv : lv = (d : Int) + 1) (res : Res Unit)
    (hres : Hid (res = blockLoop R.s it id d (decide (kindAt R.s (skipBl R.s t.k) ≠ 4)) (R.s.size + 1) [] [] { t with k := skipBl R.s t.k })) :
    Calls Tryz.prog 106 #[.pointer (some ⟨R.b, 0, none⟩), .int .i64 (id : Int), .int .i64 iv, .int .i64 lv] w fun e w' => RPostE R ov t w res e w' := by
  obtain ⟨i0, hi0, hz0, hz1, hz2⟩ := info_parts infoInt
  obtain ⟨nv, mv, rows, names, hM, hS, l, hl, hind, hk⟩ := h
  have hsz := hE.s
  have hD := hE.d
  have hivb : 0 ≤ iv ∧ iv ≤ 100 := by omega
  have hlvb : 0 ≤ lv ∧ lv ≤ 100 := by omega
  have hit : id < t.nodes.length := (List.getElem?_eq_some_iff.1 hbl).1
  have hi : id < rows.length := by rw [hS.len]; exact hit
  have hz : highOf t.nodes id = 0 := by rw [highOf_get hbl]; rfl
  have hrn : (rows[id]).n = NodeV.blank := by
    have := (hS.shut id hi hov).1
    rw [hbl] at this
    exact (Option.some.inj this).symm
  obtain ⟨hlt, hk4⟩ := AtG.kind4 hE hl hk
  have hnb : skipBl R.s t.k = t.k := by rw [hk]; exact hE.nb hl
  rw [hnb] at hres
  have HRES0 : Hid (res = blockLoop R.s it id d (decide (kindAt R.s t.k ≠ 4)) (R.s.size + 1) [] [] t) := hres
  obtain ⟨nb, cap, rfl, hcap, _⟩ := hM.node id hi
  have HS : Hid _ := hS
  have HL : Hid _ := hl
  have HI : Hid _ := hind
  have HK : Hid _ := hk
  have HK4 : Hid _ := hk4
  have HITS : Hid _ := hits
  have HITO : Hid _ := hito
  have HRN : Hid _ := hrn
  have HIV : Hid _ := hiv
  have HLV : Hid _ := hlv
  have hwf : WF R.s t := hS.wf
  have c8 : w.cell? ⟨R.b, 8, none⟩ = some (.slice (some ⟨nb, 0, none⟩) rows.length cap) := hM.rd.cell rfl
  obtain ⟨j0, f0⟩ := hM.kbCell hi
  have h1 := hM.setKb hi 109 2
  have HB1 : Hid (Below R.base w _) := hM.belowKb (id * 6) (.int .u8 109)
  clear hS hl hind hk hk4 hits hito hrn hiv hlv hres hnb
  obtain ⟨isMap, HISM⟩ : ∃ isMap : Bool, Hid (isMap = decide (kindAt R.s t.k ≠ 4)) := ⟨_, (rfl : decide (kindAt R.s t.k ≠ 4) = decide (kindAt R.s t.k ≠ 4))⟩
  have HRES : Hid (res = blockLoop R.s it id d isMap (R.s.size + 1) [] [] t) := by unfold Hid; rw [HISM.out]; exact HRES0.out
  have hbyte : ((R.s[t.k].toNat : Int) == 45) = !isMap := by
    rw [HISM.out]
    by_cases h4 : kindAt R.s t.k = 4
    · have := HK4.out.1 h4
      simp [h4, this]
    · have : ¬ (R.s[t.k].toNat : Int) = 45 := fun e => h4 (HK4.out.2 e)
      simp [h4]; omega
  clear HRES0
  go_enter Tryz.func106, Tryz.ntmps106
  go_upto_region 1 with fail
  refine name_world fun W hW => ?_
  have h1' : RMem R K t.k t.anchors 0 0 (.slice (some ⟨nb, 0, none⟩) rows.length cap) mv (rows.set id ⟨109, { (rows[id]).n with kind := 2 }, (rows[id]).kv, (rows[id]).pv⟩) names W := by rw [hW.out]; exact h1
  have HB2 : Hid (Below R.base w W) := by unfold Hid; rw [hW.out]; exact HB1.out
  clear h1 HB1 hW c8 j0 f0 hM
  have d0 : W.cell? ⟨R.b, 0, none⟩ = some (.string R.s) := h1'.rd.cell rfl
  have d3 : W.cell? ⟨R.b, 3, none⟩ = some (.int .i64 (t.k : Int)) := h1'.rd.cell rfl
  go_quiet (fail)
  have h2 := h1'.still ((But.refl [] W).drewN nq)
  have HB3 : Hid (Below R.base w (W.drewN nq)) := HB2.out.trans (h1'.belowB ((But.refl [R.b] W).drewN nq))
  generalize W.drewN nq = W2 at *
  clear h1' HB2 d0 d3
  obtain ⟨rows1, HR1⟩ : ∃ rows1, Hid (rows1 = rows.set id ⟨109, { (rows[id]).n with kind := 2 }, (rows[id]).kv, (rows[id]).pv⟩) := ⟨_, (rfl : rows.set id ⟨109, { (rows[id]).n with kind := 2 }, (rows[id]).kv, (rows[id]).pv⟩ = rows.set id ⟨109, { (rows[id]).n with kind := 2 }, (rows[id]).kv, (rows[id]).pv⟩)⟩
  have HS1 : Hid (RSt R.s (ov.put id (109, { NodeV.blank with kind := 2 })) t rows1 names t.anchors) := by unfold Hid; rw [HR1.out]; exact HS.out.open hi hz rfl (by simp only; rw [HRN.out])
  have HLEN : Hid (rows.length = rows1.length) := by unfold Hid; rw [HR1.out]; simp
  rw [← HR1.out, HLEN.out] at h2
  have hi1 : id < rows1.length := by have := HLEN.out; omega
  have HN1 : Hid ((rows1[id]).n = { NodeV.blank with kind := 2 }) := HS1.out.rowAt.2.2
  have HB4 : Hid _ := HB3.out.trans (h2.belowKb (id * 6) (.int .u8 108))
  go_upto_if 26 with fail
  go_cut [] from 10 to 33 (fun wc => RAtLine R (ov.put id (kbOf isMap, nOf isMap)) K t wc ∧ Below R.base w wc)
  case first =>
    as_aux_lemma =>
      cases isMap with
      | true =>
        have hbf : ((R.s[t.k].toNat : Int) == 45) = false := hbyte
        go_wp2_with fail
        go_meet
        case rel => exact ⟨⟨_, mv, rows1, names, h2, HS1.out, l, HL.out, HI.out, HK.out⟩, HB3.out⟩
      | false =>
        have hbf : ((R.s[t.k].toNat : Int) == 45) = true := hbyte
        have e8 : W2.cell? ⟨R.b, 8, none⟩ = some (.slice (some ⟨nb, 0, none⟩) rows1.length cap) := h2.rd.cell rfl
        obtain ⟨j0, g0⟩ := h2.kbCell hi1
        have h3 := h2.setKb hi1 108 1
        go_wp2_with fail
        go_meet
        case rel => exact ⟨⟨_, mv, _, names, h3, HS1.out.reopen rfl (by simp only; rw [HN1.out]; rfl), l, HL.out, HI.out, HK.out⟩, HB4.out⟩
  case rest =>
    obtain ⟨hAt, hbel⟩ := hcut
    have HAT : Hid _ := hAt
    have HBEL : Hid _ := hbel
    clear hAt hbel h2 HB4 HB3
    go_wp2_with fail
    go_loopg [8, 9] (R.s.size + 1) (fun gk _ _ wr => BlkAt R ov id d it isMap t res w gk wr)
    case atStart =>
      refine ⟨HBEL.out, .inr ⟨K, t, [], [], HRES.out, by omega, HAT.out, fun hm => ?_, ⟨by simp, by simp, Step.refl _ hwf, fun x hx => by cases hx⟩⟩⟩
      have := HISM.out
      rw [hm] at this
      by_cases h4 : kindAt R.s t.k = 4
      · exact h4
      · simp [h4] at this
    case round =>
      obtain ⟨hbr, ⟨er, pl, hre, hbad⟩ | ⟨K1, t1, keys, parts, hre, hgk, hAr, hm4, hok⟩⟩ := hrel
      · have HRE : Hid _ := hre
        have HBAD : Hid (RBad R ov t er pl wr) := hbad
        obtain ⟨he, Kx, kx, anx, nvx, mvx, rowsx, namesx, hMx, _⟩ := hbad
        have d11 : wr.cell? ⟨R.b, 11, none⟩ = some (.int .i64 (er : Int)) := hMx.rd.cell rfl
        clear hre hMx
        go_wp2_with fail
        go_end0
        refine ⟨rfl, hbr, ?_⟩
        rw [HRE.out]
        exact HBAD.out
      · obtain ⟨m, rfl⟩ : ∃ m, gk = m + 1 := ⟨gk - 1, by have := hok.st.wf.k; omega⟩
        have hGr := hAr.good hE
        have HGR : Hid _ := hGr
        have HRE : Hid _ := hre
        have HBR : Hid _ := hbr
        have HM4 : Hid _ := hm4
        have HOK : Hid _ := hok
        have HSK : Hid (skipBl R.s t1.k = t1.k) := by
          obtain ⟨_, _, _, _, _, _, l1, hl1, _, hk1⟩ := hAr
          unfold Hid
          rw [hk1]; exact hE.nb hl1
        have hk1lt : t1.k < R.s.size := by
          obtain ⟨_, _, _, _, _, _, l1, hl1, _, hk1⟩ := hAr
          have hL1 := hE.line hl1
          have := hL1.at'
          have := hL1.en
          omega
        obtain ⟨nb1, cap1, mv1, rows2, names1, ⟨hM1, hir1, hkb1, _⟩, hS1, l1, hl1, hind1, hat1, hen1⟩ := hGr.partly
        have d11 : wr.cell? ⟨R.b, 11, none⟩ = some (.int .i64 0) := hM1.rd.cell rfl
        have d8 : wr.cell? ⟨R.b, 8, none⟩ = some (.slice (some ⟨nb1, 0, none⟩) rows2.length cap1) := hM1.rd.cell rfl
        have d3 : wr.cell? ⟨R.b, 3, none⟩ = some (.int .i64 (t1.k : Int)) := hM1.rd.cell rfl
        have g3 := hM1.rd.free 3
        have j0 := (hM1.kbCell hir1).1
        rw [hkb1] at j0
        have HS1' : Hid _ := hS1
        have HL1 : Hid _ := hl1
        have HI1 : Hid _ := hind1
        have hM1s := hM1.step
        have HMS : Hid _ := hM1s
        have HM1' : Hid _ := hM1
        have hkeys := hok.kl
        clear hre hbr hm4 hok hGr hAr hS1 hM1s hM1 hl1 hind1 HS1 HN1 HAT HBEL hkb1
        go_upto_if 47 with fail
        go_cut [] from 34 to 160 (fun wc => BlkMid R ov id d it isMap t res w m parts wc)
        case first =>
          as_aux_lemma =>
            cases isMap with
            | true =>
              have hk9 : (kbOf true : Int) = 109 := rfl
              rw [hk9] at j0
              go_wp2_with fail
              refine (rkey_any hE HGR.out hov hkeys).mono ?_
              rintro e w2 ⟨rfl, hb2, hp2⟩
              have HF : Hid (BlkMid R ov id d it true t res w m parts w2) := by
                refine ⟨HBR.out.trans hb2, ?_⟩
                have hld : leadM R.s true keys t1 = keyM R.s keys t1 := rfl
                cases hm : keyM R.s keys t1 with
                | bad er pl =>
                  simp only [hm] at hp2
                  exact .inl ⟨er, pl, by rw [HRE.out, blockLoop_lead, hld, hm]; rfl, hp2.from HOK.out.st.len HOK.out.st.nm⟩
                | ok keys2 t2 =>
                  simp only [hm] at hp2
                  have s2 := keyM_ok HOK.out.st.wf hm
                  have l2 := keyM_len hm
                  have := s2.2
                  have := HOK.out.pl
                  exact .inr ⟨K1, t2, keys2, by rw [HRE.out, blockLoop_lead, hld, hm]; rfl, by omega, by omega, hp2, HOK.out.step s2.1 (by omega)⟩
              clear hp2
              go_wp2_with fail
              go_meet
              case rel => exact HF.out
            | false =>
              have hk9 : (kbOf false : Int) = 108 := rfl
              rw [hk9] at j0
              have HF : Hid (BlkMid R ov id d it false t res w m parts (wr.setCell ⟨R.b, 3, none⟩ (.int .i64 ((t1.k : Int) + 1)))) := by
                have h4 := HM4.out rfl
                have hld : leadM R.s false keys t1 = .ok keys { t1 with k := t1.k + 1 } := by
                  unfold leadM expectM
                  rw [HSK.out, if_pos h4]
                  rfl
                have hL1 := hE.line HL1.out
                have hen' : t1.k < l1.en := by
                  by_cases e : t1.k < l1.en
                  · exact e
                  · exfalso
                    have e : t1.k = l1.en := by omega
                    have hb := hL1.nl (by omega)
                    rw [kindAt, if_pos hk1lt, e, hb] at h4
                    revert h4; decide
                have := HOK.out.pl
                exact ⟨HBR.out.trans (HM1'.out.belowB ((But.refl [R.b] wr).setCell (by simp) _)), .inr ⟨K1, { t1 with k := t1.k + 1 }, keys, by rw [HRE.out, blockLoop_lead, hld]; rfl, by simp only; omega, by simp only; omega, ⟨_, mv1, rows2, names1, HMS.out, HS1'.out.move (by omega), l1, HL1.out, HI1.out, by simp only; omega, by simp only; omega⟩, HOK.out.step (Step.move HOK.out.st.wf (by omega) (by omega)) (by simp only; omega)⟩⟩
              go_wp2_with fail
              go_meet
              case rel => exact HF.out
        case rest =>
          obtain ⟨wm, hwm⟩ : ∃ wm, wm = wc := ⟨wc, rfl⟩
          subst hwm
          clear HGR HRE HBR HOK HMS HM1' HS1' HL1 HI1 d11 d8 d3 g3 j0 HSK HM4
          obtain ⟨hbm, ⟨er, pl, hres, hbad⟩ | ⟨K2, t2, keys2, hres, hg2, hp2, hG2, hok2⟩⟩ := hcut
          · have HRES : Hid _ := hres
            have HBAD : Hid (RBad R ov t er pl wm) := hbad
            obtain ⟨he, Kx, kx, anx, nvx, mvx, rowsx, namesx, hMx, _⟩ := hbad
            have d11b : wm.cell? ⟨R.b, 11, none⟩ = some (.int .i64 (er : Int)) := hMx.rd.cell rfl
            clear hres hMx
            go_wp2_with fail
            go_end0
            refine ⟨rfl, hbm, ?_⟩
            rw [HRES.out]
            exact HBAD.out
          · obtain ⟨nb2, cap2, mv2, rows2, names2, ⟨hM2, _, _, _⟩, hS2, _⟩ := hG2.partly
            have d11b : wm.cell? ⟨R.b, 11, none⟩ = some (.int .i64 0) := hM2.rd.cell rfl
            have hwf2 : WF R.s t2 := hS2.wf
            have HRES : Hid _ := hres
            have HBM : Hid _ := hbm
            have HOK2 : Hid _ := hok2
            have HIT : Hid _ := HITS.out _ K2 t2 wm iv (lv + 1) HIV.out (by rw [HLV.out]; omega) hG2
            clear hres hM2 hS2 hbm hok2
            go_wp2_with fail
            refine Calls.mono HIT.out ?_
            rintro e w3 ⟨hb3, hp3⟩
            obtain ⟨x, K3, k3, an3, er3, pl3, nb3, cap3, mv3, rows3, names3, rfl, hP, HAF⟩ : ∃ x K3 k3 an3 er3 pl3 nb3 cap3 mv3 rows3 names3, e = .returned (.int .i64 ((x : Nat) : Int)) ∧ Partly R id (kbOf isMap) { nOf isMap with keys := keys2, parts := parts } K3 k3 an3 er3 pl3 nb3 cap3 mv3 rows3 names3 w3 ∧ Hid (BlkAfter R ov id d it isMap t res m keys2 parts x K3 k3 an3 er3 pl3 rows3 names3) := by
              cases hm : it t2 with
              | ok x t3 =>
                simp only [hm] at hp3
                obtain ⟨rfl, hG3⟩ := hp3
                obtain ⟨K3, k3, nb3, cap3, mv3, rows3, names3, hP, hS3, hl3⟩ := hG3.partly
                obtain ⟨s3, n3, b3⟩ := HITO.out t2 t3 x hwf2 (by omega) hm
                have hk3 := s3.k
                have hkk := HOK2.out.kl
                have ho3 := HOK2.out.step s3 (keys2 := keys2) (by omega)
                refine ⟨x, K3, k3, t3.anchors, 0, 0, nb3, cap3, mv3, rows3, names3, rfl, hP, .inr ⟨t3, by rw [HRES.out, hm]; rfl, rfl, rfl, rfl, hl3, hS3, by omega, ⟨ho3.kl, by simp; omega, ho3.st, fun y hy => ?_⟩⟩⟩
                rcases List.mem_append.1 hy with hy | hy
                · exact ho3.ph y hy
                · have := List.mem_singleton.1 hy
                  subst this
                  exact ⟨n3, by omega⟩
              | bad er pl =>
                simp only [hm] at hp3
                obtain ⟨⟨x, rfl⟩, hbad⟩ := hp3
                obtain ⟨K3, k3, an3, nb3, cap3, mv3, rows3, names3, hP, hA⟩ := hbad.partly hov
                exact ⟨x, K3, k3, an3, er, pl, nb3, cap3, mv3, rows3, names3, rfl, hP, .inl ⟨er, pl, by rw [HRES.out, hm]; rfl, rfl, rfl, hA.from HOK2.out.st.len HOK2.out.st.nm⟩⟩
            have HB3 : Hid (Below R.base w w3) := HBM.out.trans hb3
            have hpl3 : parts.length ≤ 1000 := by have := hwf2.k; omega
            clear hp3 hb3 HBM HRES hG2 d11b hwf2 HIT HOK2
            obtain ⟨hM3, hi3, hkb3, hn3⟩ := hP
            obtain ⟨pa, pcap, hpv, hpc⟩ := own_shape (hM3.ok _ (List.getElem_mem hi3)).2
            have hMd : RMem R K3 k3 an3 er3 pl3 (.slice (some ⟨nb3, 0, none⟩) rows3.length cap3) mv3 rows3 names3 w3.drew := hM3.still (But.refl [] w3).drew
            have HB3D : Hid (Below R.base w w3.drew) := HB3.out.trans (hM3.belowB (But.refl [R.b] w3).drew)
            have hRW : (rows3[id]).n.parts = parts := by rw [hn3]
            rw [hRW] at hpv hpc
            have HOWN : Hid ((w3.drew.alloc (.cells #[.int .i64 (x : Int)] 3)).ownsRow R.base 3 1 (.slice pa parts.length pcap) parts.length (parts.map fun (i : Nat) => Value.int .i64 (i : Int))) := by
              have := (hMd.ok _ (List.getElem_mem hi3)).2.alloc (.cells #[.int .i64 (x : Int)] 3)
              rw [hRW, hpv] at this
              exact this
            have HC1 : Hid (∀ (j : Nat) (u : Value), [Value.int .i64 (x : Int)][j]? = some u → (w3.drew.alloc (.cells #[.int .i64 (x : Int)] 3)).cell? ((⟨w3.heap.size, 0, none⟩ : Addr).add j) = some u) := cells_new w3.drew _ _ _ rfl
            have HBS : Hid (R.base ≤ (w3.drew.alloc (.cells #[.int .i64 (x : Int)] 3)).heap.size) := by
              have := hMd.base
              show R.base ≤ _
              simp at this ⊢
              omega
            have d8 : w3.cell? ⟨R.b, 8, none⟩ = some (.slice (some ⟨nb3, 0, none⟩) rows3.length cap3) := hM3.rd.cell rfl
            obtain ⟨nb', cap', e, _, hcn⟩ := hM3.node id hi3
            obtain ⟨rfl, rfl⟩ : nb3 = nb' ∧ cap3 = cap' := by simpa using e
            have i3 := (hcn 3 (by omega)).1
            simp only [RRow.cells, List.getElem?_cons_succ, List.getElem?_cons_zero] at i3
            rw [hpv] at i3
            clear hcn e
            have hB1 : But [] w3 (w3.alloc (.cells #[.int .i64 (x : Int)] 3)) := (But.refl [] w3).alloc _
            have hMa := hM3.still hB1
            have e8 : (w3.alloc (.cells #[.int .i64 (x : Int)] 3)).cell? ⟨R.b, 8, none⟩ = some (.slice (some ⟨nb3, 0, none⟩) rows3.length cap3) := hMa.rd.cell rfl
            obtain ⟨nb', cap', e, _, hcn⟩ := hMa.node id hi3
            obtain ⟨rfl, rfl⟩ : nb3 = nb' ∧ cap3 = cap' := by simpa using e
            have j3 := (hcn 3 (by omega)).1
            simp only [RRow.cells, List.getElem?_cons_succ, List.getElem?_cons_zero] at j3
            rw [hpv] at j3
            have HPV : Hid _ := hpv
            have HRW : Hid _ := hRW
            have HMD : Hid _ := hMd
            have HN3 : Hid _ := hn3
            have HKB3 : Hid _ := hkb3
            clear hcn e hMa hB1 hMd hM3 hpv hRW hn3 hkb3
            go_upto_region 9 with fail
            go_cut [] from 34 to 160 (fun wc => ∃ v', RMem R K3 k3 an3 er3 pl3 (.slice (some ⟨nb3, 0, none⟩) rows3.length cap3) mv3 (rows3.set id ⟨(rows3[id]).kb, { (rows3[id]).n with parts := (rows3[id]).n.parts ++ [x] }, (rows3[id]).kv, v'⟩) names3 wc ∧ Below R.base w wc)
            case first =>
              go_region_law ((refine step_append_own rfl (.tmp 80) (.tmp 82) 42 rfl R.base 3 i0 (.int .i64 0) 1 8 undInts hi0 hz0 hz1 hz2 rfl (by decide) (.slice pa parts.length pcap) parts.length (parts.map fun (i : Nat) => Value.int .i64 (i : Int)) (by simp [Act.eval]) HOWN.out ⟨w3.heap.size, 0, none⟩ 1 1 [.int .i64 (x : Int)] (by simp [Act.eval]) rfl HC1.out (fun u hu => by simp at hu; subst hu; rfl) (by unfold maxLen; omega) (by omega) HBS.out ?_; intro v' w' hown hgrow hloc; obtain ⟨hg1, ⟨ncs, hN1, hN2⟩, hb5, hM5⟩ := HMD.out.pushPart hi3 (v' := v') (w1 := w') (x := x) (o := .cells #[.int .i64 (x : Int)] 3) (by rw [HRW.out]; exact hown) (by rw [HPV.out]; exact hgrow) (by rw [HPV.out]; exact hloc); obtain ⟨va, vn, vc, rfl⟩ := own_slice hown; have g8 : w'.cell? ⟨R.b, 8, none⟩ = some (.slice (some ⟨nb3, 0, none⟩) rows3.length cap3) := hg1.cell rfl; have g2 := hN1.cell (i := id * 6 + 3) (Array.getElem?_eq_getElem (by omega)); have gf := hN1.free (id * 6 + 3); clear hown hgrow hloc))
              all_goals
                go_wp2_with fail
                go_meet
                case rel => exact ⟨_, hM5, HB3D.out.trans (HMD.out.belowP hi3 hb5)⟩
            case rest =>
              obtain ⟨wn, hwn⟩ : ∃ wn, wn = wc := ⟨wc, rfl⟩
              subst hwn
              obtain ⟨v', hM5, hbel⟩ := hcut
              have d11c : wn.cell? ⟨R.b, 11, none⟩ = some (.int .i64 (er3 : Int)) := hM5.rd.cell rfl
              clear e8 j3 d8 i3 HOWN HC1 HBS
              rcases HAF.out with ⟨er, pl, hres, rfl, rfl, hA⟩ | ⟨t3, hres, rfl, rfl, rfl, hG3, hS3, hg3, hok3⟩
              · have he := hA.1
                have HA : Hid (RBadAt ov t er3 an3 rows3 names3) := hA
                have HRES : Hid _ := hres
                clear hres HAF hA
                go_wp2_with fail
                go_end0
                refine ⟨rfl, hbel, ?_⟩
                rw [HRES.out]
                exact HA.out.set hov hM5
              · have HRES : Hid _ := hres
                have HS3 : Hid (RSt R.s (ov.put id (kbOf isMap, { nOf isMap with keys := keys2, parts := parts ++ [x] })) t3 (rows3.set id ⟨(rows3[id]).kb, { (rows3[id]).n with parts := (rows3[id]).n.parts ++ [x] }, (rows3[id]).kv, v'⟩) names3 t3.anchors) := hS3.reopen HKB3.out (by simp only; rw [HN3.out])
                have HG3 : Hid _ := hG3
                have HOK3 : Hid _ := hok3
                have HBEL : Hid _ := hbel
                obtain ⟨rows4, HR4⟩ : ∃ rows4, Hid (rows4 = rows3.set id ⟨(rows3[id]).kb, { (rows3[id]).n with parts := (rows3[id]).n.parts ++ [x] }, (rows3[id]).kv, v'⟩) := ⟨_, (rfl : rows3.set id ⟨(rows3[id]).kb, { (rows3[id]).n with parts := (rows3[id]).n.parts ++ [x] }, (rows3[id]).kv, v'⟩ = rows3.set id ⟨(rows3[id]).kb, { (rows3[id]).n with parts := (rows3[id]).n.parts ++ [x] }, (rows3[id]).kv, v'⟩)⟩
                have hlen4 : rows3.length = rows4.length := by rw [HR4.out]; simp
                rw [← HR4.out, hlen4] at hM5
                rw [← HR4.out] at HS3
                obtain ⟨hi4, hkb4, _⟩ := HS3.out.rowAt
                simp only at hkb4
                have HKB4 : Hid _ := hkb4
                obtain ⟨la, lcap, hlve, hlc⟩ := own_shape hM5.lines
                have e1 : wn.cell? ⟨R.b, 1, none⟩ = some R.lv := hM5.rd.cell rfl
                rw [hlve] at e1
                have e2 : wn.cell? ⟨R.b, 2, none⟩ = some (.int .i64 (K3 : Int)) := hM5.rd.cell rfl
                have HLVE : Hid _ := hlve
                have HMP : Hid _ := hM5
                clear hres HAF hS3 hG3 hok3 hbel HN3 HKB3 hkb4 hlve HMD HPV HRW hM5 hlen4
                go_upto_region 11 with fail
                go_cut [115] from 34 to 160 (fun v wc => ∃ bv : Bool, v = .bool bv ∧ BlkEnd bv R d K3 t3 ∧ ∃ m', wc = wn.drewN m')
                case first =>
                  as_aux_lemma =>
                    rcases HG3.out with ⟨_, l3, hl3, hi3', _⟩ | ⟨_, hK3⟩
                    · obtain ⟨hK3, hle⟩ := List.getElem?_eq_some_iff.1 hl3
                      obtain ⟨lb, lcap', e, _, l0, _, _⟩ := ownsLine HMP.out.lines K3 hK3
                      obtain ⟨rfl, rfl⟩ : la = some ⟨lb, 0, none⟩ ∧ lcap = lcap' := by have := HLVE.out.symm.trans e; simpa using this
                      rw [hle] at l0
                      have hg1 : decide ((K3 : Int) ≥ (R.L.length : Int)) = false := by simp; omega
                      have HLE : Hid _ := hle
                      have HI3 : Hid _ := hi3'
                      clear hle hi3' hl3 e
                      by_cases hlt3 : l3.ind < 2 * d
                      · have hg2 : decide ((l3.ind : Int) < iv) = true := by rw [HIV.out]; simp; omega
                        go_quiet (fail)
                        go_wp2_with fail
                        go_meet
                        case rel => exact ⟨_, rfl, by unfold BlkEnd; rw [HI3.out]; simp [hlt3], _, rfl⟩
                      · have hg2 : decide ((l3.ind : Int) < iv) = false := by rw [HIV.out]; simp; omega
                        go_quiet (fail)
                        go_wp2_with fail
                        go_meet
                        case rel => exact ⟨_, rfl, by unfold BlkEnd; rw [HI3.out]; simp; omega, _, rfl⟩
                    · have hg1 : decide ((K3 : Int) ≥ (R.L.length : Int)) = true := by simp; omega
                      go_quiet (fail)
                      go_wp2_with fail
                      go_meet
                      case rel => exact ⟨_, rfl, by unfold BlkEnd; simp [hK3], _, rfl⟩
                case rest =>
                  obtain ⟨W6, hW6⟩ : ∃ W6, W6 = wc := ⟨wc, rfl⟩
                  subst hW6
                  obtain ⟨bv, rfl, HBE, m', hwc⟩ := hcut
                  have hM6 : RMem R K3 k3 t3.anchors 0 0 (.slice (some ⟨nb3, 0, none⟩) rows4.length cap3) mv3 rows4 names3 W6 := by rw [hwc]; exact HMP.out.still ((But.refl [] wn).drewN m')
                  have HB6 : Hid (Below R.base w W6) := by unfold Hid; rw [hwc]; exact HBEL.out.trans (HMP.out.belowB ((But.refl [R.b] wn).drewN m'))
                  clear hwc e1 e2 d11c HBEL HMP
                  have hid3 : id < t3.nodes.length := by have := HOK3.out.st.len; omega
                  cases bv with
                  | true =>
                    have HM : Hid (res = .ok () (endM id { nOf isMap with keys := keys2, parts := parts ++ [x] } t3)) := by unfold Hid; rw [HRES.out, blkTail_end hE HG3.out (HBE.1 rfl)]
                    have HDN : Hid _ := rdone_st (t := t3) (n := { nOf isMap with keys := keys2, parts := parts ++ [x] }) hM6 HS3.out hov (by cases isMap <;> rfl) (fun y hy => (HOK3.out.ph y hy).1) (by have := HOK3.out.pl; have := HOK3.out.st.wf.k; simp only; omega) (endM_step (B := R.B) (lv := (d : Int) + 1) (n := { nOf isMap with keys := keys2, parts := parts ++ [x] }) HOK3.out.st.wf hid3 (by omega) hD hlvd (fun y hy => (HOK3.out.ph y hy).2)).1.wf
                    clear hM6 HBE
                    go_wp2_with fail
                    refine Calls.mono HDN.out ?_
                    rintro e w7 ⟨rfl, hb7, rows7, hM7, hS7⟩
                    go_wp2_with fail
                    go_end0
                    refine ⟨rfl, HB6.out.trans hb7, ?_⟩
                    rw [HM.out]
                    exact RGoodE.mk hM7 hS7 HG3.out
                  | false =>
                    have hne : ¬ (R.L.length ≤ K3 ∨ t3.ind < 2 * d) := fun hc => by have := HBE.2 hc; cases this
                    have HM : Hid _ := HRES.out.trans (blkTail_on hE HG3.out hne it id isMap m keys2 (parts ++ [x]))
                    have HSK : Hid (skipBl R.s t3.k = t3.k) := AtG.skip hE (K := K3) (k := k3) HG3.out
                    rcases HG3.out with ⟨rfl, l3, hl3, hi3', hk3'⟩ | ⟨_, hK3⟩
                    · obtain ⟨hlt3, hk43⟩ := AtG.kind4 hE hl3 hk3'
                      obtain ⟨m2, rfl⟩ : ∃ m2, m = m2 + 1 := ⟨m - 1, by omega⟩
                      obtain ⟨hK3, hle⟩ := List.getElem?_eq_some_iff.1 hl3
                      have HL3 : Hid _ := hl3
                      have HI3 : Hid _ := hi3'
                      have HKK : Hid _ := hk3'
                      have HLE : Hid _ := hle
                      have HNE : Hid _ := hne
                      have d0 : W6.cell? ⟨R.b, 0, none⟩ = some (.string R.s) := hM6.rd.cell rfl
                      have d3 : W6.cell? ⟨R.b, 3, none⟩ = some (.int .i64 (t3.k : Int)) := hM6.rd.cell rfl
                      obtain ⟨dsh, HDS⟩ : ∃ dsh : Bool, Hid (((R.s[t3.k].toNat : Int) == 45) = dsh) := ⟨_, (rfl : ((R.s[t3.k].toNat : Int) == 45) = ((R.s[t3.k].toNat : Int) == 45))⟩
                      have HD4 : Hid (kindAt R.s t3.k = 4 ↔ dsh = true) := by unfold Hid; rw [hk43, ← HDS.out]; simp
                      clear hl3 hi3' hk3' hle hne hk43 HRES HBE
                      go_upto_region 13 with fail
                      go_quiet (fail)
                      have hM7 := hM6.still ((But.refl [] W6).drewN nq)
                      have HB7 : Hid (Below R.base w (W6.drewN nq)) := HB6.out.trans (hM6.belowB ((But.refl [R.b] W6).drewN nq))
                      generalize W6.drewN nq = W7 at *
                      rw [HDS.out]
                      clear hM6 HB6 d0 d3 HDS
                      obtain ⟨lb, lcap', e, _, l0, _, _⟩ := ownsLine hM7.lines K3 hK3
                      rw [HLE.out] at l0
                      have e1 : W7.cell? ⟨R.b, 1, none⟩ = some R.lv := hM7.rd.cell rfl
                      rw [e] at e1
                      have e2 : W7.cell? ⟨R.b, 2, none⟩ = some (.int .i64 (K3 : Int)) := hM7.rd.cell rfl
                      have e8 : W7.cell? ⟨R.b, 8, none⟩ = some (.slice (some ⟨nb3, 0, none⟩) rows4.length cap3) := hM7.rd.cell rfl
                      have j0 := (hM7.kbCell hi4).1
                      rw [HKB4.out] at j0
                      have HM7 : Hid _ := hM7
                      clear e hM7
                      go_upto_region 14 with fail
                      go_cut [154] from 34 to 160 (fun v wc => ∃ bv : Bool, v = .bool bv ∧ BlkNot bv R d isMap t3 ∧ ∃ m', wc = W7.drewN m')
                      case first =>
                        as_aux_lemma =>
                          by_cases hgt : 2 * d < l3.ind
                          · have hg2 : decide ((l3.ind : Int) > iv) = true := by rw [HIV.out]; simp; omega
                            go_quiet (fail)
                            go_wp2_with fail
                            go_meet
                            case rel => exact ⟨_, rfl, by unfold BlkNot; rw [HI3.out]; simp [hgt], _, rfl⟩
                          · have hg2 : decide ((l3.ind : Int) > iv) = false := by rw [HIV.out]; simp; omega
                            have hn4 := HD4.out
                            cases isMap with
                            | true =>
                              have hk9 : (kbOf true : Int) = 109 := rfl
                              rw [hk9] at j0
                              cases dsh with
                              | true =>
                                have H4 : Hid (kindAt R.s t3.k = 4) := hn4.2 rfl
                                clear hn4
                                go_quiet (fail)
                                go_wp2_with fail
                                go_meet
                                case rel => exact ⟨_, rfl, by unfold BlkNot; simp [H4.out], _, rfl⟩
                              | false =>
                                have H4 : Hid (¬ kindAt R.s t3.k = 4) := fun hc => by have := hn4.1 hc; cases this
                                clear hn4
                                go_quiet (fail)
                                go_wp2_with fail
                                go_meet
                                case rel => exact ⟨_, rfl, by unfold BlkNot; rw [HI3.out]; simp [H4.out]; omega, _, rfl⟩
                            | false =>
                              have hk9 : (kbOf false : Int) = 108 := rfl
                              rw [hk9] at j0
                              cases dsh with
                              | true =>
                                have H4 : Hid (kindAt R.s t3.k = 4) := hn4.2 rfl
                                clear hn4
                                go_quiet (fail)
                                go_wp2_with fail
                                go_meet
                                case rel => exact ⟨_, rfl, by unfold BlkNot; rw [HI3.out]; simp [H4.out]; omega, _, rfl⟩
                              | false =>
                                have H4 : Hid (¬ kindAt R.s t3.k = 4) := fun hc => by have := hn4.1 hc; cases this
                                clear hn4
                                go_quiet (fail)
                                go_wp2_with fail
                                go_meet
                                case rel => exact ⟨_, rfl, by unfold BlkNot; simp [H4.out], _, rfl⟩
                      case rest =>
                        obtain ⟨W8, hW8⟩ : ∃ W8, W8 = wc := ⟨wc, rfl⟩
                        subst hW8
                        obtain ⟨bv, rfl, HBN, m', hwc⟩ := hcut
                        have hM8 : RMem R K3 t3.k t3.anchors 0 0 (.slice (some ⟨nb3, 0, none⟩) rows4.length cap3) mv3 rows4 names3 W8 := by rw [hwc]; exact HM7.out.still ((But.refl [] W7).drewN m')
                        have HB8 : Hid (Below R.base w W8) := by unfold Hid; rw [hwc]; exact HB7.out.trans (HM7.out.belowB ((But.refl [R.b] W7).drewN m'))
                        clear hwc e1 e2 e8 j0 l0 HB7 HM7
                        cases bv with
                        | true =>
                          have HMB : Hid (res = .bad 3 t3.k) := by
                            unfold Hid
                            rw [HM.out]
                            split
                            · rfl
                            · rename_i hnl
                              exact blockLoop_not HSK.out it id d isMap m2 keys2 (parts ++ [x]) ((HBN.1 rfl).resolve_left hnl)
                          have d3 : W8.cell? ⟨R.b, 3, none⟩ = some (.int .i64 (t3.k : Int)) := hM8.rd.cell rfl
                          go_wp2_with fail
                          refine (rwrong_any hM8 3 t3.k).mono ?_
                          rintro e w9 ⟨rfl, h9, hb9⟩
                          go_wp2_with fail
                          go_roundg (m2 + 1)
                          case measure => omega
                          case rel => exact ⟨HB8.out.trans (hM8.belowB hb9), .inl ⟨3, t3.k, HMB.out, ((HS3.out.bad h9 (by simp [wrE])).drop hov).from HOK3.out.st.len HOK3.out.st.nm⟩⟩
                        | false =>
                          have hnb : ¬ (2 * d < t3.ind ∨ (kindAt R.s t3.k = 4 ↔ isMap = true)) := fun hc => by have := HBN.2 hc; cases this
                          have HMB : Hid (res = blockLoop R.s it id d isMap (m2 + 1) keys2 (parts ++ [x]) t3) := by
                            exact HM.out.trans (if_neg (fun hc => hnb (.inl hc)))
                          have HNB : Hid _ := hnb
                          clear hnb
                          go_wp2_with fail
                          go_roundg (m2 + 1)
                          case measure => omega
                          case rel =>
                            refine ⟨HB8.out, .inr ⟨K3, t3, keys2, parts ++ [x], HMB.out, hg3, ⟨_, mv3, rows4, names3, hM8, HS3.out, l3, HL3.out, HI3.out, HKK.out⟩, fun hm => ?_, HOK3.out⟩⟩
                            by_cases h4 : kindAt R.s t3.k = 4
                            · exact h4
                            · exact absurd (.inr ⟨fun hc => absurd hc h4, fun hc => by rw [hm] at hc; cases hc⟩) HNB.out
                    · exact absurd (.inl hK3) hne

/-- A block that has begun, with as many levels to come as there may be. -/
theorem rblock_any {R : REnv} (hE : REnvOk R) (f : Nat) : ∀ d : Nat, d ≤ 25 → R.B.depth ≤ (d : Int) + f → (d : Int) + 1 ≤ R.B.depth → RBlockSaid R d (fun id => blockM R.s R.B f id d) := by
  have hD := hE.d
  induction f with
  | zero =>
    intro d _ hf hlv
    exact absurd hlv (by push_cast at hf; omega)
  | succ f ih =>
    intro d hd hf hlvd ov K t w id iv lv hiv hlv h hov hbl
    refine rblockS_any hE h id hov hbl d hd hlvd (itemS R.s R.B (blockM R.s R.B f) d) ?_ (itemS_ok hD hE.n hE.a (blockM_ok hD hE.n hE.a f)) iv lv hiv hlv _ rfl
    intro ov' K' t' w' iv' lv' hiv' hlv' h'
    exact ritem_any hE h' d hd (blockM R.s R.B f) (fun hq => ih (d + 1) (by omega) (by push_cast at hf ⊢; omega) (by push_cast; omega)) (blockM_ok hD hE.n hE.a f) iv' lv' hiv' hlv'

end Go.Proofs.YtkflkmmbakccoaaGreatDoor
