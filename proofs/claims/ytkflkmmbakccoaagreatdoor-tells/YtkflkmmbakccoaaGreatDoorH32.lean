/- PARTS: R21. -/
import Derived.Test.YtkflkmmbakccoaaGreatDoorH31

/- WALKS: package grafterref: below. -/
namespace Go.Proofs.YtkflkmmbakccoaaGreatDoor
open Go.RowKit Go.Maps

theorem RSt.goto {s : ByteArray} {ov : Over} {t t' : PS} {rows : List RRow} {names : List (ByteArray × Nat)} {an : Nat} (h : RSt s ov t rows names an) (h1 : t'.nodes = t.nodes) (h2 : t'.names = t.names) (h3 : t'.anchors = t.anchors) (hk : t'.k ≤ s.size) : RSt s ov t' rows names an := by
  obtain ⟨k, ind, nodes, anchors, nms⟩ := t
  obtain ⟨k', ind', nodes', anchors', nms'⟩ := t'
  simp only at h1 h2 h3 hk
  subst h1 h2 h3
  exact ⟨h.len, h.shut, h.opened, h.names, h.an, ⟨hk, h.wf.nodes, h.wf.anchors, h.wf.names, h.wf.named, h.wf.heavy, h.wf.high⟩⟩

/-- Does a line not begin the block that must be there? -/
def NotBelow (bv : Bool) (ind d : Nat) (c : Int) : Prop := bv = true ↔ ¬ (ind = 2 * d ∧ (isWB c = true ∨ c = 45 ∨ c = 34))

theorem goBelowM_line {R : REnv} (hE : REnvOk R) {K : Nat} {l l' : LineV} (hl : R.L[K]? = some l) (hl' : R.L[K + 1]? = some l') {t : PS} (ht : t.k = l.en) (d : Nat) :
    goBelowM R.s d t = if l'.ind = 2 * d ∧ (isWB (byteAt R.s l'.at') = true ∨ byteAt R.s l'.at' = 45 ∨ byteAt R.s l'.at' = 34) then .ok () (nextM R.s t) else .bad 3 l'.at' := by
  obtain ⟨h1, h2⟩ := (hE.next hl t ht).1 l' hl'
  have hnb := hE.nb hl'
  have hL' := hE.line hl'
  have ha := hL'.at'
  have he := hL'.en
  have hk : kindAt R.s l'.at' = kindB (byteAt R.s l'.at') := by rw [kindAt, if_pos (by omega)]
  have hkk : (kindAt R.s l'.at' = 4 ∨ kindAt R.s l'.at' = 2 ∨ kindAt R.s l'.at' = 3) ↔ (isWB (byteAt R.s l'.at') = true ∨ byteAt R.s l'.at' = 45 ∨ byteAt R.s l'.at' = 34) := by
    rw [hk, kindB_2, kindB_3, (kindB_tab _).2.1]
    constructor
    · rintro (h | h | h)
      · exact .inr (.inl h)
      · exact .inl h
      · exact .inr (.inr h)
    · rintro (h | h | h)
      · exact .inr (.inl h)
      · exact .inl h
      · exact .inr (.inr h)
  have e : nextM R.s t = ⟨l'.at', l'.ind, t.nodes, t.anchors, t.names⟩ := by rw [← h1, ← h2]; rfl
  unfold goBelowM
  simp only [e, hnb, hkk]

theorem goBelowM_none {R : REnv} (hE : REnvOk R) {K : Nat} {l : LineV} (hl : R.L[K]? = some l) (hlen : R.L.length ≤ K + 1) {t : PS} (ht : t.k = l.en) (d : Nat) : goBelowM R.s d t = .bad 3 R.s.size := by
  have h2 := (hE.next hl t ht).2 hlen
  have e : skipBl R.s R.s.size = R.s.size := skipBl_end R.s _ (by omega)
  have k0 : kindAt R.s R.s.size = 0 := by rw [kindAt, if_neg (by omega)]
  unfold goBelowM
  simp only [h2, e, k0]
  rw [if_neg (by omega)]

set_option maxRecDepth 20000 in
set_option maxHeartbeats 4000000 in
theorem rbelow_new {R : REnv} (hE : REnvOk R) {ov : Over} {K : Nat} {t : PS} {w : World} (h : RGood R ov K t w) (hke : ∀ l, R.L[K]? = some l → t.k = l.en) (d : Nat) (blk : Nat → PS → Res Unit) (hb : (d : Int) + 1 ≤ R.B.depth → RBlockSaid R d blk) (iv lv : Int) (hiv : iv = 2 * (d : Int)) (hlv : lv = (d : Int) + 1) :
    Calls Tryz.prog 174 #[.pointer (some ⟨R.b, 0, none⟩), .int .i64 iv, .int .i64 lv, .int .i64 (-1)] w fun e w' => RPostNE R ov t w (belowM R.s R.B blk d t) e w' := by
  obtain ⟨nv, mv, rows, names, hM, hS, l, hl, hind, hat, hen⟩ := h
  have hsz := hE.s
  have hKL : R.L.length ≤ 1000 := by
    rw [hE.L]
    exact Nat.le_trans (linesFrom_len R.s 0 (by omega)) (by omega)
  have hK : K < R.L.length := (List.getElem?_eq_some_iff.1 hl).1
  have HS : Hid _ := hS
  have HL : Hid _ := hl
  have HKE : Hid _ := hke
  have HMW : Hid _ := hM
  have hnx := rnext_any hM (by omega)
  have HHL : Hid _ := hlv
  have HHI : Hid _ := hiv
  have HB0 : Hid _ := hb
  clear hS hl hke hind hM hlv hiv hb
  go_enter Tryz.func174, Tryz.ntmps174
  go_wp2_with fail
  refine hnx.mono ?_
  rintro e w1 ⟨hb1, ⟨l', hl', rfl, h1⟩ | ⟨hlen, rfl, h1⟩⟩
  · have hL' := hE.line hl'
    have ha' := hL'.at'
    have he' := hL'.en
    have has : l'.at' < R.s.size := by omega
    have HL' : Hid _ := hl'
    have HNX : Hid _ := (hE.next HL.out t (HKE.out l HL.out)).1 l' hl'
    have HGB : Hid _ := goBelowM_line hE HL.out hl' (HKE.out l HL.out) d
    have HSN : Hid (RSt R.s ov (nextM R.s t) rows names t.anchors) := HS.out.goto rfl rfl rfl (by rw [(HNX.out).2]; omega)
    clear hl'
    have hby := byteAt_lt R.s l'.at' has
    rw [hby] at HGB
    have hcb : 0 ≤ (R.s[l'.at'].toNat : Int) ∧ (R.s[l'.at'].toNat : Int) ≤ 255 := by
      have := R.s[l'.at'].toNat_lt
      omega
    clear hby
    have d0 : w1.cell? ⟨R.b, 0, none⟩ = some (.string R.s) := h1.rd.cell rfl
    have d3 : w1.cell? ⟨R.b, 3, none⟩ = some (.int .i64 (l'.at' : Int)) := h1.rd.cell rfl
    go_upto_region 5 with fail
    go_quiet (fail)
    have h2 := h1.still ((But.refl [] w1).drewN nq)
    have hb2 : But [R.b] w (w1.drewN nq) := hb1.drewN nq
    generalize w1.drewN nq = W at *
    generalize (R.s[l'.at'].toNat : Int) = c at *
    clear d0 d3 h1 hb1
    go_upto_region 7 with (go_at_call 109; refine (letter_any _ _).mono ?_; rintro e w' ⟨rfl, hww⟩; have hww2 := hww.symm; clear hww; subst hww2)
    have hKJ : K + 1 < R.L.length := (List.getElem?_eq_some_iff.1 HL'.out).1
    obtain ⟨lb, lcap, hlve, hlc, l0, _, _⟩ := ownsLine h2.lines (K + 1) hKJ
    have hle : R.L[K + 1] = l' := (List.getElem?_eq_some_iff.1 HL'.out).2
    rw [hle] at l0
    have e1 : W.cell? ⟨R.b, 1, none⟩ = some R.lv := h2.rd.cell rfl
    rw [hlve] at e1
    have e2 : W.cell? ⟨R.b, 2, none⟩ = some (.int .i64 ((K + 1 : Nat) : Int)) := h2.rd.cell rfl
    have HM2 : Hid _ := h2
    have HBW : Hid _ := hb2
    have HLVE : Hid _ := hlve
    obtain ⟨J, HJ⟩ : ∃ J, Hid (J = K + 1) := ⟨K + 1, (rfl : K + 1 = K + 1)⟩
    rw [← HJ.out] at e2 l0 hKJ
    clear h2 hb2 hle hlve
    go_cut [60] from 36 to 59 (fun v wc => ∃ bv : Bool, v = .bool bv ∧ NotBelow bv l'.ind d c ∧ ∃ m, wc = W.drewN m)
    case first =>
      by_cases g1 : l'.ind = 2 * d
      · have b1 : ((l'.ind : Int) != iv) = false := by rw [HHI.out]; simp [g1]
        have G1 : Hid _ := g1
        clear g1
        by_cases g2 : isWB c = true
        · go_quiet (fail)
          go_wp2_with fail
          go_meet
          case rel => exact ⟨_, rfl, by unfold NotBelow; simp [G1.out, g2], _, rfl⟩
        · have g2' : isWB c = false := by simpa using g2
          by_cases g3 : c = 45
          · have b3 : (c != 45) = false := by simp [g3]
            have G3 : Hid _ := g3
            clear g3
            go_quiet (fail)
            go_wp2_with fail
            go_meet
            case rel => exact ⟨_, rfl, by unfold NotBelow; simp [G1.out, G3.out], _, rfl⟩
          · have b3 : (c != 45) = true := by simp [g3]
            by_cases g4 : c = 34
            · have b4 : (c != 34) = false := by simp [g4]
              have G4 : Hid _ := g4
              clear g4
              go_quiet (fail)
              go_wp2_with fail
              go_meet
              case rel => exact ⟨_, rfl, by unfold NotBelow; simp [G1.out, G4.out], _, rfl⟩
            · have b4 : (c != 34) = true := by simp [g4]
              go_quiet (fail)
              go_wp2_with fail
              go_meet
              case rel => exact ⟨_, rfl, by unfold NotBelow; simp [g2', g3, g4], _, rfl⟩
      · have b1 : ((l'.ind : Int) != iv) = true := by rw [HHI.out]; simp; omega
        go_quiet (fail)
        go_wp2_with fail
        go_meet
        case rel => exact ⟨_, rfl, by unfold NotBelow; simp [g1], _, rfl⟩
    case rest =>
      obtain ⟨bv, rfl, HBV, m, hwc⟩ := hcut
      have hM2 : RMem R (K + 1) l'.at' t.anchors 0 0 nv mv rows names wc := by rw [hwc]; exact HM2.out.still ((But.refl [] W).drewN m)
      have HB2 : Hid (Below R.base w wc) := HMW.out.belowB (by rw [hwc]; exact HBW.out.drewN m)
      clear hwc
      obtain ⟨W2, hW2⟩ : ∃ W2, W2 = wc := ⟨wc, rfl⟩
      subst hW2
      clear e1 e2 l0 HM2 HBW
      cases bv with
      | true =>
        have HM : Hid (belowM R.s R.B blk d t = .bad 3 l'.at') := by unfold Hid belowM; rw [HGB.out, if_neg (HBV.1 rfl)]; rfl
        have d3 : W2.cell? ⟨R.b, 3, none⟩ = some (.int .i64 (l'.at' : Int)) := hM2.rd.cell rfl
        go_wp2_with fail
        refine (rwrong_any hM2 3 l'.at').mono ?_
        rintro e w3 ⟨rfl, h3, hb3⟩
        have d11 : w3.cell? ⟨R.b, 11, none⟩ = some (.int .i64 3) := h3.rd.cell rfl
        go_wp2_with fail
        go_ret
        refine ⟨HB2.out.trans (hM2.belowB hb3), ?_⟩
        rw [HM.out]
        exact ⟨⟨0, rfl⟩, HS.out.bad h3 (by simp)⟩
      | false =>
        have d11 : W2.cell? ⟨R.b, 11, none⟩ = some (.int .i64 0) := hM2.rd.cell rfl
        have HM : Hid (belowM R.s R.B blk d t = (beginM R.B ((d : Int) + 1) (nextM R.s t)).bind fun id t2 => (blk id t2).bind fun _ t3 => .ok id t3) := by
          unfold Hid belowM
          rw [HGB.out, if_pos (Classical.not_not.1 (fun hc => by have := HBV.2 hc; cases this))]
          rfl
        have hG1 : RGood R ov (K + 1) (nextM R.s t) W2 := RAtLine.good hE ⟨nv, mv, rows, names, by rw [(HNX.out).2]; exact hM2, HSN.out, l', HL'.out, (HNX.out).1, (HNX.out).2⟩
        have hbg := rbegin_good hE hG1 lv
        have hwf1 : WF R.s (nextM R.s t) := HSN.out.wf
        have HBG : Hid _ := hbg
        have HMB : Hid (Below R.base w W2) := HB2.out
        clear hbg hG1 hM2
        go_wp2_with fail
        refine Calls.mono HBG.out ?_
        rintro e w3 ⟨rfl, hb3, hp3⟩
        rw [HHL.out] at hp3
        have HB3 : Hid (Below R.base w w3) := HMB.out.trans hb3
        cases hm : beginM R.B ((d : Int) + 1) (nextM R.s t) with
        | bad er pl =>
          rw [hm] at hp3
          have HM2 : Hid (belowM R.s R.B blk d t = .bad er pl) := by unfold Hid; rw [HM.out, hm]; rfl
          obtain ⟨he, nv3, mv3, rows3, names3, hM3, hA3, hlt3, hov3⟩ := hp3
          have HA3 : Hid (RBadAt ov t er t.anchors rows3 names3) := hA3
          have HER : Hid _ := rblock_err hM3 he (by rw [(HNX.out).2]; omega) (nextM R.s t).nodes.length hlt3 iv lv
          have HOV : Hid (ov (nextM R.s t).nodes.length = none) := hov3
          clear hm hA3 hM3 hov3
          go_wp2_with fail
          refine Calls.mono HER.out ?_
          rintro e w4 ⟨rfl, hb4, r', hM4⟩
          go_wp2_with fail
          go_ret
          refine ⟨HB3.out.trans hb4, ?_⟩
          rw [HM2.out]
          exact ⟨⟨_, rfl⟩, HA3.out.set HOV.out hM4⟩
        | ok id t2 =>
          rw [hm] at hp3
          obtain ⟨rfl, hG3, hov3, hbl3⟩ := hp3
          obtain ⟨hlvd, _, ht2, _, _, s2⟩ := beginM_ok hE.n hwf1 hm
          have HM2 : Hid (belowM R.s R.B blk d t = (blk (nextM R.s t).nodes.length t2).bind fun _ t3 => .ok (nextM R.s t).nodes.length t3) := by unfold Hid; rw [HM.out, hm]; rfl
          have hAt : RAtLine R ov (K + 1) t2 w3 := by
            obtain ⟨nv3, mv3, rows3, names3, hM3, hS3, _⟩ := hG3
            exact ⟨nv3, mv3, rows3, names3, hM3, hS3, l', HL'.out, by rw [ht2]; exact (HNX.out).1, by rw [ht2]; exact (HNX.out).2⟩
          have HBK : Hid _ := HB0.out hlvd ov (K + 1) t2 w3 (nextM R.s t).nodes.length iv lv HHI.out HHL.out hAt hov3 hbl3
          have HST2 : Hid _ := s2
          clear hm hG3 hov3 hbl3 ht2 hAt s2
          go_wp2_with fail
          refine Calls.mono HBK.out ?_
          rintro e w4 ⟨rfl, hb4, hp4⟩
          cases hm : blk (nextM R.s t).nodes.length t2 with
          | ok u t3 =>
            simp only [hm] at hp4
            have HM3 : Hid (belowM R.s R.B blk d t = .ok (nextM R.s t).nodes.length t3) := by unfold Hid; rw [HM2.out, hm]; rfl
            clear hm
            go_wp2_with fail
            go_ret
            refine ⟨HB3.out.trans hb4, ?_⟩
            rw [HM3.out]
            exact ⟨rfl, hp4⟩
          | bad er pl =>
            simp only [hm] at hp4
            have HM3 : Hid (belowM R.s R.B blk d t = .bad er pl) := by unfold Hid; rw [HM2.out, hm]; rfl
            clear hm
            go_wp2_with fail
            go_ret
            refine ⟨HB3.out.trans hb4, ?_⟩
            rw [HM3.out]
            exact ⟨⟨_, rfl⟩, hp4.from HST2.out.len HST2.out.nm⟩
  · have d0 : w1.cell? ⟨R.b, 0, none⟩ = some (.string R.s) := h1.rd.cell rfl
    have HM : Hid (belowM R.s R.B blk d t = .bad 3 R.s.size) := by unfold Hid belowM; rw [goBelowM_none hE HL.out hlen (HKE.out l HL.out) d]; rfl
    go_wp2_with fail
    refine (rwrong_any h1 3 R.s.size).mono ?_
    rintro e w3 ⟨rfl, h3, hb3⟩
    go_wp2_with fail
    go_ret
    refine ⟨HMW.out.belowB (hb1.trans hb3 (by simp)), ?_⟩
    rw [HM.out]
    exact ⟨⟨0, rfl⟩, HS.out.bad h3 (by simp)⟩

set_option maxRecDepth 20000 in
set_option maxHeartbeats 4000000 in
theorem rbelow_old {R : REnv} (hE : REnvOk R) {ov : Over} {K : Nat} {t : PS} {w : World} (h : RGood R ov K t w) (hke : ∀ l, R.L[K]? = some l → t.k = l.en) (d : Nat) (blk : Nat → PS → Res Unit) (hb : RBlockSaid R d blk) (iv lv : Int) (hiv : iv = 2 * (d : Int)) (hlv : lv = (d : Int) + 1) (id : Nat) (hov : ov id = none) (hbl : t.nodes[id]? = some NodeV.blank) :
    Calls Tryz.prog 174 #[.pointer (some ⟨R.b, 0, none⟩), .int .i64 iv, .int .i64 lv, .int .i64 (id : Int)] w fun e w' => (∃ i : Nat, e = .returned (.int .i64 (i : Int))) ∧ RPostE R ov t w ((goBelowM R.s d t).bind fun _ t1 => blk id t1) (.returned (.tuple #[])) w' := by
  obtain ⟨nv, mv, rows, names, hM, hS, l, hl, hind, hat, hen⟩ := h
  have hsz := hE.s
  have hKL : R.L.length ≤ 1000 := by
    rw [hE.L]
    exact Nat.le_trans (linesFrom_len R.s 0 (by omega)) (by omega)
  have hK : K < R.L.length := (List.getElem?_eq_some_iff.1 hl).1
  have HS : Hid _ := hS
  have HL : Hid _ := hl
  have HKE : Hid _ := hke
  have HMW : Hid _ := hM
  have hnx := rnext_any hM (by omega)
  have HHL : Hid _ := hlv
  have HHI : Hid _ := hiv
  have HB0 : Hid _ := hb
  clear hS hl hke hind hM hlv hiv hb
  go_enter Tryz.func174, Tryz.ntmps174
  go_wp2_with fail
  refine hnx.mono ?_
  rintro e w1 ⟨hb1, ⟨l', hl', rfl, h1⟩ | ⟨hlen, rfl, h1⟩⟩
  · have hL' := hE.line hl'
    have ha' := hL'.at'
    have he' := hL'.en
    have has : l'.at' < R.s.size := by omega
    have HL' : Hid _ := hl'
    have HNX : Hid _ := (hE.next HL.out t (HKE.out l HL.out)).1 l' hl'
    have HGB : Hid _ := goBelowM_line hE HL.out hl' (HKE.out l HL.out) d
    have HSN : Hid (RSt R.s ov (nextM R.s t) rows names t.anchors) := HS.out.goto rfl rfl rfl (by rw [(HNX.out).2]; omega)
    clear hl'
    have hby := byteAt_lt R.s l'.at' has
    rw [hby] at HGB
    have hcb : 0 ≤ (R.s[l'.at'].toNat : Int) ∧ (R.s[l'.at'].toNat : Int) ≤ 255 := by
      have := R.s[l'.at'].toNat_lt
      omega
    clear hby
    have d0 : w1.cell? ⟨R.b, 0, none⟩ = some (.string R.s) := h1.rd.cell rfl
    have d3 : w1.cell? ⟨R.b, 3, none⟩ = some (.int .i64 (l'.at' : Int)) := h1.rd.cell rfl
    go_upto_region 5 with fail
    go_quiet (fail)
    have h2 := h1.still ((But.refl [] w1).drewN nq)
    have hb2 : But [R.b] w (w1.drewN nq) := hb1.drewN nq
    generalize w1.drewN nq = W at *
    generalize (R.s[l'.at'].toNat : Int) = c at *
    clear d0 d3 h1 hb1
    go_upto_region 7 with (go_at_call 109; refine (letter_any _ _).mono ?_; rintro e w' ⟨rfl, hww⟩; have hww2 := hww.symm; clear hww; subst hww2)
    have hKJ : K + 1 < R.L.length := (List.getElem?_eq_some_iff.1 HL'.out).1
    obtain ⟨lb, lcap, hlve, hlc, l0, _, _⟩ := ownsLine h2.lines (K + 1) hKJ
    have hle : R.L[K + 1] = l' := (List.getElem?_eq_some_iff.1 HL'.out).2
    rw [hle] at l0
    have e1 : W.cell? ⟨R.b, 1, none⟩ = some R.lv := h2.rd.cell rfl
    rw [hlve] at e1
    have e2 : W.cell? ⟨R.b, 2, none⟩ = some (.int .i64 ((K + 1 : Nat) : Int)) := h2.rd.cell rfl
    have HM2 : Hid _ := h2
    have HBW : Hid _ := hb2
    have HLVE : Hid _ := hlve
    obtain ⟨J, HJ⟩ : ∃ J, Hid (J = K + 1) := ⟨K + 1, (rfl : K + 1 = K + 1)⟩
    rw [← HJ.out] at e2 l0 hKJ
    clear h2 hb2 hle hlve
    go_cut [60] from 36 to 59 (fun v wc => ∃ bv : Bool, v = .bool bv ∧ NotBelow bv l'.ind d c ∧ ∃ m, wc = W.drewN m)
    case first =>
      by_cases g1 : l'.ind = 2 * d
      · have b1 : ((l'.ind : Int) != iv) = false := by rw [HHI.out]; simp [g1]
        have G1 : Hid _ := g1
        clear g1
        by_cases g2 : isWB c = true
        · go_quiet (fail)
          go_wp2_with fail
          go_meet
          case rel => exact ⟨_, rfl, by unfold NotBelow; simp [G1.out, g2], _, rfl⟩
        · have g2' : isWB c = false := by simpa using g2
          by_cases g3 : c = 45
          · have b3 : (c != 45) = false := by simp [g3]
            have G3 : Hid _ := g3
            clear g3
            go_quiet (fail)
            go_wp2_with fail
            go_meet
            case rel => exact ⟨_, rfl, by unfold NotBelow; simp [G1.out, G3.out], _, rfl⟩
          · have b3 : (c != 45) = true := by simp [g3]
            by_cases g4 : c = 34
            · have b4 : (c != 34) = false := by simp [g4]
              have G4 : Hid _ := g4
              clear g4
              go_quiet (fail)
              go_wp2_with fail
              go_meet
              case rel => exact ⟨_, rfl, by unfold NotBelow; simp [G1.out, G4.out], _, rfl⟩
            · have b4 : (c != 34) = true := by simp [g4]
              go_quiet (fail)
              go_wp2_with fail
              go_meet
              case rel => exact ⟨_, rfl, by unfold NotBelow; simp [g2', g3, g4], _, rfl⟩
      · have b1 : ((l'.ind : Int) != iv) = true := by rw [HHI.out]; simp; omega
        go_quiet (fail)
        go_wp2_with fail
        go_meet
        case rel => exact ⟨_, rfl, by unfold NotBelow; simp [g1], _, rfl⟩
    case rest =>
      obtain ⟨bv, rfl, HBV, m, hwc⟩ := hcut
      have hM2 : RMem R (K + 1) l'.at' t.anchors 0 0 nv mv rows names wc := by rw [hwc]; exact HM2.out.still ((But.refl [] W).drewN m)
      have HB2 : Hid (Below R.base w wc) := HMW.out.belowB (by rw [hwc]; exact HBW.out.drewN m)
      clear hwc
      obtain ⟨W2, hW2⟩ : ∃ W2, W2 = wc := ⟨wc, rfl⟩
      subst hW2
      clear e1 e2 l0 HM2 HBW
      cases bv with
      | true =>
        have HM : Hid (((goBelowM R.s d t).bind fun _ t1 => blk id t1) = .bad 3 l'.at') := by unfold Hid; rw [HGB.out, if_neg (HBV.1 rfl)]; rfl
        have d3 : W2.cell? ⟨R.b, 3, none⟩ = some (.int .i64 (l'.at' : Int)) := hM2.rd.cell rfl
        go_wp2_with fail
        refine (rwrong_any hM2 3 l'.at').mono ?_
        rintro e w3 ⟨rfl, h3, hb3⟩
        have d11 : w3.cell? ⟨R.b, 11, none⟩ = some (.int .i64 3) := h3.rd.cell rfl
        go_wp2_with fail
        go_ret
        refine ⟨⟨0, rfl⟩, rfl, HB2.out.trans (hM2.belowB hb3), ?_⟩
        rw [HM.out]
        exact HS.out.bad h3 (by simp)
      | false =>
        have d11 : W2.cell? ⟨R.b, 11, none⟩ = some (.int .i64 0) := hM2.rd.cell rfl
        have HM : Hid (((goBelowM R.s d t).bind fun _ t1 => blk id t1) = blk id (nextM R.s t)) := by
          unfold Hid
          rw [HGB.out, if_pos (Classical.not_not.1 (fun hc => by have := HBV.2 hc; cases this))]
          rfl
        have HBK : Hid _ := HB0.out ov (K + 1) (nextM R.s t) W2 id iv lv HHI.out HHL.out ⟨nv, mv, rows, names, by rw [(HNX.out).2]; exact hM2, HSN.out, l', HL'.out, (HNX.out).1, (HNX.out).2⟩ hov hbl
        clear hM2
        go_wp2_with fail
        refine Calls.mono HBK.out ?_
        rintro e w4 ⟨rfl, hb4, hp4⟩
        go_wp2_with fail
        go_ret
        refine ⟨⟨id, rfl⟩, rfl, HB2.out.trans hb4, ?_⟩
        rw [HM.out]
        cases hm : blk id (nextM R.s t) with
        | ok u t3 =>
          simp only [hm] at hp4
          exact hp4
        | bad er pl =>
          simp only [hm] at hp4
          exact hp4
  · have d0 : w1.cell? ⟨R.b, 0, none⟩ = some (.string R.s) := h1.rd.cell rfl
    have HM : Hid (((goBelowM R.s d t).bind fun _ t1 => blk id t1) = .bad 3 R.s.size) := by unfold Hid; rw [goBelowM_none hE HL.out hlen (HKE.out l HL.out) d]; rfl
    go_wp2_with fail
    refine (rwrong_any h1 3 R.s.size).mono ?_
    rintro e w3 ⟨rfl, h3, hb3⟩
    go_wp2_with fail
    go_ret
    refine ⟨⟨0, rfl⟩, rfl, HMW.out.belowB (hb1.trans hb3 (by simp)), ?_⟩
    rw [HM.out]
    exact HS.out.bad h3 (by simp)

end Go.Proofs.YtkflkmmbakccoaaGreatDoor
