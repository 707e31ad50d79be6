/- PARTS: R16, R17, R18. -/
import Derived.Test.YtkflkmmbakccoaaGreatDoorI23

/- WALKS: package grafterref: value. -/
namespace Go.Proofs.YtkflkmmbakccoaaGreatDoor
open Go.RowKit Go.Maps

set_option maxRecDepth 20000 in
set_option maxHeartbeats 1000000 in
/-- With an error told, blanks are passed and no more. -/
theorem rvalue_err {R : REnv} {K k an er pl : Nat} {nv mv : Value} {rows : List RRow} {names : List (ByteArray × Nat)} {w : World} (h : RMem R K k an er pl nv mv rows names w) (he : er ≠ 0) (hs : R.s.size ≤ 1000) {l : LineV} (hl : R.L[K]? = some l) (hL : LineOk R.s l) (hk : k ≤ l.en) (id : Nat) (lv : Int) :
    Calls Tryz.prog 138 #[.pointer (some ⟨R.b, 0, none⟩), .int .i64 (id : Int), .int .i64 lv] w fun e w' => e = .returned (.tuple #[]) ∧ But [R.b] w w' ∧ RMem R K (skipBl R.s k) an er pl nv mv rows names w' := by
  have hes := hL.en
  have hnow := rnow_any h hs hl hL hk
  have hbd := nowB_bd R.s k l.en hes
  generalize nowB R.s k l.en = c at *
  generalize skipBl R.s k = q at *
  have hst := starts_any c hbd.1 hbd.2
  have HST : Hid _ := hst
  clear hst
  cases hv : startsB c with
  | true =>
    go_enter Tryz.func138, Tryz.ntmps138
    go_wp2_with fail
    refine hnow.mono ?_
    rintro e w1 ⟨rfl, h1, hb1⟩
    have d11 : w1.cell? ⟨R.b, 11, none⟩ = some (.int .i64 (er : Int)) := h1.rd.cell rfl
    go_wp2_with fail
    refine (HST.out w1).mono ?_
    rintro e w2 ⟨rfl, hw2⟩
    subst hw2
    go_wp2_with fail
    first | (refine bodyPost_ret (results_none rfl _ _ _) rfl ?_) | go_end0
    exact ⟨rfl, hb1, h1⟩
  | false =>
    go_enter Tryz.func138, Tryz.ntmps138
    go_wp2_with fail
    refine hnow.mono ?_
    rintro e w1 ⟨rfl, h1, hb1⟩
    have d3 : w1.cell? ⟨R.b, 3, none⟩ = some (.int .i64 (q : Int)) := h1.rd.cell rfl
    go_wp2_with fail
    refine (HST.out w1).mono ?_
    rintro e w2 ⟨rfl, hw2⟩
    subst hw2
    go_wp2_with fail
    refine (rwrong_any h1 3 q).mono ?_
    rintro e w3 ⟨rfl, h3, hb3⟩
    have hwr : wrE er pl 3 q = (er, pl) := by unfold wrE; rw [if_neg he]
    rw [hwr] at h3
    have d11 : w3.cell? ⟨R.b, 11, none⟩ = some (.int .i64 (er : Int)) := h3.rd.cell rfl
    go_wp2_with fail
    first | (refine bodyPost_ret (results_none rfl _ _ _) rfl ?_) | go_end0
    exact ⟨rfl, hb1.trans hb3 (by simp), h3⟩

/-- What the reading of a node that has begun leaves. -/
def RPostV (R : REnv) (ov : Over) (K : Nat) (t : PS) (w : World) (r : Res Unit) (e : Ending) (w' : World) : Prop :=
  e = .returned (.tuple #[]) ∧ Below R.base w w' ∧ match r with
  | .ok _ t' => RGood R ov K t' w'
  | .bad er pl => RBad R ov t er pl w'

/-- A node begins to be filled: it is opened. -/
theorem RSt.open {s : ByteArray} {ov : Over} {t : PS} {rows : List RRow} {names : List (ByteArray × Nat)} {an i : Nat} {p : Nat × NodeV} {r' : RRow} (h : RSt s ov t rows names an) (hi : i < rows.length) (hz : highOf t.nodes i = 0) (h1 : r'.kb = p.1) (h2 : r'.n = p.2) : RSt s (ov.put i p) t (rows.set i r') names an := by
  refine ⟨by simpa using h.len, fun j hj ho => ?_, fun j q hq => ?_, h.names, h.an, h.wf⟩
  · have hne : j ≠ i := fun e => by rw [e, Over.put_self] at ho; cases ho
    rw [Over.put_ne ov p hne] at ho
    have := h.shut j (by simpa using hj) ho
    rw [List.getElem_set, if_neg (fun e => hne e.symm)]
    exact this
  · by_cases hne : j = i
    · subst hne
      rw [Over.put_self] at hq
      cases hq
      exact ⟨hz, r', by simp [hi], h1, h2⟩
    · rw [Over.put_ne ov p hne] at hq
      obtain ⟨a, r, hr, b, c⟩ := h.opened j q hq
      exact ⟨a, r, by rw [List.getElem?_set, if_neg (fun e => hne e.symm)]; exact hr, b, c⟩

theorem highOf_get {nodes : List NodeV} {i : Nat} {n : NodeV} (h : nodes[i]? = some n) : highOf nodes i = n.high := by
  simp [highOf, List.getD, h]

/-- A node is at its end: it is shut. -/
theorem RSt.close {s : ByteArray} {ov : Over} {t : PS} {rows : List RRow} {names : List (ByteArray × Nat)} {an i kb : Nat} {n : NodeV} {r' : RRow} (h : RSt s (ov.put i (kb, n)) t rows names an) (hov : ov i = none) (h1 : r'.kb = kbyte n.kind) (h2 : r'.n = measured t.nodes n) (hwf : WF s (endM i n t)) : RSt s ov (endM i n t) (rows.set i r') names an := by
  obtain ⟨hz, r0, hr0, _, _⟩ := h.opened i _ (ov.put_self i _)
  have hi : i < rows.length := (List.getElem?_eq_some_iff.1 hr0).1
  have hit : i < t.nodes.length := by rw [← h.len]; exact hi
  refine ⟨by simp [endM, h.len], fun j hj ho => ?_, fun j q hq => ?_, h.names, h.an, hwf⟩
  · by_cases hne : j = i
    · subst hne
      rw [List.getElem_set, if_pos rfl]
      exact ⟨by simp [endM, hit, h2], fun _ => by rw [h1, h2]; rfl⟩
    · have := h.shut j (by simpa using hj) (by rw [Over.put_ne ov _ hne]; exact ho)
      rw [List.getElem_set, if_neg (fun e => hne e.symm)]
      refine ⟨?_, this.2⟩
      simp only [endM]
      rw [List.getElem?_set, if_neg (fun e => hne e.symm)]
      exact this.1
  · have hne : j ≠ i := fun e => by rw [e, hov] at hq; cases hq
    obtain ⟨a, r, hr, b, c⟩ := h.opened j q (by rw [Over.put_ne ov _ hne]; exact hq)
    refine ⟨?_, r, by rw [List.getElem?_set, if_neg (fun e => hne e.symm)]; exact hr, b, c⟩
    simp only [endM]
    rw [highOf_set _ _ _ _ hit, if_neg hne]
    exact a

/-- What 'done' reckons over the Reader's list is what is reckoned over the plain one. -/
theorem RSt.measured {s : ByteArray} {ov : Over} {t : PS} {rows : List RRow} {names : List (ByteArray × Nat)} {an : Nat} (h : RSt s ov t rows names an) (n : NodeV) (hp : ∀ x ∈ n.parts, highOf t.nodes x ≠ 0) : measured (nsOf rows).nodes n = measured t.nodes n := by
  have e1 : ∀ (l : List Nat), (∀ x ∈ l, highOf t.nodes x ≠ 0) → ∀ a, l.foldl (fun a i => max a (highOf (nsOf rows).nodes i)) a = l.foldl (fun a i => max a (highOf t.nodes i)) a := by
    intro l
    induction l with
    | nil => intro _ a; rfl
    | cons x l ih =>
      intro hx a
      obtain ⟨hi, hh, _⟩ := h.highAt (hx x (by simp))
      simp only [List.foldl_cons]
      rw [nsOf_high rows x hi, hh]
      exact ih (fun y hy => hx y (by simp [hy])) _
  have e2 : ∀ (l : List Nat), (∀ x ∈ l, highOf t.nodes x ≠ 0) → ∀ a, l.foldl (fun a i => min (a + heavyOf (nsOf rows).nodes i) 1000000000001) a = l.foldl (fun a i => min (a + heavyOf t.nodes i) 1000000000001) a := by
    intro l
    induction l with
    | nil => intro _ a; rfl
    | cons x l ih =>
      intro hx a
      obtain ⟨hi, _, hh⟩ := h.highAt (hx x (by simp))
      simp only [List.foldl_cons]
      rw [nsOf_heavy rows x hi, hh]
      exact ih (fun y hy => hx y (by simp [hy])) _
  unfold Go.Proofs.YtkflkmmbakccoaaGreatDoor.measured
  rw [e1 n.parts hp, e2 n.parts hp]

/-- A node is at its end. -/
theorem rdone_st {R : REnv} {ov : Over} {K k id kb : Nat} {n : NodeV} {t : PS} {nv mv : Value} {rows : List RRow} {names : List (ByteArray × Nat)} {w : World} (hM : RMem R K k t.anchors 0 0 nv mv rows names w) (hS : RSt R.s (ov.put id (kb, n)) t rows names t.anchors) (hov : ov id = none) (hkb : kb = kbyte n.kind)
    (hp : ∀ x ∈ n.parts, highOf t.nodes x ≠ 0) (hl : n.parts.length ≤ 1000) (hwf : WF R.s (endM id n t)) :
    Calls Tryz.prog 134 #[.pointer (some ⟨R.b, 0, none⟩), .int .i64 (id : Int)] w fun e w' => e = .returned (.tuple #[]) ∧ Below R.base w w' ∧ ∃ rows', RMem R K k t.anchors 0 0 nv mv rows' names w' ∧ RSt R.s ov (endM id n t) rows' names t.anchors := by
  obtain ⟨hi, h1, h2⟩ := hS.rowAt
  simp only at h1 h2
  refine (rdone_any hM id hi (fun x hx => ?_) (by rw [h2]; exact hl) (fun x hx => ?_) (fun x hx => ?_)).mono ?_
  · rw [h2] at hx
    exact (hS.highAt (hp x hx)).1
  · rw [h2] at hx
    obtain ⟨hxi, hh, _⟩ := hS.highAt (hp x hx)
    rw [nsOf_high rows x hxi, hh]
    exact hS.wf.high x
  · rw [h2] at hx
    obtain ⟨hxi, _, hh⟩ := hS.highAt (hp x hx)
    rw [nsOf_heavy rows x hxi, hh]
    exact hS.wf.heavy x
  · rintro e w' ⟨rfl, hb, hM'⟩
    refine ⟨rfl, hM.below (hb.mono (fun x hx => .inl (List.mem_cons_of_mem _ hx))), _, hM', ?_⟩
    refine hS.close hov (by simp only; rw [h1, hkb]) ?_ hwf
    simp only
    rw [h2]
    exact hS.measured n hp

end Go.Proofs.YtkflkmmbakccoaaGreatDoor

/- WALKS: package grafterref: value. -/
namespace Go.Proofs.YtkflkmmbakccoaaGreatDoor
open Go.RowKit Go.Maps

theorem RBad.at {R : REnv} {ov : Over} {t : PS} {er pl k : Nat} {w : World} (h : RBad R ov { t with k := k } er pl w) : RBad R ov t er pl w := h

set_option maxRecDepth 20000 in
set_option maxHeartbeats 4000000 in
theorem rvalue_any {R : REnv} (hE : REnvOk R) {ov : Over} {K : Nat} {t : PS} {w : World} (h : RGood R ov K t w) (id : Nat) (hov : ov id = none) (hbl : t.nodes[id]? = some NodeV.blank) (lv : Int) (h0 : 0 ≤ lv) (hlv : lv ≤ R.B.depth)
    (fl : Int → PS → Res Nat) (hfs : RFlowSaid R (lv + 1) (fl (lv + 1))) (hfo : FlowOk R.s R.B (lv + 1) (fl (lv + 1))) :
    Calls Tryz.prog 138 #[.pointer (some ⟨R.b, 0, none⟩), .int .i64 (id : Int), .int .i64 lv] w fun e w' => RPostV R ov K t w (valueS R.s fl id lv t) e w' := by
  obtain ⟨nv, mv, rows, names, hM, hS, l, hl, hind, hat, hen⟩ := h
  have hL := hE.line hl
  have hq := skipBl_en R.s t.k l.en hen hL.en hL.nl
  have hq0 := skipBl_ge R.s t.k
  have hsz := hE.s
  have hes := hL.en
  have hD := hE.d
  have hit : id < t.nodes.length := (List.getElem?_eq_some_iff.1 hbl).1
  have hi : id < rows.length := by rw [hS.len]; exact hit
  have hz : highOf t.nodes id = 0 := by rw [highOf_get hbl]; rfl
  have hrn : (rows[id]).n = NodeV.blank := by
    have := (hS.shut id hi hov).1
    rw [hbl] at this
    exact (Option.some.inj this).symm
  have hnow := rnow_any hM hE.s hl hL hen
  have hbd := nowB_bd R.s t.k l.en hes
  have hst := starts_any (nowB R.s t.k l.en) hbd.1 hbd.2
  have hstb := nowB_starts hL hen
  have n9 := nowB_kind (κ := 9) hL hen (by decide) (by decide) (by decide)
  have n11 := nowB_kind (κ := 11) hL hen (by decide) (by decide) (by decide)
  rw [(kindB_tab _).2.2.2.2.2.2.1] at n9
  rw [(kindB_tab _).2.2.2.2.2.2.2.2.1] at n11
  have hlt := nowB_lt R.s t.k l.en
  obtain ⟨nb, cap, rfl, hcap, hcn⟩ := hM.node id hi
  have HST : Hid _ := hst
  have HS : Hid _ := hS
  have HL : Hid _ := hl
  have HI : Hid _ := hind
  have HFS : Hid _ := hfs
  have HFO : Hid _ := hfo
  have HMW : Hid _ := hM
  have HRN : Hid _ := hrn
  have HLT : Hid _ := hlt
  clear hst hS hl hind hfs hfo hcn hrn hlt
  by_cases hk23 : kindAt R.s (skipBl R.s t.k) = 2 ∨ kindAt R.s (skipBl R.s t.k) = 3
  · have HM : Hid (valueS R.s fl id lv t = if (rdAny R.s (skipBl R.s t.k)).2.1 = true then .ok () (endM id { NodeV.blank with text := (rdAny R.s (skipBl R.s t.k)).1 } { t with k := (rdAny R.s (skipBl R.s t.k)).2.2 }) else .bad 3 (rdAny R.s (skipBl R.s t.k)).2.2) := by
      unfold Hid valueS
      simp only
      rw [if_pos hk23]
      unfold readM
      simp only [skipBl_idem]
      split <;> rfl
    have hv : startsB (nowB R.s t.k l.en) = true := hstb.2 (by omega)
    have h91 : nowB R.s t.k l.en ≠ 91 := fun e => by have := n9.2 e; omega
    have h123 : nowB R.s t.k l.en ≠ 123 := fun e => by have := n11.2 e; omega
    have hr := rdAny_en (q := skipBl R.s t.k) hL hq
    have hsc := fun (W : World) (rows' : List RRow) (hW : RMem R K (skipBl R.s t.k) t.anchors 0 0 (.slice (some ⟨nb, 0, none⟩) rows.length cap) mv rows' names W) => rscalarM_any hW hE.s HL.out hL (by omega) hq
    simp only [skipBl_idem] at hsc
    have HSC : Hid _ := hsc
    clear hsc hstb n9 n11 hk23 HLT
    generalize nowB R.s t.k l.en = c at *
    generalize rdAny R.s (skipBl R.s t.k) = rr at *
    generalize skipBl R.s t.k = q at *
    go_enter Tryz.func138, Tryz.ntmps138
    go_wp2_with fail
    refine hnow.mono ?_
    rintro e w1 ⟨rfl, h1, hb1⟩
    go_wp2_with fail
    refine (HST.out w1).mono ?_
    rintro e w2 ⟨rfl, hw2⟩
    have hw3 := hw2.symm
    clear hw2
    subst hw3
    have d11 : w1.cell? ⟨R.b, 11, none⟩ = some (.int .i64 0) := h1.rd.cell rfl
    have d8 : w1.cell? ⟨R.b, 8, none⟩ = some (.slice (some ⟨nb, 0, none⟩) rows.length cap) := h1.rd.cell rfl
    obtain ⟨nb', cap', e, _, hcn⟩ := h1.node id hi
    obtain ⟨rfl, rfl⟩ : nb = nb' ∧ cap = cap' := by simpa using e
    have i0 := (hcn 0 (by omega)).1
    have f0 := (hcn 0 (by omega)).2
    simp only [RRow.cells, List.getElem?_cons_zero, Nat.add_zero] at i0 f0
    clear hcn e
    have hM2 := h1.setNode (i := id) (j := 0) (r := ⟨116, (rows[id]).n, (rows[id]).kv, (rows[id]).pv⟩) (v := .int .u8 116) hi (by omega) rfl (fun p hp hne => by
      match p, hp with
      | 0, _ => exact absurd rfl hne
      | 1, _ => rfl
      | 2, _ => rfl
      | 3, _ => rfl
      | 4, _ => rfl
      | 5, _ => rfl) rfl rfl rfl rfl
    rw [Nat.add_zero] at hM2
    have hb2 : But [nb] w1 _ := (But.refl [nb] w1).setCell (p := ⟨nb, id * 6, none⟩) (by simp) (.int .u8 116)
    have HS2 : Hid (RSt R.s (ov.put id (116, NodeV.blank)) t (rows.set id ⟨116, (rows[id]).n, (rows[id]).kv, (rows[id]).pv⟩) names t.anchors) := HS.out.open hi hz rfl HRN.out
    have HB2 : Hid (Below R.base w _) := (HMW.out.belowB hb1).trans (h1.belowN (S := []) (by simp) hb2)
    clear hb2
    go_wp2_with fail
    refine (HSC.out _ _ hM2).mono ?_
    rintro e w3 ⟨x, rfl, hb3, hp⟩
    obtain ⟨er0, pl0, h3, HX, HE0, HE1⟩ : ∃ er0 pl0, RMem R K rr.2.2 t.anchors er0 pl0 (.slice (some ⟨nb, 0, none⟩) rows.length cap) mv (rows.set id ⟨116, (rows[id]).n, (rows[id]).kv, (rows[id]).pv⟩) names w3 ∧ Hid (rr.2.1 = true → x = rr.1) ∧ Hid (rr.2.1 = true → er0 = 0 ∧ pl0 = 0) ∧ Hid (¬ rr.2.1 = true → er0 = 3 ∧ pl0 = rr.2.2) := by
      unfold RWord at hp
      by_cases hok : rr.2.1 = true
      · rw [if_pos hok] at hp
        exact ⟨0, 0, hp.2, fun _ => hp.1, fun _ => ⟨rfl, rfl⟩, fun hc => absurd hok hc⟩
      · rw [if_neg hok] at hp
        exact ⟨3, rr.2.2, hp, fun hc => absurd hc hok, fun hc => absurd hc hok, fun _ => ⟨rfl, rfl⟩⟩
    have HB3 : Hid (Below R.base w w3) := HB2.out.trans (hM2.belowB hb3)
    clear hp hb3 hM2 HB2 h1 hb1 d11 d8 i0 f0 HSC
    obtain ⟨rows1, HR1⟩ : ∃ rows1, Hid (rows1 = rows.set id ⟨116, (rows[id]).n, (rows[id]).kv, (rows[id]).pv⟩) := ⟨_, (rfl : rows.set id ⟨116, (rows[id]).n, (rows[id]).kv, (rows[id]).pv⟩ = rows.set id ⟨116, (rows[id]).n, (rows[id]).kv, (rows[id]).pv⟩)⟩
    rw [← HR1.out] at h3 HS2
    have hlen : rows.length = rows1.length := by rw [HR1.out]; simp
    rw [hlen] at h3
    have hi1 : id < rows1.length := by omega
    obtain ⟨hi2, hk2, hn2⟩ := HS2.out.rowAt
    simp only at hk2 hn2
    have HK2 : Hid _ := hk2
    have HN2 : Hid _ := hn2
    clear hk2 hn2
    have d8 : w3.cell? ⟨R.b, 8, none⟩ = some (.slice (some ⟨nb, 0, none⟩) rows1.length cap) := h3.rd.cell rfl
    obtain ⟨nb', cap', e, _, hcn⟩ := h3.node id hi1
    obtain ⟨rfl, rfl⟩ : nb = nb' ∧ cap = cap' := by simpa using e
    have i1 := (hcn 1 (by omega)).1
    have f1 := (hcn 1 (by omega)).2
    simp only [RRow.cells, List.getElem?_cons_succ, List.getElem?_cons_zero] at i1
    clear hcn e
    have hM4 := h3.setNode (i := id) (j := 1) (r := ⟨(rows1[id]).kb, { (rows1[id]).n with text := x }, (rows1[id]).kv, (rows1[id]).pv⟩) (v := .string x) hi1 (by omega) rfl (fun p hp hne => by
      match p, hp with
      | 0, _ => rfl
      | 1, _ => exact absurd rfl hne
      | 2, _ => rfl
      | 3, _ => rfl
      | 4, _ => rfl
      | 5, _ => rfl) rfl rfl rfl rfl
    have HS4 : Hid (RSt R.s (ov.put id (116, { NodeV.blank with text := x })) t (rows1.set id ⟨(rows1[id]).kb, { (rows1[id]).n with text := x }, (rows1[id]).kv, (rows1[id]).pv⟩) names t.anchors) := HS2.out.reopen HK2.out (by simp only; rw [HN2.out])
    have HB4 : Hid (Below R.base w _) := HB3.out.trans (h3.belowN (S := []) (by simp) ((But.refl [nb] w3).setCell (p := ⟨nb, id * 6 + 1, none⟩) (by simp) (.string x)))
    by_cases hok : rr.2.1 = true
    · obtain ⟨rfl, rfl⟩ := HE0.out hok
      obtain rfl := HX.out hok
      have d11 : (w3.setCell ⟨nb, id * 6 + 1, none⟩ (.string rr.1)).cell? ⟨R.b, 11, none⟩ = some (.int .i64 0) := hM4.rd.cell rfl
      have HM2 : Hid (valueS R.s fl id lv t = .ok () (endM id { NodeV.blank with text := rr.1 } { t with k := rr.2.2 })) := by unfold Hid; rw [HM.out, if_pos hok]
      have hS5 : RSt R.s (ov.put id (116, { NodeV.blank with text := rr.1 })) { t with k := rr.2.2 } _ names t.anchors := HS4.out.move (by omega)
      have hdn := rdone_st (t := { t with k := rr.2.2 }) hM4 hS5 hov rfl (fun y hy => by cases hy) (by simp [NodeV.blank]) (endM_step (B := R.B) (lv := lv) (n := { NodeV.blank with text := rr.1 }) hS5.wf hit h0 hD hlv (fun y hy => by cases hy)).1.wf
      have HDN : Hid _ := hdn
      clear hdn hS5 hM4
      go_wp2_with fail
      refine Calls.mono HDN.out ?_
      rintro e w5 ⟨rfl, hb5, rows5, hM5, hS5⟩
      go_wp2_with fail
      first | (refine bodyPost_ret (results_none rfl _ _ _) rfl ?_) | go_end0
      refine ⟨rfl, HB4.out.trans hb5, ?_⟩
      rw [HM2.out]
      exact ⟨_, mv, rows5, names, hM5, hS5, l, HL.out, HI.out, by simp only [endM]; omega, by simp only [endM]; omega⟩
    · obtain ⟨rfl, rfl⟩ := HE1.out hok
      have d11 : (w3.setCell ⟨nb, id * 6 + 1, none⟩ (.string x)).cell? ⟨R.b, 11, none⟩ = some (.int .i64 3) := hM4.rd.cell rfl
      have HM2 : Hid (valueS R.s fl id lv t = .bad 3 rr.2.2) := by unfold Hid; rw [HM.out, if_neg hok]
      have HBD : Hid _ := (HS4.out.bad hM4 (by decide)).drop hov
      clear hM4
      go_wp2_with fail
      first | (refine bodyPost_ret (results_none rfl _ _ _) rfl ?_) | go_end0
      refine ⟨rfl, HB4.out, ?_⟩
      rw [HM2.out]
      exact HBD.out
  · by_cases hk9 : kindAt R.s (skipBl R.s t.k) = 9
    · have HM : Hid (valueS R.s fl id lv t = (insideM R.s (fl (lv + 1)) false { t with k := skipBl R.s t.k + 1 }).bind fun p t1 => .ok () (endM id { NodeV.blank with kind := 1, keys := p.1, parts := p.2 } t1)) := by
        unfold Hid valueS
        simp only
        rw [if_neg hk23, if_pos hk9]
        rfl
      have hce : nowB R.s t.k l.en = 91 := n9.1 hk9
      have hqlt := HLT.out (by rw [hce]; decide)
      have hv : startsB 91 = true := by decide
      have hwfq : WF R.s { t with k := skipBl R.s t.k } := HS.out.wf.move (by omega)
      rw [hce] at hnow HST
      clear hce hstb n9 n11 HLT hbd
      generalize skipBl R.s t.k = q at *
      go_enter Tryz.func138, Tryz.ntmps138
      go_wp2_with fail
      refine hnow.mono ?_
      rintro e w1 ⟨rfl, h1, hb1⟩
      go_wp2_with fail
      refine (HST.out w1).mono ?_
      rintro e w2 ⟨rfl, hw2⟩
      have hw3 := hw2.symm
      clear hw2
      subst hw3
      have d11 : w1.cell? ⟨R.b, 11, none⟩ = some (.int .i64 0) := h1.rd.cell rfl
      have d8 : w1.cell? ⟨R.b, 8, none⟩ = some (.slice (some ⟨nb, 0, none⟩) rows.length cap) := h1.rd.cell rfl
      obtain ⟨nb', cap', e, _, hcn⟩ := h1.node id hi
      obtain ⟨rfl, rfl⟩ : nb = nb' ∧ cap = cap' := by simpa using e
      have i0 := (hcn 0 (by omega)).1
      have f0 := (hcn 0 (by omega)).2
      simp only [RRow.cells, List.getElem?_cons_zero, Nat.add_zero] at i0 f0
      clear hcn e
      have hM2 := h1.setNode (i := id) (j := 0) (r := ⟨108, { (rows[id]).n with kind := 1 }, (rows[id]).kv, (rows[id]).pv⟩) (v := .int .u8 108) hi (by omega) rfl (fun p hp hne => by
        match p, hp with
        | 0, _ => exact absurd rfl hne
        | 1, _ => rfl
        | 2, _ => rfl
        | 3, _ => rfl
        | 4, _ => rfl
        | 5, _ => rfl) rfl rfl rfl rfl
      rw [Nat.add_zero] at hM2
      have HB2 : Hid (Below R.base w _) := (HMW.out.belowB hb1).trans (h1.belowN (S := []) (by simp) ((But.refl [nb] w1).setCell (p := ⟨nb, id * 6, none⟩) (by simp) (.int .u8 108)))
      go_upto_region 12 with fail
      refine name_world fun W hW => ?_
      rw [← hW.out] at hM2 HB2
      clear hW d11 d8 i0 f0 h1 hb1
      have HS2 : Hid (RSt R.s (ov.put id (108, { NodeV.blank with kind := 1 })) t (rows.set id ⟨108, { (rows[id]).n with kind := 1 }, (rows[id]).kv, (rows[id]).pv⟩) names t.anchors) := HS.out.open hi hz rfl (by simp only; rw [HRN.out])
      have d3 : W.cell? ⟨R.b, 3, none⟩ = some (.int .i64 (q : Int)) := hM2.rd.cell rfl
      have f3 := hM2.rd.free 3
      have hM3 := hM2.step
      have HB3 : Hid (Below R.base w _) := HB2.out.trans (hM2.belowB ((But.refl [R.b] W).setCell (p := ⟨R.b, 3, none⟩) (by simp) (.int .i64 ((q : Int) + 1))))
      clear hM2 HB2
      have HIN : Hid _ := rinside_any hE (ov := ov) (K := K) (i := id) (kb := 108) (n := { NodeV.blank with kind := 1 }) (t := { t with k := q + 1 }) ⟨_, mv, _, names, hM3, HS2.out.move (by omega), l, HL.out, HI.out, by simp only; omega, by simp only; omega⟩ hov false rfl rfl rfl lv h0 (by omega) (fl (lv + 1)) HFS.out HFO.out
      clear hM3
      go_wp2_with fail
      refine Calls.mono HIN.out ?_
      rintro e w5 ⟨rfl, hb5, hp5⟩
      cases hm : insideM R.s (fl (lv + 1)) false { t with k := q + 1 } with
      | bad er pl =>
        simp only [hm] at hp5
        have HM2 : Hid (valueS R.s fl id lv t = .bad er pl) := by unfold Hid; rw [HM.out, hm]; rfl
        have HBD : Hid (RBad R ov t er pl w5) := hp5
        obtain ⟨he, _, _, _, _, _, _, _, hMx, _⟩ := hp5
        have d11 : w5.cell? ⟨R.b, 11, none⟩ = some (.int .i64 (er : Int)) := hMx.rd.cell rfl
        clear hm hMx
        go_wp2_with fail
        first | (refine bodyPost_ret (results_none rfl _ _ _) rfl ?_) | go_end0
        refine ⟨rfl, HB3.out.trans hb5, ?_⟩
        rw [HM2.out]
        exact HBD.out
      | ok p t1 =>
        simp only [hm] at hp5
        have HM2 : Hid (valueS R.s fl id lv t = .ok () (endM id { NodeV.blank with kind := 1, keys := p.1, parts := p.2 } t1)) := by unfold Hid; rw [HM.out, hm]; rfl
        have hbk : bracketsM R.s (fl (lv + 1)) false (lastK false) { t with k := q } = .ok p t1 := hm
        obtain ⟨s1, hph⟩ := bracketsM_ok (B := R.B) (lv := lv) (by decide) h0 HFO.out hwfq (by simp only; omega) hbk
        have hpl := (bracketsM_len (B := R.B) (lv := lv) (by decide) h0 HFO.out hwfq (by simp only; omega) hbk).2
        obtain ⟨nv5, mv5, rows5, names5, hM5, hS5, l5, hl5, hi5, ha5, he5⟩ := hp5
        have hk5 := hS5.wf.k
        have hlen5 := s1.len
        have d11 : w5.cell? ⟨R.b, 11, none⟩ = some (.int .i64 0) := hM5.rd.cell rfl
        have HDN : Hid _ := rdone_st (t := t1) (n := { NodeV.blank with kind := 1, keys := p.1, parts := p.2 }) hM5 hS5 hov rfl (fun y hy => (hph y hy).1) (by simp only; omega) (endM_step (B := R.B) (lv := lv) (n := { NodeV.blank with kind := 1, keys := p.1, parts := p.2 }) hS5.wf (by simp only at hlen5; omega) h0 hD hlv (fun y hy => (hph y hy).2)).1.wf
        clear hm hbk hph hM5 hS5 s1
        go_wp2_with fail
        refine Calls.mono HDN.out ?_
        rintro e w6 ⟨rfl, hb6, rows6, hM6, hS6⟩
        go_wp2_with fail
        first | (refine bodyPost_ret (results_none rfl _ _ _) rfl ?_) | go_end0
        refine ⟨rfl, (HB3.out.trans hb5).trans hb6, ?_⟩
        rw [HM2.out]
        exact ⟨_, mv5, rows6, names5, hM6, hS6, l5, hl5, hi5, ha5, he5⟩
    · by_cases hk11 : kindAt R.s (skipBl R.s t.k) = 11
      · have HM : Hid (valueS R.s fl id lv t = (insideM R.s (fl (lv + 1)) true { t with k := skipBl R.s t.k + 1 }).bind fun p t1 => .ok () (endM id { NodeV.blank with kind := 2, keys := p.1, parts := p.2 } t1)) := by
          unfold Hid valueS
          simp only
          rw [if_neg hk23, if_neg hk9, if_pos hk11]
          rfl
        have hce : nowB R.s t.k l.en = 123 := n11.1 hk11
        have hqlt := HLT.out (by rw [hce]; decide)
        have hv : startsB 123 = true := by decide
        have hwfq : WF R.s { t with k := skipBl R.s t.k } := HS.out.wf.move (by omega)
        rw [hce] at hnow HST
        clear hce hstb n9 n11 HLT hbd
        generalize skipBl R.s t.k = q at *
        go_enter Tryz.func138, Tryz.ntmps138
        go_wp2_with fail
        refine hnow.mono ?_
        rintro e w1 ⟨rfl, h1, hb1⟩
        go_wp2_with fail
        refine (HST.out w1).mono ?_
        rintro e w2 ⟨rfl, hw2⟩
        have hw3 := hw2.symm
        clear hw2
        subst hw3
        have d11 : w1.cell? ⟨R.b, 11, none⟩ = some (.int .i64 0) := h1.rd.cell rfl
        have d8 : w1.cell? ⟨R.b, 8, none⟩ = some (.slice (some ⟨nb, 0, none⟩) rows.length cap) := h1.rd.cell rfl
        obtain ⟨nb', cap', e, _, hcn⟩ := h1.node id hi
        obtain ⟨rfl, rfl⟩ : nb = nb' ∧ cap = cap' := by simpa using e
        have i0 := (hcn 0 (by omega)).1
        have f0 := (hcn 0 (by omega)).2
        simp only [RRow.cells, List.getElem?_cons_zero, Nat.add_zero] at i0 f0
        clear hcn e
        have hM2 := h1.setNode (i := id) (j := 0) (r := ⟨108, { (rows[id]).n with kind := 1 }, (rows[id]).kv, (rows[id]).pv⟩) (v := .int .u8 108) hi (by omega) rfl (fun p hp hne => by
          match p, hp with
          | 0, _ => exact absurd rfl hne
          | 1, _ => rfl
          | 2, _ => rfl
          | 3, _ => rfl
          | 4, _ => rfl
          | 5, _ => rfl) rfl rfl rfl rfl
        rw [Nat.add_zero] at hM2
        have HB2 : Hid (Below R.base w _) := (HMW.out.belowB hb1).trans (h1.belowN (S := []) (by simp) ((But.refl [nb] w1).setCell (p := ⟨nb, id * 6, none⟩) (by simp) (.int .u8 108)))
        go_upto_region 12 with fail
        refine name_world fun W hW => ?_
        rw [← hW.out] at hM2 HB2
        clear hW d11 d8 i0 f0 h1 hb1
        obtain ⟨rows1, HR1⟩ : ∃ rows1, Hid (rows1 = rows.set id ⟨108, { (rows[id]).n with kind := 1 }, (rows[id]).kv, (rows[id]).pv⟩) := ⟨_, (rfl : rows.set id ⟨108, { (rows[id]).n with kind := 1 }, (rows[id]).kv, (rows[id]).pv⟩ = rows.set id ⟨108, { (rows[id]).n with kind := 1 }, (rows[id]).kv, (rows[id]).pv⟩)⟩
        have HS1 : Hid (RSt R.s (ov.put id (108, { NodeV.blank with kind := 1 })) t rows1 names t.anchors) := by unfold Hid; rw [HR1.out]; exact HS.out.open hi hz rfl (by simp only; rw [HRN.out])
        rw [← HR1.out] at hM2
        have hlen : rows.length = rows1.length := by rw [HR1.out]; simp
        rw [hlen] at hM2
        have hi1 : id < rows1.length := by omega
        obtain ⟨_, hk2, hn2⟩ := HS1.out.rowAt
        simp only at hk2 hn2
        have HN2 : Hid _ := hn2
        clear hk2 hn2
        have d8 : W.cell? ⟨R.b, 8, none⟩ = some (.slice (some ⟨nb, 0, none⟩) rows1.length cap) := hM2.rd.cell rfl
        obtain ⟨nb', cap', e, _, hcn⟩ := hM2.node id hi1
        obtain ⟨rfl, rfl⟩ : nb = nb' ∧ cap = cap' := by simpa using e
        have i0 := (hcn 0 (by omega)).1
        have f0 := (hcn 0 (by omega)).2
        simp only [RRow.cells, List.getElem?_cons_zero, Nat.add_zero] at i0 f0
        clear hcn e
        have hM2b := hM2.setNode (i := id) (j := 0) (r := ⟨109, { (rows1[id]).n with kind := 2 }, (rows1[id]).kv, (rows1[id]).pv⟩) (v := .int .u8 109) hi1 (by omega) rfl (fun p hp hne => by
          match p, hp with
          | 0, _ => exact absurd rfl hne
          | 1, _ => rfl
          | 2, _ => rfl
          | 3, _ => rfl
          | 4, _ => rfl
          | 5, _ => rfl) rfl rfl rfl rfl
        rw [Nat.add_zero] at hM2b
        have HB2b : Hid (Below R.base w _) := HB2.out.trans (hM2.belowN (S := []) (by simp) ((But.refl [nb] W).setCell (p := ⟨nb, id * 6, none⟩) (by simp) (.int .u8 109)))
        have HS2 : Hid (RSt R.s (ov.put id (109, { NodeV.blank with kind := 2 })) t (rows1.set id ⟨109, { (rows1[id]).n with kind := 2 }, (rows1[id]).kv, (rows1[id]).pv⟩) names t.anchors) := HS1.out.reopen rfl (by simp only; rw [HN2.out])
        go_upto_region 14 with fail
        refine name_world fun W2 hW => ?_
        rw [← hW.out] at hM2b HB2b
        clear hW d8 i0 f0 hM2 HB2
        have d3 : W2.cell? ⟨R.b, 3, none⟩ = some (.int .i64 (q : Int)) := hM2b.rd.cell rfl
        have f3 := hM2b.rd.free 3
        have hM3 := hM2b.step
        have HB3 : Hid (Below R.base w _) := HB2b.out.trans (hM2b.belowB ((But.refl [R.b] W2).setCell (p := ⟨R.b, 3, none⟩) (by simp) (.int .i64 ((q : Int) + 1))))
        have HIN : Hid _ := rinside_any hE (ov := ov) (K := K) (i := id) (kb := 109) (n := { NodeV.blank with kind := 2 }) (t := { t with k := q + 1 }) ⟨_, mv, _, names, hM3, HS2.out.move (by omega), l, HL.out, HI.out, by simp only; omega, by simp only; omega⟩ hov true rfl rfl rfl lv h0 (by omega) (fl (lv + 1)) HFS.out HFO.out
        clear hM3
        go_wp2_with fail
        refine Calls.mono HIN.out ?_
        rintro e w5 ⟨rfl, hb5, hp5⟩
        cases hm : insideM R.s (fl (lv + 1)) true { t with k := q + 1 } with
        | bad er pl =>
          simp only [hm] at hp5
          have HM2 : Hid (valueS R.s fl id lv t = .bad er pl) := by unfold Hid; rw [HM.out, hm]; rfl
          have HBD : Hid (RBad R ov t er pl w5) := hp5
          obtain ⟨he, _, _, _, _, _, _, _, hMx, _⟩ := hp5
          have d11 : w5.cell? ⟨R.b, 11, none⟩ = some (.int .i64 (er : Int)) := hMx.rd.cell rfl
          clear hm hMx
          go_wp2_with fail
          first | (refine bodyPost_ret (results_none rfl _ _ _) rfl ?_) | go_end0
          refine ⟨rfl, HB3.out.trans hb5, ?_⟩
          rw [HM2.out]
          exact HBD.out
        | ok p t1 =>
          simp only [hm] at hp5
          have HM2 : Hid (valueS R.s fl id lv t = .ok () (endM id { NodeV.blank with kind := 2, keys := p.1, parts := p.2 } t1)) := by unfold Hid; rw [HM.out, hm]; rfl
          have hbk : bracketsM R.s (fl (lv + 1)) true (lastK true) { t with k := q } = .ok p t1 := hm
          obtain ⟨s1, hph⟩ := bracketsM_ok (B := R.B) (lv := lv) (by decide) h0 HFO.out hwfq (by simp only; omega) hbk
          have hpl := (bracketsM_len (B := R.B) (lv := lv) (by decide) h0 HFO.out hwfq (by simp only; omega) hbk).2
          obtain ⟨nv5, mv5, rows5, names5, hM5, hS5, l5, hl5, hi5, ha5, he5⟩ := hp5
          have hk5 := hS5.wf.k
          have hlen5 := s1.len
          have d11 : w5.cell? ⟨R.b, 11, none⟩ = some (.int .i64 0) := hM5.rd.cell rfl
          have HDN : Hid _ := rdone_st (t := t1) (n := { NodeV.blank with kind := 2, keys := p.1, parts := p.2 }) hM5 hS5 hov rfl (fun y hy => (hph y hy).1) (by simp only; omega) (endM_step (B := R.B) (lv := lv) (n := { NodeV.blank with kind := 2, keys := p.1, parts := p.2 }) hS5.wf (by simp only at hlen5; omega) h0 hD hlv (fun y hy => (hph y hy).2)).1.wf
          clear hm hbk hph hM5 hS5 s1
          go_wp2_with fail
          refine Calls.mono HDN.out ?_
          rintro e w6 ⟨rfl, hb6, rows6, hM6, hS6⟩
          go_wp2_with fail
          first | (refine bodyPost_ret (results_none rfl _ _ _) rfl ?_) | go_end0
          refine ⟨rfl, (HB3.out.trans hb5).trans hb6, ?_⟩
          rw [HM2.out]
          exact ⟨_, mv5, rows6, names5, hM6, hS6, l5, hl5, hi5, ha5, he5⟩
      · have HM : Hid (valueS R.s fl id lv t = .bad 3 (skipBl R.s t.k)) := by
          unfold Hid valueS
          simp only
          rw [if_neg hk23, if_neg hk9, if_neg hk11]
        have hv : startsB (nowB R.s t.k l.en) = false := by
          cases hb : startsB (nowB R.s t.k l.en) with
          | false => rfl
          | true => have := hstb.1 hb; omega
        clear hstb n9 n11 HLT
        generalize nowB R.s t.k l.en = c at *
        generalize skipBl R.s t.k = q at *
        go_enter Tryz.func138, Tryz.ntmps138
        go_wp2_with fail
        refine hnow.mono ?_
        rintro e w1 ⟨rfl, h1, hb1⟩
        have d3 : w1.cell? ⟨R.b, 3, none⟩ = some (.int .i64 (q : Int)) := h1.rd.cell rfl
        go_wp2_with fail
        refine (HST.out w1).mono ?_
        rintro e w2 ⟨rfl, hw2⟩
        have hw3 := hw2.symm
        clear hw2
        subst hw3
        go_wp2_with fail
        refine (rwrong_any h1 3 q).mono ?_
        rintro e w3 ⟨rfl, h3, hb3⟩
        have d11 : w3.cell? ⟨R.b, 11, none⟩ = some (.int .i64 3) := h3.rd.cell rfl
        go_wp2_with fail
        first | (refine bodyPost_ret (results_none rfl _ _ _) rfl ?_) | go_end0
        refine ⟨rfl, HMW.out.belowB (hb1.trans hb3 (by simp)), ?_⟩
        rw [HM.out]
        exact HS.out.bad h3 (by simp)

end Go.Proofs.YtkflkmmbakccoaaGreatDoor

/- WALKS: package grafterref: begin, anchor, over the state. -/
namespace Go.Proofs.YtkflkmmbakccoaaGreatDoor
open Go.RowKit Go.Maps

theorem RBadAt.bad {R : REnv} {ov : Over} {t : PS} {K k er pl an : Nat} {nv mv : Value} {rows : List RRow} {names : List (ByteArray × Nat)} {w : World} (h : RBadAt ov t er an rows names) (hM : RMem R K k an er pl nv mv rows names w) : RBad R ov t er pl w := by
  obtain ⟨he, h1, h2, h3, h4⟩ := h
  exact ⟨he, K, k, an, nv, mv, rows, names, hM, h1, h2, h3, h4⟩

/-- The list of nodes has one more. -/
theorem RSt.begun {s : ByteArray} {ov : Over} {t : PS} {rows : List RRow} {names : List (ByteArray × Nat)} {an : Nat} (h : RSt s ov t rows names an) (hn : t.nodes.length < 500) : RSt s ov { t with nodes := t.nodes ++ [NodeV.blank] } (rows ++ [rblank]) names an ∧ ov rows.length = none := by
  have hlast : ov rows.length = none := by
    cases ho : ov rows.length with
    | none => rfl
    | some p =>
      obtain ⟨_, r, hr, _⟩ := h.opened _ p ho
      have := (List.getElem?_eq_some_iff.1 hr).1
      omega
  refine ⟨⟨by simp [h.len], fun i hi ho => ?_, fun i p hp => ?_, h.names, h.an, h.wf.begin hn⟩, hlast⟩
  · simp only [List.length_append, List.length_cons, List.length_nil] at hi
    by_cases e : i = rows.length
    · subst e
      have e1 : (rows ++ [rblank])[rows.length] = rblank := by simp
      simp only [e1]
      refine ⟨?_, fun hc => absurd rfl hc⟩
      rw [h.len]
      simp [rblank]
    · have hi' : i < rows.length := by omega
      have e1 : (rows ++ [rblank])[i] = rows[i] := List.getElem_append_left hi'
      simp only [e1]
      have := h.shut i hi' ho
      refine ⟨?_, this.2⟩
      rw [List.getElem?_append_left (by rw [← h.len]; exact hi')]
      exact this.1
  · obtain ⟨a, r, hr, b, c⟩ := h.opened i p hp
    have hi := (List.getElem?_eq_some_iff.1 hr).1
    exact ⟨by simp only; rw [highOf_appB]; exact a, r, by rw [List.getElem?_append_left hi]; exact hr, b, c⟩

theorem RSt.none {s : ByteArray} {ov : Over} {t : PS} {rows : List RRow} {names : List (ByteArray × Nat)} {an : Nat} (h : RSt s ov t rows names an) : ov t.nodes.length = .none := by
  cases ho : ov t.nodes.length with
  | none => rfl
  | some p =>
    obtain ⟨_, r, hr, _⟩ := h.opened _ p ho
    have := (List.getElem?_eq_some_iff.1 hr).1
    have := h.len
    omega

/-- Behind a node's beginning. -/
def RBegun (R : REnv) (ov : Over) (K : Nat) (t : PS) (r : Res Nat) (w' : World) : Prop := match r with
  | .ok id t1 => id = t.nodes.length ∧ RGood R ov K t1 w' ∧ ov id = none ∧ t1.nodes[id]? = some NodeV.blank
  | .bad er pl => er ≠ 0 ∧ ∃ nv mv rows names, RMem R K t.k t.anchors er pl nv mv rows names w' ∧ RBadAt ov t er t.anchors rows names ∧ t.nodes.length < rows.length ∧ ov t.nodes.length = none

theorem RSt.badAt {s : ByteArray} {ov : Over} {t : PS} {rows : List RRow} {names : List (ByteArray × Nat)} {an er : Nat} (h : RSt s ov t rows names an) (he : er ≠ 0) (rows' : List RRow) (h1 : ∀ (i : Nat) (r : RRow), rows[i]? = some r → rows'[i]? = some r) (h2 : rows.length ≤ rows'.length) : RBadAt ov t er t.anchors rows' names :=
  ⟨he, by rw [← h.len]; exact h2, fun j p hp => by
    obtain ⟨_, r, hr, b, c⟩ := h.opened j p hp
    exact ⟨r, h1 j r hr, b, c⟩, by rw [h.names]; simp; omega, by have := h.wf.anchors; omega⟩

theorem rbegin_good {R : REnv} (hE : REnvOk R) {ov : Over} {K : Nat} {t : PS} {w : World} (h : RGood R ov K t w) (lv : Int) :
    Calls Tryz.prog 105 #[.pointer (some ⟨R.b, 0, none⟩), .int .i64 lv] w fun e w' => e = .returned (.int .i64 (t.nodes.length : Int)) ∧ Below R.base w w' ∧ RBegun R ov K t (beginM R.B lv t) w' := by
  obtain ⟨nv, mv, rows, names, hM, hS, l, hl, hind, hat, hen⟩ := h
  have hn5 := hS.wf.nodes
  refine (rbegin_any hM lv (by rw [hS.len]; omega)).mono ?_
  rintro e w1 ⟨rfl, hb, nv', hM'⟩
  refine ⟨by rw [hS.len], hb, ?_⟩
  have happ : ∀ (i : Nat) (r : RRow), rows[i]? = some r → (rows ++ [rblank])[i]? = some r := fun i r hr => by
    rw [List.getElem?_append_left (List.getElem?_eq_some_iff.1 hr).1]; exact hr
  unfold bgE beginM at *
  by_cases h1 : R.B.depth < lv
  · rw [if_pos h1]
    simp only [if_pos h1] at hM'
    have e1 : (if R.B.nodes ≤ (rows.length : Int) then wrE (wrE 0 0 4 t.k).1 (wrE 0 0 4 t.k).2 5 t.k else wrE 0 0 4 t.k) = (4, t.k) := by split <;> rfl
    rw [e1] at hM'
    exact ⟨by decide, nv', mv, _, names, hM', hS.badAt (by decide) _ happ (by simp), by simp [hS.len], hS.none⟩
  · rw [if_neg h1]
    simp only [if_neg h1] at hM'
    by_cases h2 : R.B.nodes ≤ (t.nodes.length : Int)
    · rw [if_pos h2]
      rw [if_pos (by rw [hS.len]; exact h2)] at hM'
      exact ⟨by decide, nv', mv, _, names, hM', hS.badAt (by decide) _ happ (by simp), by simp [hS.len], hS.none⟩
    · rw [if_neg h2]
      rw [if_neg (by rw [hS.len]; exact h2)] at hM'
      have := hE.n
      obtain ⟨hS', ho⟩ := hS.begun (by omega)
      exact ⟨rfl, ⟨nv', mv, _, names, hM', hS', l, hl, hind, hat, hen⟩, by rw [← hS.len]; exact ho, by simp⟩

/-- A name ahead of a node, the reading standing at the ampersand. -/
def anchorM (s : ByteArray) (B : Bud) (t : PS) : Res ByteArray := if B.anchors ≤ (t.anchors : Int) then .bad 6 t.k else wordM s { t with anchors := t.anchors + 1, k := t.k + 1 }

theorem namedM_anchor (s : ByteArray) (B : Bud) (lv : Int) (rest : Nat → PS → Res Unit) (t : PS) : namedM s B lv rest t = (beginM B lv t).bind fun id t1 => (anchorM s B t1).bind fun x t2 => (rest id t2).bind fun _ t3 => .ok id { t3 with names := (x, id) :: t3.names } := by
  unfold namedM anchorM
  cases beginM B lv t with
  | bad er pl => rfl
  | ok id t1 =>
    simp only [Res.bind_ok]
    split <;> rfl

/-- An error, and room for one more name. -/
def NmBad (ov : Over) (t : PS) (er an : Nat) (rows : List RRow) (names : List (ByteArray × Nat)) : Prop := RBadAt ov t er an rows names ∧ names.length + 1 + t.anchors ≤ an + t.names.length

/-- Behind a name. -/
def RAnch (R : REnv) (ov : Over) (K : Nat) (t : PS) (x : ByteArray) (r : Res ByteArray) (w' : World) : Prop := match r with
  | .ok y t2 => x = y ∧ t2.nodes = t.nodes ∧ t2.names = t.names ∧ t2.anchors = t.anchors + 1 ∧ RGood R ov K t2 w'
  | .bad er pl => ∃ l k nv mv rows names, R.L[K]? = some l ∧ k ≤ l.en ∧ RMem R K k (t.anchors + 1) er pl nv mv rows names w' ∧ NmBad ov t er (t.anchors + 1) rows names

theorem ranchor_good {R : REnv} (hE : REnvOk R) {ov : Over} {K : Nat} {t : PS} {w : World} (h : RGood R ov K t w) (hk8 : kindAt R.s t.k = 8) :
    Calls Tryz.prog 137 #[.pointer (some ⟨R.b, 0, none⟩)] w fun e w' => ∃ x, e = .returned (.string x) ∧ Below R.base w w' ∧ RAnch R ov K t x (anchorM R.s R.B t) w' := by
  obtain ⟨nv, mv, rows, names, hM, hS, l, hl, hind, hat, hen⟩ := h
  have hL := hE.line hl
  have hes := hL.en
  have hlt : t.k < l.en := by
    by_cases e : t.k = l.en
    · exfalso
      have hz := kindAt_lt (s := R.s) (q := t.k) (by omega)
      have hb := hL.nl (by omega)
      rw [kindAt, if_pos hz, e, hb] at hk8
      revert hk8; decide
    · omega
  have han := hS.wf.anchors
  have hq := skipBl_en R.s (t.k + 1) l.en (by omega) hL.en hL.nl
  have hr := rdWord_en R.s (skipBl R.s (t.k + 1)) l.en hq hL.en hL.nl
  have hge := skipBl_ge R.s (t.k + 1)
  refine (ranchor_any hM hE.s hl hL hlt (by omega)).mono ?_
  rintro e w1 ⟨x, rfl, hb, hp⟩
  refine ⟨x, rfl, hM.belowB hb, ?_⟩
  have hnb : ∀ er, er ≠ 0 → NmBad ov t er (t.anchors + 1) rows names := fun er he => by
    obtain ⟨_, h1, h2, h3, h4⟩ := hS.badAt (er := er) he rows (fun _ _ hr => hr) (Nat.le_refl _)
    exact ⟨⟨he, h1, h2, by omega, by omega⟩, by rw [hS.names]; simp; omega⟩
  unfold anchorM
  unfold RWord anE at hp
  by_cases ha : R.B.anchors ≤ (t.anchors : Int)
  · rw [if_pos ha]
    simp only [if_pos ha] at hp
    split at hp
    · exact ⟨l, _, nv, mv, rows, names, hl, hr.2, hp.2, hnb 6 (by decide)⟩
    · exact ⟨l, _, nv, mv, rows, names, hl, hr.2, hp, hnb 6 (by decide)⟩
  · rw [if_neg ha, wordM_rd]
    simp only [if_neg ha] at hp
    simp only
    split at hp
    · rename_i hok
      rw [if_pos hok]
      have := hE.a
      refine ⟨hp.1, rfl, rfl, rfl, nv, mv, rows, names, hp.2, ⟨hS.len, hS.shut, hS.opened, hS.names, rfl, ⟨by simp only; omega, hS.wf.nodes, by simp only; omega, by have := hS.wf.names; simp only; omega, hS.wf.named, hS.wf.heavy, hS.wf.high⟩⟩, l, hl, hind, by simp only; omega, hr.2⟩
    · rename_i hok
      rw [if_neg hok]
      exact ⟨l, _, nv, mv, rows, names, hl, hr.2, hp, hnb 3 (by decide)⟩

/-- A way to read a value of a level, as a call of grafterref. -/
def RValueSaid (R : REnv) (lv : Int) (val : Nat → PS → Res Unit) : Prop :=
  ∀ ov K t w (id : Nat), RGood R ov K t w → ov id = none → t.nodes[id]? = some NodeV.blank → Calls Tryz.prog 138 #[.pointer (some ⟨R.b, 0, none⟩), .int .i64 (id : Int), .int .i64 lv] w fun e w' => RPostV R ov K t w (val id t) e w'

theorem infoName : (Tryz.prog.info? 178).map (fun i => (i.zero, i.size, i.bytes)) = some (some (.agg #[.string ⟨#[]⟩, .int .i64 0]), 2, 24) := by kernel_rfl
theorem undNames : Tryz.prog.underlying 112 = some (.slice 178) := by kernel_rfl

/-- The Reader ahead of the taking of a name: all has been read well, or not. -/
def NmAfter (R : REnv) (ov : Over) (G : PS → Nat → Nat → Prop) (t : PS) (id : Nat) (x : ByteArray) (res : Res Nat) (K3 k3 an3 er3 pl3 : Nat) (rows3 : List RRow) (names3 : List (ByteArray × Nat)) : Prop :=
  (∃ er pl, res = .bad er pl ∧ er3 = er ∧ pl3 = pl ∧ NmBad ov t er an3 rows3 names3) ∨
  (∃ t3, res = .ok id { t3 with names := (x, id) :: t3.names } ∧ er3 = 0 ∧ pl3 = 0 ∧ an3 = t3.anchors ∧ G t3 K3 k3 ∧ RSt R.s ov t3 rows3 names3 t3.anchors)

theorem RSt.name {s : ByteArray} {ov : Over} {t : PS} {rows : List RRow} {names : List (ByteArray × Nat)} {an id : Nat} {x : ByteArray} (h : RSt s ov t rows names an) (hwf : WF s { t with names := (x, id) :: t.names }) : RSt s ov { t with names := (x, id) :: t.names } rows (names ++ [(x, id)]) an :=
  ⟨h.len, h.shut, h.opened, by simp [h.names], h.an, hwf⟩

theorem NmBad.name {R : REnv} {ov : Over} {t : PS} {K k er pl an : Nat} {nv mv : Value} {rows : List RRow} {names : List (ByteArray × Nat)} {w : World} {p : ByteArray × Nat} (h : NmBad ov t er an rows names) (hM : RMem R K k an er pl nv mv rows (names ++ [p]) w) : RBad R ov t er pl w := by
  obtain ⟨⟨he, h1, h2, h3, h4⟩, h5⟩ := h
  exact ⟨he, K, k, an, nv, mv, rows, _, hM, h1, h2, by simp; omega, h4⟩

/-- Out of an error behind the name: there is room for one more. -/
theorem RBad.nm {R : REnv} {ov : Over} {t t2 : PS} {er pl : Nat} {w : World} (h : RBad R ov t2 er pl w) (hn : t2.nodes = t.nodes) (hm : t2.names = t.names) (ha : t2.anchors = t.anchors + 1) :
    ∃ K k an nv mv rows names, RMem R K k an er pl nv mv rows names w ∧ NmBad ov t er an rows names := by
  obtain ⟨he, K, k, an, nv, mv, rows, names, hM, h1, h2, h3, h4⟩ := h
  rw [hn] at h1
  rw [hm, ha] at h3
  exact ⟨K, k, an, nv, mv, rows, names, hM, ⟨he, h1, h2, by omega, h4⟩, by omega⟩

end Go.Proofs.YtkflkmmbakccoaaGreatDoor
