/- PARTS: R18, R19, R20. -/
import Derived.Test.YtkflkmmbakccoaaGreatDoorH30
import Derived.Test.YtkflkmmbakccoaaGreatDoorH12

/- WALKS: package grafterref: begin, anchor, over the state. -/
namespace Go.Proofs.YtkflkmmbakccoaaGreatDoor
open Go.RowKit Go.Maps

theorem RBadAt.bad {R : REnv} {ov : Over} {t : PS} {K k er pl an : Nat} {nv mv : Value} {rows : List RRow} {names : List (ByteArray × Nat)} {w : World} (h : RBadAt ov t er an rows names) (hM : RMem R K k an er pl nv mv rows names w) : RBad R ov t er pl w := by
  obtain ⟨he, h1, h2, h3, h4⟩ := h
  exact ⟨he, K, k, an, nv, mv, rows, names, hM, h1, h2, h3, h4⟩

/-- The list of nodes has one more. -/
theorem RSt.begun {s : ByteArray} {ov : Over} {t : PS} {rows : List RRow} {names : List (ByteArray × Nat)} {an : Nat} (h : RSt s ov t rows names an) (hn : t.nodes.length < 500) : RSt s ov { t with nodes := t.nodes ++ [NodeV.blank] } (rows ++ [rblank]) names an ∧ ov rows.length = none := by
  have hlast : ov rows.length = none := by
    cases ho : ov rows.length with
    | none => rfl
    | some p =>
      obtain ⟨_, r, hr, _⟩ := h.opened _ p ho
      have := (List.getElem?_eq_some_iff.1 hr).1
      omega
  refine ⟨⟨by simp [h.len], fun i hi ho => ?_, fun i p hp => ?_, h.names, h.an, h.wf.begin hn⟩, hlast⟩
  · simp only [List.length_append, List.length_cons, List.length_nil] at hi
    by_cases e : i = rows.length
    · subst e
      have e1 : (rows ++ [rblank])[rows.length] = rblank := by simp
      simp only [e1]
      refine ⟨?_, fun hc => absurd rfl hc⟩
      rw [h.len]
      simp [rblank]
    · have hi' : i < rows.length := by omega
      have e1 : (rows ++ [rblank])[i] = rows[i] := List.getElem_append_left hi'
      simp only [e1]
      have := h.shut i hi' ho
      refine ⟨?_, this.2⟩
      rw [List.getElem?_append_left (by rw [← h.len]; exact hi')]
      exact this.1
  · obtain ⟨a, r, hr, b, c⟩ := h.opened i p hp
    have hi := (List.getElem?_eq_some_iff.1 hr).1
    exact ⟨by simp only; rw [highOf_appB]; exact a, r, by rw [List.getElem?_append_left hi]; exact hr, b, c⟩

theorem RSt.none {s : ByteArray} {ov : Over} {t : PS} {rows : List RRow} {names : List (ByteArray × Nat)} {an : Nat} (h : RSt s ov t rows names an) : ov t.nodes.length = .none := by
  cases ho : ov t.nodes.length with
  | none => rfl
  | some p =>
    obtain ⟨_, r, hr, _⟩ := h.opened _ p ho
    have := (List.getElem?_eq_some_iff.1 hr).1
    have := h.len
    omega

/-- Behind a node's beginning. -/
def RBegun (R : REnv) (ov : Over) (K : Nat) (t : PS) (r : Res Nat) (w' : World) : Prop := match r with
  | .ok id t1 => id = t.nodes.length ∧ RGood R ov K t1 w' ∧ ov id = none ∧ t1.nodes[id]? = some NodeV.blank
  | .bad er pl => er ≠ 0 ∧ ∃ nv mv rows names, RMem R K t.k t.anchors er pl nv mv rows names w' ∧ RBadAt ov t er t.anchors rows names ∧ t.nodes.length < rows.length ∧ ov t.nodes.length = none

theorem RSt.badAt {s : ByteArray} {ov : Over} {t : PS} {rows : List RRow} {names : List (ByteArray × Nat)} {an er : Nat} (h : RSt s ov t rows names an) (he : er ≠ 0) (rows' : List RRow) (h1 : ∀ (i : Nat) (r : RRow), rows[i]? = some r → rows'[i]? = some r) (h2 : rows.length ≤ rows'.length) : RBadAt ov t er t.anchors rows' names :=
  ⟨he, by rw [← h.len]; exact h2, fun j p hp => by
    obtain ⟨_, r, hr, b, c⟩ := h.opened j p hp
    exact ⟨r, h1 j r hr, b, c⟩, by rw [h.names]; simp; omega, by have := h.wf.anchors; omega⟩

theorem rbegin_good {R : REnv} (hE : REnvOk R) {ov : Over} {K : Nat} {t : PS} {w : World} (h : RGood R ov K t w) (lv : Int) :
    Calls Tryz.prog 105 #[.pointer (some ⟨R.b, 0, none⟩), .int .i64 lv] w fun e w' => e = .returned (.int .i64 (t.nodes.length : Int)) ∧ Below R.base w w' ∧ RBegun R ov K t (beginM R.B lv t) w' := by
  obtain ⟨nv, mv, rows, names, hM, hS, l, hl, hind, hat, hen⟩ := h
  have hn5 := hS.wf.nodes
  refine (rbegin_any hM lv (by rw [hS.len]; omega)).mono ?_
  rintro e w1 ⟨rfl, hb, nv', hM'⟩
  refine ⟨by rw [hS.len], hb, ?_⟩
  have happ : ∀ (i : Nat) (r : RRow), rows[i]? = some r → (rows ++ [rblank])[i]? = some r := fun i r hr => by
    rw [List.getElem?_append_left (List.getElem?_eq_some_iff.1 hr).1]; exact hr
  unfold bgE beginM at *
  by_cases h1 : R.B.depth < lv
  · rw [if_pos h1]
    simp only [if_pos h1] at hM'
    have e1 : (if R.B.nodes ≤ (rows.length : Int) then wrE (wrE 0 0 4 t.k).1 (wrE 0 0 4 t.k).2 5 t.k else wrE 0 0 4 t.k) = (4, t.k) := by split <;> rfl
    rw [e1] at hM'
    exact ⟨by decide, nv', mv, _, names, hM', hS.badAt (by decide) _ happ (by simp), by simp [hS.len], hS.none⟩
  · rw [if_neg h1]
    simp only [if_neg h1] at hM'
    by_cases h2 : R.B.nodes ≤ (t.nodes.length : Int)
    · rw [if_pos h2]
      rw [if_pos (by rw [hS.len]; exact h2)] at hM'
      exact ⟨by decide, nv', mv, _, names, hM', hS.badAt (by decide) _ happ (by simp), by simp [hS.len], hS.none⟩
    · rw [if_neg h2]
      rw [if_neg (by rw [hS.len]; exact h2)] at hM'
      have := hE.n
      obtain ⟨hS', ho⟩ := hS.begun (by omega)
      exact ⟨rfl, ⟨nv', mv, _, names, hM', hS', l, hl, hind, hat, hen⟩, by rw [← hS.len]; exact ho, by simp⟩

/-- A name ahead of a node, the reading standing at the ampersand. -/
def anchorM (s : ByteArray) (B : Bud) (t : PS) : Res ByteArray := if B.anchors ≤ (t.anchors : Int) then .bad 6 t.k else wordM s { t with anchors := t.anchors + 1, k := t.k + 1 }

theorem namedM_anchor (s : ByteArray) (B : Bud) (lv : Int) (rest : Nat → PS → Res Unit) (t : PS) : namedM s B lv rest t = (beginM B lv t).bind fun id t1 => (anchorM s B t1).bind fun x t2 => (rest id t2).bind fun _ t3 => .ok id { t3 with names := (x, id) :: t3.names } := by
  unfold namedM anchorM
  cases beginM B lv t with
  | bad er pl => rfl
  | ok id t1 =>
    simp only [Res.bind_ok]
    split <;> rfl

/-- An error, and room for one more name. -/
def NmBad (ov : Over) (t : PS) (er an : Nat) (rows : List RRow) (names : List (ByteArray × Nat)) : Prop := RBadAt ov t er an rows names ∧ names.length + 1 + t.anchors ≤ an + t.names.length

/-- Behind a name. -/
def RAnch (R : REnv) (ov : Over) (K : Nat) (t : PS) (x : ByteArray) (r : Res ByteArray) (w' : World) : Prop := match r with
  | .ok y t2 => x = y ∧ t2.nodes = t.nodes ∧ t2.names = t.names ∧ t2.anchors = t.anchors + 1 ∧ RGood R ov K t2 w'
  | .bad er pl => ∃ l k nv mv rows names, R.L[K]? = some l ∧ k ≤ l.en ∧ RMem R K k (t.anchors + 1) er pl nv mv rows names w' ∧ NmBad ov t er (t.anchors + 1) rows names

theorem ranchor_good {R : REnv} (hE : REnvOk R) {ov : Over} {K : Nat} {t : PS} {w : World} (h : RGood R ov K t w) (hk8 : kindAt R.s t.k = 8) :
    Calls Tryz.prog 137 #[.pointer (some ⟨R.b, 0, none⟩)] w fun e w' => ∃ x, e = .returned (.string x) ∧ Below R.base w w' ∧ RAnch R ov K t x (anchorM R.s R.B t) w' := by
  obtain ⟨nv, mv, rows, names, hM, hS, l, hl, hind, hat, hen⟩ := h
  have hL := hE.line hl
  have hes := hL.en
  have hlt : t.k < l.en := by
    by_cases e : t.k = l.en
    · exfalso
      have hz := kindAt_lt (s := R.s) (q := t.k) (by omega)
      have hb := hL.nl (by omega)
      rw [kindAt, if_pos hz, e, hb] at hk8
      revert hk8; decide
    · omega
  have han := hS.wf.anchors
  have hq := skipBl_en R.s (t.k + 1) l.en (by omega) hL.en hL.nl
  have hr := rdWord_en R.s (skipBl R.s (t.k + 1)) l.en hq hL.en hL.nl
  have hge := skipBl_ge R.s (t.k + 1)
  refine (ranchor_any hM hE.s hl hL hlt (by omega)).mono ?_
  rintro e w1 ⟨x, rfl, hb, hp⟩
  refine ⟨x, rfl, hM.belowB hb, ?_⟩
  have hnb : ∀ er, er ≠ 0 → NmBad ov t er (t.anchors + 1) rows names := fun er he => by
    obtain ⟨_, h1, h2, h3, h4⟩ := hS.badAt (er := er) he rows (fun _ _ hr => hr) (Nat.le_refl _)
    exact ⟨⟨he, h1, h2, by omega, by omega⟩, by rw [hS.names]; simp; omega⟩
  unfold anchorM
  unfold RWord anE at hp
  by_cases ha : R.B.anchors ≤ (t.anchors : Int)
  · rw [if_pos ha]
    simp only [if_pos ha] at hp
    split at hp
    · exact ⟨l, _, nv, mv, rows, names, hl, hr.2, hp.2, hnb 6 (by decide)⟩
    · exact ⟨l, _, nv, mv, rows, names, hl, hr.2, hp, hnb 6 (by decide)⟩
  · rw [if_neg ha, wordM_rd]
    simp only [if_neg ha] at hp
    simp only
    split at hp
    · rename_i hok
      rw [if_pos hok]
      have := hE.a
      refine ⟨hp.1, rfl, rfl, rfl, nv, mv, rows, names, hp.2, ⟨hS.len, hS.shut, hS.opened, hS.names, rfl, ⟨by simp only; omega, hS.wf.nodes, by simp only; omega, by have := hS.wf.names; simp only; omega, hS.wf.named, hS.wf.heavy, hS.wf.high⟩⟩, l, hl, hind, by simp only; omega, hr.2⟩
    · rename_i hok
      rw [if_neg hok]
      exact ⟨l, _, nv, mv, rows, names, hl, hr.2, hp, hnb 3 (by decide)⟩

/-- A way to read a value of a level, as a call of grafterref. -/
def RValueSaid (R : REnv) (lv : Int) (val : Nat → PS → Res Unit) : Prop :=
  ∀ ov K t w (id : Nat), RGood R ov K t w → ov id = none → t.nodes[id]? = some NodeV.blank → Calls Tryz.prog 138 #[.pointer (some ⟨R.b, 0, none⟩), .int .i64 (id : Int), .int .i64 lv] w fun e w' => RPostV R ov K t w (val id t) e w'

theorem infoName : (Tryz.prog.info? 178).map (fun i => (i.zero, i.size, i.bytes)) = some (some (.agg #[.string ⟨#[]⟩, .int .i64 0]), 2, 24) := by kernel_rfl
theorem undNames : Tryz.prog.underlying 112 = some (.slice 178) := by kernel_rfl

/-- The Reader ahead of the taking of a name: all has been read well, or not. -/
def NmAfter (R : REnv) (ov : Over) (G : PS → Nat → Nat → Prop) (t : PS) (id : Nat) (x : ByteArray) (res : Res Nat) (K3 k3 an3 er3 pl3 : Nat) (rows3 : List RRow) (names3 : List (ByteArray × Nat)) : Prop :=
  (∃ er pl, res = .bad er pl ∧ er3 = er ∧ pl3 = pl ∧ NmBad ov t er an3 rows3 names3) ∨
  (∃ t3, res = .ok id { t3 with names := (x, id) :: t3.names } ∧ er3 = 0 ∧ pl3 = 0 ∧ an3 = t3.anchors ∧ G t3 K3 k3 ∧ RSt R.s ov t3 rows3 names3 t3.anchors)

theorem RSt.name {s : ByteArray} {ov : Over} {t : PS} {rows : List RRow} {names : List (ByteArray × Nat)} {an id : Nat} {x : ByteArray} (h : RSt s ov t rows names an) (hwf : WF s { t with names := (x, id) :: t.names }) : RSt s ov { t with names := (x, id) :: t.names } rows (names ++ [(x, id)]) an :=
  ⟨h.len, h.shut, h.opened, by simp [h.names], h.an, hwf⟩

theorem NmBad.name {R : REnv} {ov : Over} {t : PS} {K k er pl an : Nat} {nv mv : Value} {rows : List RRow} {names : List (ByteArray × Nat)} {w : World} {p : ByteArray × Nat} (h : NmBad ov t er an rows names) (hM : RMem R K k an er pl nv mv rows (names ++ [p]) w) : RBad R ov t er pl w := by
  obtain ⟨⟨he, h1, h2, h3, h4⟩, h5⟩ := h
  exact ⟨he, K, k, an, nv, mv, rows, _, hM, h1, h2, by simp; omega, h4⟩

/-- Out of an error behind the name: there is room for one more. -/
theorem RBad.nm {R : REnv} {ov : Over} {t t2 : PS} {er pl : Nat} {w : World} (h : RBad R ov t2 er pl w) (hn : t2.nodes = t.nodes) (hm : t2.names = t.names) (ha : t2.anchors = t.anchors + 1) :
    ∃ K k an nv mv rows names, RMem R K k an er pl nv mv rows names w ∧ NmBad ov t er an rows names := by
  obtain ⟨he, K, k, an, nv, mv, rows, names, hM, h1, h2, h3, h4⟩ := h
  rw [hn] at h1
  rw [hm, ha] at h3
  exact ⟨K, k, an, nv, mv, rows, names, hM, ⟨he, h1, h2, by omega, h4⟩, by omega⟩

end Go.Proofs.YtkflkmmbakccoaaGreatDoor

/- WALKS: package grafterref: flow, by induction on the levels to come. -/
namespace Go.Proofs.YtkflkmmbakccoaaGreatDoor
open Go.RowKit Go.Maps

theorem RMem.belowM {R : REnv} {K k an er pl : Nat} {nv mv : Value} {rows : List RRow} {names : List (ByteArray × Nat)} {w w' : World} (h : RMem R K k an er pl nv mv rows names w) (hb : But (R.b :: own mv) w w') : Below R.base w w' :=
  hb.below h.base (fun x hx => by
    rcases List.mem_cons.1 hx with rfl | hx
    · exact h.bb
    · exact (ownsRow_lt h.names hx).1)

theorem RPostN.trans {R : REnv} {ov : Over} {K q : Nat} {t : PS} {w w1 w2 : World} {r : Res Nat} {e : Ending} (hb : Below R.base w w1) (h : RPostN R ov K { t with k := q } w1 r e w2) : RPostN R ov K t w r e w2 := by
  obtain ⟨hb2, h2⟩ := h
  refine ⟨hb.trans hb2, ?_⟩
  cases r with
  | ok id t' => exact h2
  | bad er pl => exact h2

theorem startsB_42 : startsB 42 = false := by decide
theorem startsB_38 : startsB 38 = false := by decide

theorem NmBad.from {ov : Over} {t t1 : PS} {er an : Nat} {rows : List RRow} {names : List (ByteArray × Nat)} (h : NmBad ov t1 er an rows names) (h1 : t.nodes.length ≤ t1.nodes.length) (h2 : t1.names = t.names) (h3 : t1.anchors = t.anchors) : NmBad ov t er an rows names := by
  obtain ⟨h4, h5⟩ := h
  rw [h2, h3] at h5
  exact ⟨h4.from h1 (by rw [h2, h3]; omega), h5⟩

theorem NmBad.len {s : ByteArray} {ov : Over} {t : PS} {er an : Nat} {rows : List RRow} {names : List (ByteArray × Nat)} (h : NmBad ov t er an rows names) (hw : WF s t) : names.length ≤ 300 := by
  have := h.1.2.2.2.2
  have := h.2
  have := hw.names
  have := hw.anchors
  omega

set_option maxRecDepth 20000 in
set_option maxHeartbeats 4000000 in
theorem rflowS_any {R : REnv} (hE : REnvOk R) (lv : Int) (h0 : 0 ≤ lv) (h1 : lv ≤ 100) (val : Nat → Int → PS → Res Unit) (hv : lv ≤ R.B.depth → RValueSaid R lv (fun id => val id lv)) (hvo : ∀ id, ValOk R.s R.B id lv (val id lv)) (hfo : FlowOk R.s R.B lv (flowS R.s R.B val lv)) : RFlowSaid R lv (flowS R.s R.B val lv) := by
  intro ov K t w h
  obtain ⟨i0, hi0, hz0, hz1, hz2⟩ := info_parts infoName
  obtain ⟨nv, mv, rows, names, hM, hS, l, hl, hind, hat, hen⟩ := h
  have hL := hE.line hl
  have hq := skipBl_en R.s t.k l.en hen hL.en hL.nl
  have hq0 := skipBl_ge R.s t.k
  have hsz := hE.s
  have hes := hL.en
  have hnow := rnow_any hM hE.s hl hL hen
  have hbd := nowB_bd R.s t.k l.en hes
  have hst := starts_any (nowB R.s t.k l.en) hbd.1 hbd.2
  have hstb := nowB_starts hL hen
  have n7 := nowB_kind (κ := 7) hL hen (by decide) (by decide) (by decide)
  have n8 := nowB_kind (κ := 8) hL hen (by decide) (by decide) (by decide)
  rw [(kindB_tab _).2.2.2.2.1] at n7
  rw [(kindB_tab _).2.2.2.2.2.1] at n8
  have HG : Hid (∀ w1, RMem R K (skipBl R.s t.k) t.anchors 0 0 nv mv rows names w1 → RGood R ov K { t with k := skipBl R.s t.k } w1) := fun w1 h2 => ⟨nv, mv, rows, names, h2, hS.move (by omega), l, hl, hind, by simp only; omega, by simp only; omega⟩
  have hwf : WF R.s t := hS.wf
  have HST : Hid _ := hst
  have HS : Hid _ := hS
  have HL : Hid _ := hl
  have HV : Hid _ := hv
  have HVO : Hid _ := hvo
  have HFO : Hid _ := hfo
  have HMW : Hid _ := hM
  clear hst hS hl hind hv hvo hfo hM
  by_cases h7 : kindAt R.s (skipBl R.s t.k) = 7
  · have HM0 : Hid (flowS R.s R.B val lv t = aliasM R.s R.B lv { t with k := skipBl R.s t.k }) := by unfold Hid flowS; simp only; rw [if_pos h7]
    have hce := n7.1 h7
    rw [hce] at hnow HST
    have hsf := startsB_42
    have H7 : Hid _ := h7
    clear hce hstb n7 n8 hbd h7
    generalize skipBl R.s t.k = q at *
    go_enter Tryz.func107, Tryz.ntmps107
    go_wp2_with fail
    refine hnow.mono ?_
    rintro e w1 ⟨rfl, h2, hb2⟩
    go_wp2_with fail
    refine (HST.out w1).mono ?_
    rintro e w2 ⟨rfl, hw2⟩
    have hw3 := hw2.symm
    clear hw2
    subst hw3
    have d11 : w1.cell? ⟨R.b, 11, none⟩ = some (.int .i64 0) := h2.rd.cell rfl
    rw [hsf]
    go_wp2_with fail
    refine (ralias_any hE (HG.out w1 h2) H7.out lv h0 h1).mono ?_
    intro e w2 hp
    have hp' := RPostN.trans (HMW.out.belowB hb2) hp
    rw [← HM0.out] at hp'
    clear hp HM0
    cases hm : flowS R.s R.B val lv t with
    | ok x t1 =>
      rw [hm] at hp'
      obtain ⟨hb3, rfl, hg⟩ := hp'
      have HM : Hid _ := hm
      clear hm
      go_wp2_with fail
      go_ret
      rw [HM.out]
      exact ⟨hb3, rfl, hg⟩
    | bad er pl =>
      rw [hm] at hp'
      obtain ⟨hb3, ⟨x, rfl⟩, hg⟩ := hp'
      have HM : Hid _ := hm
      clear hm
      go_wp2_with fail
      go_ret
      rw [HM.out]
      exact ⟨hb3, ⟨x, rfl⟩, hg⟩
  · by_cases h8 : kindAt R.s (skipBl R.s t.k) = 8
    · have HM0 : Hid (flowS R.s R.B val lv t = namedM R.s R.B lv (fun id v => val id lv v) { t with k := skipBl R.s t.k }) := by unfold Hid flowS; simp only; rw [if_neg h7, if_pos h8]
      have hce := n8.1 h8
      rw [hce] at hnow HST
      have hsf := startsB_38
      have H8 : Hid _ := h8
      clear hce hstb n7 n8 hbd h7 h8
      generalize skipBl R.s t.k = q at *
      go_enter Tryz.func107, Tryz.ntmps107
      go_wp2_with fail
      refine hnow.mono ?_
      rintro e w1 ⟨rfl, h2, hb2⟩
      go_wp2_with fail
      refine (HST.out w1).mono ?_
      rintro e w2 ⟨rfl, hw2⟩
      have hw3 := hw2.symm
      clear hw2
      subst hw3
      have d11 : w1.cell? ⟨R.b, 11, none⟩ = some (.int .i64 0) := h2.rd.cell rfl
      rw [hsf]
      go_wp2_with fail
      refine (rbegin_good hE (HG.out w1 h2) lv).mono ?_
      rintro e w2 ⟨rfl, hb3, hp2⟩
      have HB2 : Hid (Below R.base w w2) := (HMW.out.belowB hb2).trans hb3
      clear hb3 hb2 d11 h2
      cases hm : beginM R.B lv { t with k := q } with
      | bad er pl =>
        rw [hm] at hp2
        have HM : Hid (flowS R.s R.B val lv t = .bad er pl) := by unfold Hid; rw [HM0.out, namedM_anchor, hm]; rfl
        obtain ⟨he, nv2, mv2, rows2, names2, hM2, hA2, _, _⟩ := hp2
        have d11 : w2.cell? ⟨R.b, 11, none⟩ = some (.int .i64 (er : Int)) := hM2.rd.cell rfl
        have HA2 : Hid (RBadAt ov t er t.anchors rows2 names2) := hA2
        clear hm HM0 hA2
        go_wp2_with fail
        refine (rvalue_err hM2 he hE.s HL.out hL hq t.nodes.length lv).mono ?_
        rintro e w3 ⟨rfl, hb3, hM3⟩
        go_wp2_with fail
        go_ret
        rw [HM.out]
        exact ⟨HB2.out.trans (hM2.belowB hb3), ⟨_, rfl⟩, HA2.out.bad hM3⟩
      | ok id t1 =>
        rw [hm] at hp2
        obtain ⟨rfl, hG2, hov2, hbl2⟩ := hp2
        simp only at hG2 hov2 hbl2
        obtain ⟨hlv, _, ht1, _, _, _⟩ := beginM_ok hE.n (hwf.move (k := q) (by omega)) hm
        simp only at ht1
        have HM1 : Hid (flowS R.s R.B val lv t = (anchorM R.s R.B t1).bind fun x t2 => (val t.nodes.length lv t2).bind fun _ t3 => .ok t.nodes.length { t3 with names := (x, t.nodes.length) :: t3.names }) := by unfold Hid; rw [HM0.out, namedM_anchor, hm]; rfl
        have d11 : w2.cell? ⟨R.b, 11, none⟩ = some (.int .i64 0) := by
          obtain ⟨_, _, _, _, hMx, _⟩ := hG2
          exact hMx.rd.cell rfl
        have HT1 : Hid _ := ht1
        have hk8 : kindAt R.s t1.k = 8 := by rw [HT1.out]; exact H8.out
        have HK8 : Hid _ := hk8
        clear hm HM0 ht1 hk8
        go_wp2_with fail
        refine (ranchor_good hE hG2 HK8.out).mono ?_
        rintro e w3 ⟨x, rfl, hb3, hp3⟩
        have HVL : Hid (Calls Tryz.prog 138 #[.pointer (some ⟨R.b, 0, none⟩), .int .i64 (t.nodes.length : Int), .int .i64 lv] w3 fun e w4 => e = .returned (.tuple #[]) ∧ Below R.base w3 w4 ∧ ∃ K3 k3 an3 er3 pl3 nv3 mv3 rows3 names3, RMem R K3 k3 an3 er3 pl3 nv3 mv3 rows3 names3 w4 ∧ names3.length ≤ 300 ∧
            Hid (NmAfter R ov (fun t3 K3 k3 => K3 = K ∧ k3 = t3.k ∧ InLine R K t3) t t.nodes.length x (flowS R.s R.B val lv t) K3 k3 an3 er3 pl3 rows3 names3)) := by
          have hnl : t.nodes.length ≤ t1.nodes.length := by rw [HT1.out]; simp
          have hnm : t1.names = t.names := by rw [HT1.out]
          have han : t1.anchors = t.anchors := by rw [HT1.out]
          cases hm : anchorM R.s R.B t1 with
          | bad er pl =>
            rw [hm] at hp3
            obtain ⟨l3, k3, nv3, mv3, rows3, names3, hl3, hk3, hM3, hN3⟩ := hp3
            refine (rvalue_err hM3 hN3.1.1 hE.s hl3 (hE.line hl3) hk3 t.nodes.length lv).mono ?_
            rintro e w4 ⟨rfl, hb4, hM4⟩
            have hN := hN3.from hnl hnm han
            exact ⟨rfl, hM3.belowB hb4, K, _, _, er, pl, nv3, mv3, rows3, names3, hM4, hN.len hwf, .inl ⟨er, pl, by rw [HM1.out, hm]; rfl, rfl, rfl, hN⟩⟩
          | ok y t2 =>
            rw [hm] at hp3
            obtain ⟨rfl, hn2, hm2, ha2, hG3⟩ := hp3
            refine (HV.out hlv ov K t2 w3 t.nodes.length hG3 hov2 (by rw [hn2]; exact hbl2)).mono ?_
            rintro e w4 ⟨rfl, hb4, hp4⟩
            refine ⟨rfl, hb4, ?_⟩
            cases hm3 : val t.nodes.length lv t2 with
            | bad er pl =>
              simp only [hm3] at hp4
              obtain ⟨K3, k3, an3, nv3, mv3, rows3, names3, hM4, hN3⟩ := hp4.nm hn2 hm2 ha2
              have hN := hN3.from hnl hnm han
              exact ⟨K3, k3, an3, er, pl, nv3, mv3, rows3, names3, hM4, hN.len hwf, .inl ⟨er, pl, by rw [HM1.out, hm]; simp only [Res.bind_ok]; rw [hm3]; rfl, rfl, rfl, hN⟩⟩
            | ok u t3 =>
              simp only [hm3] at hp4
              obtain ⟨nv3, mv3, rows3, names3, hM4, hS4, hl4⟩ := hp4
              have hl300 : names3.length ≤ 300 := by
                rw [hS4.names]
                have := hS4.wf.names
                have := hS4.wf.anchors
                simp; omega
              exact ⟨K, t3.k, t3.anchors, 0, 0, nv3, mv3, rows3, names3, hM4, hl300, .inr ⟨t3, by rw [HM1.out, hm]; simp only [Res.bind_ok]; rw [hm3]; rfl, rfl, rfl, rfl, ⟨rfl, rfl, hl4⟩, hS4⟩⟩
        have HB3 : Hid (Below R.base w w3) := HB2.out.trans hb3
        clear hp3 hb3 HB2 hG2 hov2 hbl2 d11
        go_wp2_with fail
        refine Calls.mono HVL.out ?_
        rintro e w4 ⟨rfl, hb4, K3, k3, an3, er3, pl3, nv3, mv3, rows3, names3, hM4, hnl, HAF⟩
        have HB4 : Hid (Below R.base w w4) := HB3.out.trans hb4
        obtain ⟨na, ncap, rfl⟩ := hM4.mvIs
        have d9 : w4.cell? ⟨R.b, 9, none⟩ = some (.slice na names3.length ncap) := hM4.rd.cell rfl
        have hbase := hM4.base
        clear HVL HB3 hb4
        go_wp2_with (at_builtin; refine wpList_append_own_at _ rfl _ _ 112 rfl R.base 178 i0 (.agg #[.string ⟨#[]⟩, .int .i64 0]) 2 24 undNames hi0 hz0 hz1 hz2 rfl (by decide) _ _ _ rfl (hM4.names.alloc _) ⟨w4.heap.size, 0, none⟩ 1 1 (nmCells (x, t.nodes.length)) rfl rfl ?c1 ?c2 ?c3 ?c4 ?c5 ?_)
        case c1 => exact cells_new w4 _ _ _ rfl
        case c2 => intro u hu; simp [nmCells] at hu; rcases hu with rfl | rfl <;> rfl
        case c3 => unfold maxLen; omega
        case c4 => omega
        case c5 => simp; omega
        intro v' w5 hown hgrow hnil hloc
        obtain ⟨hg5, hM5, hb5⟩ := hM4.pushName hown hgrow
        obtain ⟨va, vn, vc, rfl⟩ := own_slice hown
        have e9 : w5.cell? ⟨R.b, 9, none⟩ = some (.slice na names3.length ncap) := hg5.cell rfl
        have f9 : w5.frozen? ⟨R.b, 9, none⟩ = false := hg5.free 9
        clear hown hgrow hnil hloc d9 hg5
        go_wp2_with fail
        go_ret
        refine ⟨HB4.out.trans (hM4.belowM hb5), ?_⟩
        rcases HAF.out with ⟨er, pl, hres, rfl, rfl, hN⟩ | ⟨t3, hres, rfl, rfl, rfl, ⟨rfl, rfl, hl4⟩, hS4⟩
        · rw [hres]
          exact ⟨⟨_, rfl⟩, NmBad.name hN hM5⟩
        · have hwf4 := (HFO.out t _ _ hwf h0 hres).1.wf
          rw [hres]
          exact ⟨rfl, nv3, _, rows3, _, hM5, hS4.name hwf4, hl4⟩
    · by_cases hbv : kindAt R.s (skipBl R.s t.k) = 2 ∨ kindAt R.s (skipBl R.s t.k) = 3 ∨ kindAt R.s (skipBl R.s t.k) = 9 ∨ kindAt R.s (skipBl R.s t.k) = 11
      · have HM0 : Hid (flowS R.s R.B val lv t = (beginM R.B lv { t with k := skipBl R.s t.k }).bind fun id t1 => (val id lv t1).bind fun _ t2 => .ok id t2) := by unfold Hid flowS; simp only; rw [if_neg h7, if_neg h8, if_pos hbv]
        have hsf := hstb.2 hbv
        have h42 : nowB R.s t.k l.en ≠ 42 := fun e => h7 (n7.2 e)
        have h38 : nowB R.s t.k l.en ≠ 38 := fun e => h8 (n8.2 e)
        clear hstb n7 n8 hbd h7 h8 hbv
        generalize nowB R.s t.k l.en = c at *
        generalize skipBl R.s t.k = q at *
        go_enter Tryz.func107, Tryz.ntmps107
        go_wp2_with fail
        refine hnow.mono ?_
        rintro e w1 ⟨rfl, h2, hb2⟩
        go_wp2_with fail
        refine (HST.out w1).mono ?_
        rintro e w2 ⟨rfl, hw2⟩
        have hw3 := hw2.symm
        clear hw2
        subst hw3
        have d11 : w1.cell? ⟨R.b, 11, none⟩ = some (.int .i64 0) := h2.rd.cell rfl
        rw [hsf]
        go_wp2_with fail
        refine (rbegin_good hE (HG.out w1 h2) lv).mono ?_
        rintro e w2 ⟨rfl, hb3, hp2⟩
        have HB2 : Hid (Below R.base w w2) := (HMW.out.belowB hb2).trans hb3
        clear hb3 hb2 d11 h2
        cases hm : beginM R.B lv { t with k := q } with
        | bad er pl =>
          rw [hm] at hp2
          have HM : Hid (flowS R.s R.B val lv t = .bad er pl) := by unfold Hid; rw [HM0.out, hm]; rfl
          obtain ⟨he, nv2, mv2, rows2, names2, hM2, hA2, _, _⟩ := hp2
          have HA2 : Hid (RBadAt ov t er t.anchors rows2 names2) := hA2
          clear hm HM0 hA2
          go_wp2_with fail
          refine (rvalue_err hM2 he hE.s HL.out hL hq t.nodes.length lv).mono ?_
          rintro e w3 ⟨rfl, hb3, hM3⟩
          go_wp2_with fail
          go_ret
          rw [HM.out]
          exact ⟨HB2.out.trans (hM2.belowB hb3), ⟨_, rfl⟩, HA2.out.bad hM3⟩
        | ok id t1 =>
          rw [hm] at hp2
          obtain ⟨rfl, hG2, hov2, hbl2⟩ := hp2
          simp only at hG2 hov2 hbl2
          obtain ⟨hlv, _, ht1, _, _, _⟩ := beginM_ok hE.n (hwf.move (k := q) (by omega)) hm
          simp only at ht1
          have HM1 : Hid (flowS R.s R.B val lv t = (val t.nodes.length lv t1).bind fun _ t2 => .ok t.nodes.length t2) := by unfold Hid; rw [HM0.out, hm]; rfl
          have HT1 : Hid _ := ht1
          clear hm HM0 ht1
          go_wp2_with fail
          refine (HV.out hlv ov K t1 w2 t.nodes.length hG2 hov2 hbl2).mono ?_
          rintro e w3 ⟨rfl, hb3, hp3⟩
          cases hm : val t.nodes.length lv t1 with
          | ok u t2 =>
            simp only [hm] at hp3
            have HM : Hid (flowS R.s R.B val lv t = .ok t.nodes.length t2) := by unfold Hid; rw [HM1.out, hm]; rfl
            clear hm
            go_wp2_with fail
            go_ret
            rw [HM.out]
            exact ⟨HB2.out.trans hb3, rfl, hp3⟩
          | bad er pl =>
            simp only [hm] at hp3
            have HM : Hid (flowS R.s R.B val lv t = .bad er pl) := by unfold Hid; rw [HM1.out, hm]; rfl
            clear hm
            go_wp2_with fail
            go_ret
            rw [HM.out]
            exact ⟨HB2.out.trans hb3, ⟨_, rfl⟩, hp3.from (by rw [HT1.out]; simp) (by rw [HT1.out]; simp only; omega)⟩
      · have HM : Hid (flowS R.s R.B val lv t = .bad 3 (skipBl R.s t.k)) := by unfold Hid flowS; simp only; rw [if_neg h7, if_neg h8, if_neg hbv]
        have hsf : startsB (nowB R.s t.k l.en) = false := by
          cases hb : startsB (nowB R.s t.k l.en) with
          | false => rfl
          | true => exact absurd (hstb.1 hb) hbv
        have h42 : (nowB R.s t.k l.en != 42) = true := bne_iff_ne.2 (fun e => h7 (n7.2 e))
        have h38 : (nowB R.s t.k l.en != 38) = true := bne_iff_ne.2 (fun e => h8 (n8.2 e))
        clear hstb n7 n8 hbd h7 h8 hbv
        generalize nowB R.s t.k l.en = c at *
        generalize skipBl R.s t.k = q at *
        go_enter Tryz.func107, Tryz.ntmps107
        go_wp2_with fail
        refine hnow.mono ?_
        rintro e w1 ⟨rfl, h2, hb2⟩
        have d3 : w1.cell? ⟨R.b, 3, none⟩ = some (.int .i64 (q : Int)) := h2.rd.cell rfl
        go_wp2_with fail
        refine (HST.out w1).mono ?_
        rintro e w2 ⟨rfl, hw2⟩
        have hw3 := hw2.symm
        clear hw2
        subst hw3
        rw [hsf]
        go_wp2_with fail
        refine (rwrong_any h2 3 q).mono ?_
        rintro e w3 ⟨rfl, h3, hb3⟩
        have d11 : w3.cell? ⟨R.b, 11, none⟩ = some (.int .i64 3) := h3.rd.cell rfl
        go_wp2_with fail
        go_ret
        rw [HM.out]
        exact ⟨HMW.out.belowB (hb2.trans hb3 (by simp)), ⟨0, rfl⟩, HS.out.bad h3 (by simp)⟩

/-- A flow, with as many levels to come as there may be. -/
theorem rflow_any {R : REnv} (hE : REnvOk R) (f : Nat) : ∀ lv : Int, 0 ≤ lv → lv ≤ 50 → R.B.depth < lv + f → RFlowSaid R lv (flowM R.s R.B f lv) := by
  have hD := hE.d
  induction f with
  | zero =>
    intro lv h0 h1 hf
    exact rflowS_any hE lv h0 (by omega) _ (fun hlv => absurd hlv (by omega)) (fun id t t' u _ _ _ hlv _ => absurd hlv (by omega)) (flowM_ok hD hE.n hE.a 0 lv)
  | succ f ih =>
    intro lv h0 h1 hf
    refine rflowS_any hE lv h0 (by omega) _ (fun hlv => ?_) (fun id => valueS_ok hD (flowM_ok hD hE.n hE.a f)) (flowM_ok hD hE.n hE.a (f + 1) lv)
    intro ov K t w id h hov hbl
    exact rvalue_any hE h id hov hbl lv h0 hlv (flowM R.s R.B f) (ih (lv + 1) (by omega) (by omega) (by push_cast at hf; omega)) (flowM_ok hD hE.n hE.a f (lv + 1))

theorem rvalueM_any {R : REnv} (hE : REnvOk R) (lv : Int) (h0 : 0 ≤ lv) (h1 : lv ≤ 49) (hlv : lv ≤ R.B.depth) : RValueSaid R lv (fun id => valueM R.s R.B 21 id lv) := by
  have hD := hE.d
  intro ov K t w id h hov hbl
  exact rvalue_any hE h id hov hbl lv h0 hlv (flowM R.s R.B 21) (rflow_any hE 21 (lv + 1) (by omega) (by omega) (by omega)) (flowM_ok hD hE.n hE.a 21 (lv + 1))

end Go.Proofs.YtkflkmmbakccoaaGreatDoor

/- WALKS: package grafterref: block, with an error told; where the next line is at hand. -/
namespace Go.Proofs.YtkflkmmbakccoaaGreatDoor
open Go.RowKit Go.Maps

/-- The next line is at hand, or there is none: what the Reader's line and place are. -/
def AtG (R : REnv) (t : PS) (K k : Nat) : Prop := (k = t.k ∧ ∃ l, R.L[K]? = some l ∧ t.ind = l.ind ∧ t.k = l.at') ∨ (t.k = R.s.size ∧ R.L.length ≤ K)

theorem RGoodE.mk {R : REnv} {ov : Over} {t : PS} {K k : Nat} {nv mv : Value} {rows : List RRow} {names : List (ByteArray × Nat)} {w : World} (hM : RMem R K k t.anchors 0 0 nv mv rows names w) (hS : RSt R.s ov t rows names t.anchors) (h : AtG R t K k) : RGoodE R ov t w := by
  rcases h with ⟨rfl, hl⟩ | ⟨h1, h2⟩
  · exact .inl ⟨K, nv, mv, rows, names, hM, hS, hl⟩
  · exact .inr ⟨h1, K, k, nv, mv, rows, names, h2, hM, hS⟩

theorem RGoodE.out {R : REnv} {ov : Over} {t : PS} {w : World} (h : RGoodE R ov t w) : ∃ K k nv mv rows names, RMem R K k t.anchors 0 0 nv mv rows names w ∧ RSt R.s ov t rows names t.anchors ∧ AtG R t K k := by
  rcases h with ⟨K, nv, mv, rows, names, hM, hS, hl⟩ | ⟨h1, K, k, nv, mv, rows, names, h2, hM, hS⟩
  · exact ⟨K, t.k, nv, mv, rows, names, hM, hS, .inl ⟨rfl, hl⟩⟩
  · exact ⟨K, k, nv, mv, rows, names, hM, hS, .inr ⟨h1, h2⟩⟩

/-- What a method that answers a node's place and goes to the next line leaves. -/
def RPostNE (R : REnv) (ov : Over) (t : PS) (w : World) (r : Res Nat) (e : Ending) (w' : World) : Prop :=
  Below R.base w w' ∧ match r with
  | .ok id t' => e = .returned (.int .i64 (id : Int)) ∧ RGoodE R ov t' w'
  | .bad er pl => (∃ i : Nat, e = .returned (.int .i64 (i : Int))) ∧ RBad R ov t er pl w'

/-- A way to read a block that has begun, as a call of grafterref. -/
def RBlockSaid (R : REnv) (d : Nat) (blk : Nat → PS → Res Unit) : Prop :=
  ∀ ov K t w (id : Nat) (iv lv : Int), iv = 2 * (d : Int) → lv = (d : Int) + 1 → RAtLine R ov K t w → ov id = none → t.nodes[id]? = some NodeV.blank → Calls Tryz.prog 106 #[.pointer (some ⟨R.b, 0, none⟩), .int .i64 (id : Int), .int .i64 iv, .int .i64 lv] w fun e w' => RPostE R ov t w (blk id t) e w'

/-- One cell of a node's row: its kind's byte. -/
theorem RMem.setKb {R : REnv} {K k an er pl nb cap : Nat} {mv : Value} {rows : List RRow} {names : List (ByteArray × Nat)} {w : World} (h : RMem R K k an er pl (.slice (some ⟨nb, 0, none⟩) rows.length cap) mv rows names w) {i : Nat} (hi : i < rows.length) (kb kd : Nat) :
    RMem R K k an er pl (.slice (some ⟨nb, 0, none⟩) rows.length cap) mv (rows.set i ⟨kb, { (rows[i]).n with kind := kd }, (rows[i]).kv, (rows[i]).pv⟩) names (w.setCell ⟨nb, i * 6, none⟩ (.int .u8 (kb : Int))) := by
  have := h.setNode (i := i) (j := 0) (r := ⟨kb, { (rows[i]).n with kind := kd }, (rows[i]).kv, (rows[i]).pv⟩) (v := .int .u8 (kb : Int)) hi (by omega) rfl (fun p hp hne => by
    match p, hp with
    | 0, _ => exact absurd rfl hne
    | 1, _ => rfl
    | 2, _ => rfl
    | 3, _ => rfl
    | 4, _ => rfl
    | 5, _ => rfl) rfl rfl rfl rfl
  rwa [Nat.add_zero] at this

/-- A node's row: the cell of its kind's byte. -/
theorem RMem.kbCell {R : REnv} {K k an er pl nb cap : Nat} {mv : Value} {rows : List RRow} {names : List (ByteArray × Nat)} {w : World} (h : RMem R K k an er pl (.slice (some ⟨nb, 0, none⟩) rows.length cap) mv rows names w) {i : Nat} (hi : i < rows.length) :
    w.cell? ⟨nb, i * 6, none⟩ = some (.int .u8 ((rows[i]).kb : Int)) ∧ w.frozen? ⟨nb, i * 6, none⟩ = false := by
  obtain ⟨nb', cap', e, _, hcn⟩ := h.node i hi
  obtain ⟨rfl, rfl⟩ : nb = nb' ∧ cap = cap' := by simpa using e
  have := hcn 0 (by omega)
  simpa [RRow.cells] using this

theorem RMem.belowKb {R : REnv} {K k an er pl nb cap : Nat} {mv : Value} {rows : List RRow} {names : List (ByteArray × Nat)} {w : World} (h : RMem R K k an er pl (.slice (some ⟨nb, 0, none⟩) rows.length cap) mv rows names w) (i : Nat) (v : Value) : Below R.base w (w.setCell ⟨nb, i, none⟩ v) :=
  h.belowN (S := []) (by simp) ((But.refl [nb] w).setCell (p := ⟨nb, i, none⟩) (by simp) v)

set_option maxRecDepth 20000 in
set_option maxHeartbeats 1000000 in
/-- With an error told, a block's node gets a kind, and no more. -/
theorem rblock_err {R : REnv} {K k an er pl : Nat} {nv mv : Value} {rows : List RRow} {names : List (ByteArray × Nat)} {w : World} (h : RMem R K k an er pl nv mv rows names w) (he : er ≠ 0) (hk : k < R.s.size) (id : Nat) (hi : id < rows.length) (iv lv : Int) :
    Calls Tryz.prog 106 #[.pointer (some ⟨R.b, 0, none⟩), .int .i64 (id : Int), .int .i64 iv, .int .i64 lv] w fun e w' => e = .returned (.tuple #[]) ∧ Below R.base w w' ∧ ∃ r', RMem R K k an er pl nv mv (rows.set id r') names w' := by
  obtain ⟨nb, cap, rfl, hcap, _⟩ := h.node id hi
  have c8 : w.cell? ⟨R.b, 8, none⟩ = some (.slice (some ⟨nb, 0, none⟩) rows.length cap) := h.rd.cell rfl
  obtain ⟨i0, f0⟩ := h.kbCell hi
  have h1 := h.setKb hi 109 2
  have HB1 : Hid (Below R.base w _) := h.belowKb (id * 6) (.int .u8 109)
  go_enter Tryz.func106, Tryz.ntmps106
  go_upto_region 1 with fail
  refine name_world fun W hW => ?_
  have h1' : RMem R K k an er pl (.slice (some ⟨nb, 0, none⟩) rows.length cap) mv (rows.set id ⟨109, { (rows[id]).n with kind := 2 }, (rows[id]).kv, (rows[id]).pv⟩) names W := by rw [hW.out]; exact h1
  have HB2 : Hid (Below R.base w W) := by unfold Hid; rw [hW.out]; exact HB1.out
  clear h1 HB1 hW c8 i0 f0
  have d0 : W.cell? ⟨R.b, 0, none⟩ = some (.string R.s) := h1'.rd.cell rfl
  have d3 : W.cell? ⟨R.b, 3, none⟩ = some (.int .i64 (k : Int)) := h1'.rd.cell rfl
  by_cases hb : R.s[k].toNat = 45
  · go_quiet (fail)
    have h2 := h1'.still ((But.refl [] W).drewN nq)
    have HB3 : Hid (Below R.base w (W.drewN nq)) := HB2.out.trans (h1'.belowB ((But.refl [R.b] W).drewN nq))
    generalize W.drewN nq = W2 at *
    have hlen : rows.length = (rows.set id ⟨109, { (rows[id]).n with kind := 2 }, (rows[id]).kv, (rows[id]).pv⟩).length := by simp
    rw [hlen] at h2
    have hi2 : id < (rows.set id ⟨109, { (rows[id]).n with kind := 2 }, (rows[id]).kv, (rows[id]).pv⟩).length := by rw [← hlen]; exact hi
    have e8 : W2.cell? ⟨R.b, 8, none⟩ = some (.slice (some ⟨nb, 0, none⟩) (rows.set id ⟨109, { (rows[id]).n with kind := 2 }, (rows[id]).kv, (rows[id]).pv⟩).length cap) := h2.rd.cell rfl
    obtain ⟨j0, g0⟩ := h2.kbCell hi2
    have h3 := h2.setKb hi2 108 1
    rw [List.set_set, ← hlen] at h3
    rw [← hlen] at e8
    have HB4 : Hid (Below R.base w _) := HB3.out.trans (h2.belowKb (id * 6) (.int .u8 108))
    clear hlen
    go_upto_region 3 with fail
    refine name_world fun W3 hW => ?_
    rw [← hW.out] at HB4
    have h3' : ∃ r', RMem R K k an er pl (.slice (some ⟨nb, 0, none⟩) rows.length cap) mv (rows.set id r') names W3 := by rw [hW.out]; exact ⟨_, h3⟩
    clear h3 h2 hW e8 j0 g0
    obtain ⟨r', h3'⟩ := h3'
    go_loopg [8, 9] 1 (fun _ _ _ wr => RMem R K k an er pl (.slice (some ⟨nb, 0, none⟩) rows.length cap) mv (rows.set id r') names wr ∧ Below R.base w wr)
    case atStart => exact ⟨h3', HB4.out⟩
    case round =>
      obtain ⟨h4, hb4⟩ := hrel
      have g11 : wr.cell? ⟨R.b, 11, none⟩ = some (.int .i64 (er : Int)) := h4.rd.cell rfl
      go_wp2_with fail
      go_end0
      exact ⟨rfl, hb4, r', h4⟩
  · go_quiet (fail)
    have h2 := h1'.still ((But.refl [] W).drewN nq)
    have HB3 : Hid (Below R.base w (W.drewN nq)) := HB2.out.trans (h1'.belowB ((But.refl [R.b] W).drewN nq))
    generalize W.drewN nq = W2 at *
    go_wp2_with fail
    go_loopg [8, 9] 1 (fun _ _ _ wr => RMem R K k an er pl (.slice (some ⟨nb, 0, none⟩) rows.length cap) mv (rows.set id ⟨109, { (rows[id]).n with kind := 2 }, (rows[id]).kv, (rows[id]).pv⟩) names wr ∧ Below R.base w wr)
    case atStart => exact ⟨h2, HB3.out⟩
    case round =>
      obtain ⟨h4, hb4⟩ := hrel
      have g11 : wr.cell? ⟨R.b, 11, none⟩ = some (.int .i64 (er : Int)) := h4.rd.cell rfl
      go_wp2_with fail
      go_end0
      exact ⟨rfl, hb4, _, h4⟩

end Go.Proofs.YtkflkmmbakccoaaGreatDoor
