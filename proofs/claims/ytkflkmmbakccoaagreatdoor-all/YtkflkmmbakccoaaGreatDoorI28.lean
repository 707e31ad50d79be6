/- PARTS: R25. -/
import Derived.Test.YtkflkmmbakccoaaGreatDoorI26

/- WALKS: package grafterref: pairs. -/
namespace Go.Proofs.YtkflkmmbakccoaaGreatDoor
open Go.RowKit Go.Maps

/-- Does a text begin with a key, and a colon? -/
def pairsM (s : ByteArray) (q : Nat) : Bool :=
  if kindAt s q = 2 ∨ kindAt s q = 3 then (rdAny s q).2.1 && decide (kindAt s (skipBl s (rdAny s q).2.2) = 5) else false

theorem aheadM_pairs (s : ByteArray) (k : Nat) (hsk : skipBl s k = k) : aheadM s k = (pairsM s k || decide (kindAt s k = 4)) := by
  unfold aheadM pairsM
  simp only [hsk]
  by_cases h4 : kindAt s k = 4
  · rw [if_pos h4]; simp [h4]
  · rw [if_neg h4]
    by_cases h23 : kindAt s k = 2 ∨ kindAt s k = 3
    · rw [if_pos h23]; simp [h4]
    · rw [if_neg h23]; simp [h4]

/-- The Reader that looks ahead. -/
def ahead (R : REnv) (p : Nat) : REnv := ⟨R.s, ⟨0, 0, 0, 0⟩, p, R.base, R.lv, R.L⟩

theorem RMem.ahead {R : REnv} {K k an er pl : Nat} {nv mv : Value} {rows : List RRow} {names : List (ByteArray × Nat)} {w w' : World} {p q : Nat} (h : RMem R K k an er pl nv mv rows names w) (hb : But [] w w') (hp : Blk w' p (rcells (ahead R p) 0 q (.slice none 0 0) (.slice none 0 0) 0 0 0) 114) (hbp : R.base ≤ p) : RMem (Go.Proofs.YtkflkmmbakccoaaGreatDoor.ahead R p) 0 q 0 0 0 (.slice none 0 0) (.slice none 0 0) [] [] w' :=
  ⟨hp, (h.still hb).lines, ⟨rfl, .inl ⟨rfl, rfl⟩⟩, (fun r hr => by cases hr), ⟨rfl, .inl ⟨rfl, rfl⟩⟩, (fun i j r q x hi => by simp at hi), (h.still hb).base, hbp⟩

set_option maxRecDepth 20000 in
set_option maxHeartbeats 4000000 in
theorem rpairs_any {R : REnv} (hE : REnvOk R) {k an er pl : Nat} {nv mv : Value} {rows : List RRow} {names : List (ByteArray × Nat)} {w : World} (hM : RMem R 0 k an er pl nv mv rows names w) {l : LineV} (hl : R.L[0]? = some l) (hk : k = l.at') :
    Calls Tryz.prog 104 #[.pointer (some ⟨R.b, 0, none⟩)] w fun e w' => e = .returned (.bool (pairsM R.s k)) ∧ But [] w w' := by
  have hL := hE.line hl
  have ha := hL.at'
  have hen := hL.en
  have hsz := hE.s
  have hlt : k < R.s.size := by omega
  have hsk : skipBl R.s k = k := by rw [hk]; exact hE.nb hl
  have hkd : kindAt R.s k = kindB (R.s[k].toNat : Int) := by rw [kindAt, if_pos hlt, byteAt_lt R.s k hlt]
  have n2 : kindAt R.s k = 2 ↔ isWB (R.s[k].toNat : Int) = true := by rw [hkd, kindB_2]
  have n3 : kindAt R.s k = 3 ↔ (R.s[k].toNat : Int) = 34 := by rw [hkd, kindB_3]
  have hr := rdAny_en (q := k) hL (by omega)
  have HL : Hid _ := hl
  have HMW : Hid _ := hM
  have hcb : 0 ≤ (R.s[k].toNat : Int) ∧ (R.s[k].toNat : Int) ≤ 255 := by
    have := R.s[k].toNat_lt
    omega
  have d0 : w.cell? ⟨R.b, 0, none⟩ = some (.string R.s) := hM.rd.cell rfl
  have d1 : w.cell? ⟨R.b, 1, none⟩ = some R.lv := hM.rd.cell rfl
  have d3 : w.cell? ⟨R.b, 3, none⟩ = some (.int .i64 (k : Int)) := hM.rd.cell rfl
  obtain ⟨la, lcap, hlve, hlc⟩ := own_shape hM.lines
  rw [hlve] at d1
  have HLVE : Hid _ := hlve
  have HSK : Hid _ := hsk
  have HK : Hid _ := hk
  clear hl hkd hsk hk hlve hM
  go_enter Tryz.func104, Tryz.ntmps104
  go_upto_region 1 with fail
  go_quiet (fail)
  have hb1 : But [] w (w.drewN nq) := (But.refl [] w).drewN nq
  have hM1 := HMW.out.still hb1
  generalize w.drewN nq = W at *
  generalize (R.s[k].toNat : Int) = c at *
  have e0 : W.cell? ⟨R.b, 0, none⟩ = some (.string R.s) := hM1.rd.cell rfl
  have e1 : W.cell? ⟨R.b, 1, none⟩ = some R.lv := hM1.rd.cell rfl
  rw [HLVE.out] at e1
  have e3 : W.cell? ⟨R.b, 3, none⟩ = some (.int .i64 (k : Int)) := hM1.rd.cell rfl
  clear d0 d1 d3
  by_cases h23 : kindAt R.s k = 2 ∨ kindAt R.s k = 3
  · have HM : Hid (pairsM R.s k = ((rdAny R.s k).2.1 && decide (kindAt R.s (skipBl R.s (rdAny R.s k).2.2) = 5))) := by unfold Hid pairsM; rw [if_pos h23]
    have hcc : isWB c = true ∨ c = 34 := h23.imp n2.1 n3.1
    have HCC : Hid _ := hcc
    clear n2 n3 h23 hcc
    go_upto_region 3 with (go_at_call 109; refine (letter_any _ _).mono ?_; rintro e w' ⟨rfl, hww⟩; have hww2 := hww.symm; clear hww; subst hww2)
    go_cut [24] from 19 to 23 (fun v wc => v = .bool false ∧ wc = W)
    case first =>
      by_cases hw : isWB c = true
      · go_wp2_with fail
        go_meet
        case rel => exact ⟨rfl, rfl⟩
      · have hw' : isWB c = false := by simpa using hw
        have h34 : c = 34 := HCC.out.resolve_left hw
        have hb34 : (c != 34) = false := by simp [h34]
        clear h34
        go_wp2_with fail
        go_meet
        case rel => exact ⟨rfl, rfl⟩
    case rest =>
      obtain ⟨rfl, hwc⟩ := hcut
      have hwc2 := hwc.symm
      clear hwc
      subst hwc2
      go_upto_region 5 with fail
      go_region
      obtain ⟨W2, HW2⟩ : ∃ W2, Hid (W2 = (W.alloc (.cells #[.string R.s, .slice la R.L.length lcap, .int .i64 0, .int .i64 (k : Int), .int .i64 0, .int .i64 0, .int .i64 0, .int .i64 0, .slice none 0 0, .slice none 0 0, .int .i64 0, .int .i64 0, .int .i64 0] 114)).drew) := ⟨_, (rfl : (W.alloc (.cells #[.string R.s, .slice la R.L.length lcap, .int .i64 0, .int .i64 (k : Int), .int .i64 0, .int .i64 0, .int .i64 0, .int .i64 0, .slice none 0 0, .slice none 0 0, .int .i64 0, .int .i64 0, .int .i64 0] 114)).drew = (W.alloc (.cells #[.string R.s, .slice la R.L.length lcap, .int .i64 0, .int .i64 (k : Int), .int .i64 0, .int .i64 0, .int .i64 0, .int .i64 0, .slice none 0 0, .slice none 0 0, .int .i64 0, .int .i64 0, .int .i64 0] 114)).drew)⟩
      have hb2 : But [] w W2 := by rw [HW2.out]; exact (hb1.alloc _).drew
      have hB2 : Blk W2 W.heap.size (rcells (ahead R W.heap.size) 0 k (.slice none 0 0) (.slice none 0 0) 0 0 0) 114 := by rw [HW2.out]; unfold rcells ahead; simp only; rw [HLVE.out]; exact (blk_new W _ _).drew
      have hP := HMW.out.ahead (p := W.heap.size) hb2 hB2 hM1.base
      rw [HW2.out] at hP
      rw [HW2.out] at hb2
      clear hB2 e0 e1 e3 HW2
      have hsc := rscalarM_any (l := l) hP hE.s HL.out hL (by have := HK.out; omega) (by have := HK.out; omega)
      have hske : skipBl (ahead R W.heap.size).s k = k := HSK.out
      rw [hske] at hsc
      have HSC : Hid _ := hsc
      clear hsc hske hP
      go_wp2_with fail
      refine Calls.mono HSC.out ?_
      rintro e w3 ⟨x, rfl, hb3, hp⟩
      have HB3 : Hid (But [] w w3) := hb2.trans hb3 (fun y hy => by have := List.mem_singleton.1 hy; subst this; exact .inr hb1.size)
      obtain ⟨er0, pl0, h3, HE0⟩ : ∃ er0 pl0, RMem (ahead R W.heap.size) 0 (rdAny R.s k).2.2 0 er0 pl0 (.slice none 0 0) (.slice none 0 0) [] [] w3 ∧ Hid (er0 = if (rdAny R.s k).2.1 = true then 0 else 3) := by
        unfold RWord at hp
        by_cases hok : (rdAny R.s k).2.1 = true
        · have hok' : (rdAny (ahead R W.heap.size).s k).2.1 = true := hok
          rw [if_pos hok'] at hp
          exact ⟨0, 0, hp.2, by unfold Hid; rw [if_pos hok]⟩
        · have hok' : ¬ (rdAny (ahead R W.heap.size).s k).2.1 = true := hok
          rw [if_neg hok'] at hp
          exact ⟨3, _, hp, by unfold Hid; rw [if_neg hok]⟩
      have hnow := rnow_any h3 hE.s HL.out hL hr.2
      have n5 := nowB_kind (k := (rdAny R.s k).2.2) (κ := 5) hL hr.2 (by decide) (by decide) (by decide)
      rw [(kindB_tab _).2.2.1] at n5
      have HN5 : Hid _ := n5
      have HNOW : Hid _ := hnow
      clear hp hb3 HSC n5 hnow h3 hb2
      go_wp2_with fail
      refine Calls.mono HNOW.out ?_
      rintro e w4 ⟨rfl, h4, hb4⟩
      have HB4 : Hid (But [] w w4) := HB3.out.trans hb4 (fun y hy => by have := List.mem_singleton.1 hy; subst this; exact .inr hb1.size)
      have d11 : w4.cell? ⟨W.heap.size, 11, none⟩ = some (.int .i64 (er0 : Int)) := h4.rd.cell rfl
      have HN5' : Hid (kindAt R.s (skipBl R.s (rdAny R.s k).2.2) = 5 ↔ nowB (ahead R W.heap.size).s (rdAny R.s k).2.2 l.en = 58) := HN5.out
      clear HNOW HN5 h4
      generalize nowB (ahead R W.heap.size).s (rdAny R.s k).2.2 l.en = c5 at *
      by_cases hok : (rdAny R.s k).2.1 = true
      · have he0 : er0 = 0 := by rw [HE0.out, if_pos hok]
        subst he0
        by_cases h58 : c5 = 58
        · have HR : Hid (pairsM R.s k = true) := by unfold Hid; rw [HM.out, hok, decide_eq_true (HN5'.out.2 h58)]; rfl
          subst h58
          go_wp2_with fail
          go_ret
          exact ⟨ret_bool HR.out.symm, HB4.out⟩
        · have HR : Hid (pairsM R.s k = false) := by unfold Hid; rw [HM.out, hok, decide_eq_false (fun hc => h58 (HN5'.out.1 hc))]; rfl
          have hb5 : (c5 == 58) = false := by simp [h58]
          go_wp2_with fail
          go_ret
          exact ⟨ret_bool HR.out.symm, HB4.out⟩
      · have he0 : er0 = 3 := by rw [HE0.out, if_neg hok]
        have HR : Hid (pairsM R.s k = false) := by unfold Hid; rw [HM.out, (Bool.not_eq_true _).mp hok]; rfl
        subst he0
        go_wp2_with fail
        go_ret
        exact ⟨ret_bool HR.out.symm, HB4.out⟩
  · have HR : Hid (pairsM R.s k = false) := by unfold Hid pairsM; rw [if_neg h23]
    have hw : isWB c = false := by
      cases hb : isWB c with
      | false => rfl
      | true => exact absurd (.inl (n2.2 hb)) h23
    have h34 : (c != 34) = true := bne_iff_ne.2 (fun e => h23 (.inr (n3.2 e)))
    clear n2 n3 h23
    go_wp2_with (go_at_call 109; refine (letter_any _ _).mono ?_; rintro e w' ⟨rfl, hww⟩; have hww2 := hww.symm; clear hww; subst hww2)
    go_ret
    exact ⟨ret_bool HR.out.symm, hb1⟩

end Go.Proofs.YtkflkmmbakccoaaGreatDoor
