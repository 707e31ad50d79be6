/- PARTS: R14. -/
import Derived.Test.YtkflkmmbakccoaaGreatDoorI20
import Derived.Test.YtkflkmmbakccoaaGreatDoorI5

/- WALKS: package grafterref: key. -/
namespace Go.Proofs.YtkflkmmbakccoaaGreatDoor
open Go.RowKit Go.Maps

/-- What a method that reads a key leaves. -/
def RPostK (R : REnv) (ov : Over) (K i kb : Nat) (n : NodeV) (t : PS) (w : World) (r : Res (List ByteArray)) (e : Ending) (w' : World) : Prop :=
  e = .returned (.tuple #[]) ∧ Below R.base w w' ∧ match r with
  | .ok ks t' => RGood R (ov.put i (kb, { n with keys := ks })) K t' w'
  | .bad er pl => RBad R ov t er pl w'

/-- What is wrong with a key that stands there already. -/
def twE (keys : List ByteArray) (x : ByteArray) (er pl at' : Nat) : Nat × Nat := if keys.any (fun y => decide (y = x)) = true then wrE er pl 8 at' else (er, pl)

theorem twE_err (keys : List ByteArray) (x : ByteArray) (er pl at' : Nat) (h : er ≠ 0) : twE keys x er pl at' = (er, pl) := by
  unfold twE wrE
  rw [if_neg h]
  split <;> rfl

theorem twE_step_ne (keys : List ByteArray) (x : ByteArray) (j : Nat) (hj : j < keys.length) (h : keys[j] ≠ x) (er pl at' : Nat) : twE (keys.take (j + 1)) x er pl at' = twE (keys.take j) x er pl at' := by
  unfold twE
  rw [List.take_succ_eq_append_getElem hj, List.any_append]
  have : [keys[j]].any (fun y => decide (y = x)) = false := by simp [h]
  rw [this, Bool.or_false]

theorem twE_step_eq (keys : List ByteArray) (x : ByteArray) (j : Nat) (hj : j < keys.length) (h : keys[j] = x) (er pl at' : Nat) : twE (keys.take (j + 1)) x er pl at' = wrE er pl 8 at' := by
  unfold twE
  rw [List.take_succ_eq_append_getElem hj, if_pos (by simp [h])]

/-- Once it is told, it stays. -/
theorem twE_stop (keys : List ByteArray) (x : ByteArray) (j : Nat) (er pl at' : Nat) (h : (twE (keys.take j) x er pl at').1 ≠ 0) : twE keys x er pl at' = twE (keys.take j) x er pl at' := by
  by_cases he : er = 0
  · subst he
    unfold twE at *
    by_cases ha : (keys.take j).any (fun y => decide (y = x)) = true
    · rw [if_pos ha, if_pos]
      rw [List.any_eq_true] at ha ⊢
      obtain ⟨y, hy, h2⟩ := ha
      exact ⟨y, List.mem_of_mem_take hy, h2⟩
    · rw [if_neg ha] at h
      exact absurd rfl h
  · rw [twE_err _ _ _ _ _ he, twE_err _ _ _ _ _ he]

theorem keyM_rd (s : ByteArray) (keys : List ByteArray) (t : PS) (h : kindAt s (skipBl s t.k) = 2 ∨ kindAt s (skipBl s t.k) = 3) :
    keyM s keys t = if (rdAny s (skipBl s t.k)).2.1 = true then (if keys.any (fun y => decide (y = (rdAny s (skipBl s t.k)).1)) = true then .bad 8 (skipBl s t.k) else if kindAt s (skipBl s (rdAny s (skipBl s t.k)).2.2) = 5 then .ok (keys ++ [(rdAny s (skipBl s t.k)).1]) { t with k := skipBl s (rdAny s (skipBl s t.k)).2.2 + 1 } else .bad 3 (skipBl s (rdAny s (skipBl s t.k)).2.2)) else .bad 3 (rdAny s (skipBl s t.k)).2.2 := by
  unfold keyM
  rw [if_pos h]
  unfold readM
  simp only [skipBl_idem]
  split
  · simp only [Res.bind_ok]
    split
    · rfl
    · unfold expectM
      simp only
      split
      · rfl
      · rfl
  · rfl

theorem rdAny_en {s : ByteArray} {q : Nat} {l : LineV} (hL : LineOk s l) (hq : q ≤ l.en) : q ≤ (rdAny s q).2.2 ∧ (rdAny s q).2.2 ≤ l.en := by
  unfold rdAny
  split
  · rename_i h3
    obtain ⟨hlt, hb⟩ := (kindAt_3 hq hL.en hL.nl).1 h3
    have h1 := qEnd_ge s (q + 1)
    have h2 := qEnd_en s (q + 1) l.en hlt hL.en hL.nl
    unfold rdStr
    split
    · simp only; omega
    · split
      · rename_i hq34
        have : qEnd s (q + 1) ≠ l.en := fun e => by
          rw [e] at hq34
          by_cases hz : l.en < s.size
          · rw [hL.nl hz] at hq34; omega
          · rw [byteAt_ge s _ hz] at hq34; omega
        simp only; omega
      · simp only; omega
  · exact rdWord_en s q l.en hq hL.en hL.nl

theorem nowB_lt (s : ByteArray) (k en : Nat) (h : nowB s k en ≠ 0) : skipBl s k < en := by
  unfold nowB at h
  split at h
  · assumption
  · exact absurd rfl h

def KeyGo (bv : Bool) (j len er : Nat) : Prop := bv = true ↔ (j < len ∧ er = 0)

set_option maxRecDepth 20000 in
set_option maxHeartbeats 4000000 in
theorem rkey_any {R : REnv} (hE : REnvOk R) {ov : Over} {K i kb : Nat} {n : NodeV} {t : PS} {w : World} (h : RGood R (ov.put i (kb, n)) K t w) (hov : ov i = none) (hkl : n.keys.length ≤ t.k) :
    Calls Tryz.prog 132 #[.pointer (some ⟨R.b, 0, none⟩), .int .i64 (i : Int)] w fun e w' => RPostK R ov K i kb n t w (keyM R.s n.keys t) e w' := by
  obtain ⟨i0, hi0, hz0, hz1, hz2⟩ := info_parts infoStr
  obtain ⟨nv, mv, rows, names, hM, hS, l, hl, hind, hat, hen⟩ := h
  have hL := hE.line hl
  obtain ⟨hi, hkb, hn⟩ := hS.rowAt
  simp only at hkb hn
  have hq := skipBl_en R.s t.k l.en hen hL.en hL.nl
  have hq0 := skipBl_ge R.s t.k
  have hsz := hE.s
  have hes := hL.en
  have hnow := rnow_any hM hE.s hl hL hen
  have hbd := nowB_bd R.s t.k l.en hes
  have n2 := nowB_kind (κ := 2) hL hen (by decide) (by decide) (by decide)
  have n3 := nowB_kind (κ := 3) hL hen (by decide) (by decide) (by decide)
  rw [kindB_2] at n2
  rw [kindB_3] at n3
  have HMW : Hid _ := hM
  have HS : Hid _ := hS
  have HL : Hid _ := hl
  have HI : Hid _ := hind
  have HN : Hid _ := hn
  have HKB : Hid _ := hkb
  clear hS hl hind hn hkb
  by_cases hk : kindAt R.s (skipBl R.s t.k) = 2 ∨ kindAt R.s (skipBl R.s t.k) = 3
  · have HM := keyM_rd R.s n.keys t hk
    have hr := rdAny_en (q := skipBl R.s t.k) hL hq
    have hkc : isWB (nowB R.s t.k l.en) = true ∨ nowB R.s t.k l.en = 34 := hk.imp n2.1 n3.1
    have hsc := fun (W : World) (hW : RMem R K (skipBl R.s t.k) t.anchors 0 0 nv mv rows names W) => rscalarM_any hW hE.s HL.out hL (by omega) hq
    simp only [skipBl_idem] at hsc
    have HM' : Hid _ := HM
    have HSC : Hid _ := hsc
    clear HM n2 n3 hk hsc
    generalize nowB R.s t.k l.en = c at *
    generalize rdAny R.s (skipBl R.s t.k) = rr at *
    generalize skipBl R.s t.k = q at *
    go_enter Tryz.func132, Tryz.ntmps132
    go_wp2_with fail
    refine hnow.mono ?_
    rintro e w1 ⟨rfl, h1, hb1⟩
    have d3 : w1.cell? ⟨R.b, 3, none⟩ = some (.int .i64 (q : Int)) := h1.rd.cell rfl
    go_upto_region 3 with (go_at_call 109; refine (letter_any _ _).mono ?_; rintro e w' ⟨rfl, hww⟩; have hww2 := hww.symm; clear hww; subst hww2)
    go_cut [23] from 18 to 22 (fun v wc => v = .bool false ∧ wc = w1)
    case first =>
      by_cases hw : isWB c = true
      · go_wp2_with fail
        go_meet
        case rel => exact ⟨rfl, rfl⟩
      · have hw' : isWB c = false := by simpa using hw
        have h34 : c = 34 := hkc.resolve_left hw
        subst h34
        go_wp2_with fail
        go_meet
        case rel => exact ⟨rfl, rfl⟩
    case rest =>
      obtain ⟨rfl, hwc⟩ := hcut
      subst hwc
      go_wp2_with fail
      refine (HSC.out _ h1).mono ?_
      rintro e w2 ⟨x, rfl, hb2, hp⟩
      obtain ⟨er0, pl0, h2, HX, HE0, HE1⟩ : ∃ er0 pl0, RMem R K rr.2.2 t.anchors er0 pl0 nv mv rows names w2 ∧ Hid (rr.2.1 = true → x = rr.1) ∧ Hid (rr.2.1 = true → er0 = 0 ∧ pl0 = 0) ∧ Hid (¬ rr.2.1 = true → er0 = 3 ∧ pl0 = rr.2.2) := by
        unfold RWord at hp
        by_cases hok : rr.2.1 = true
        · rw [if_pos hok] at hp
          exact ⟨0, 0, hp.2, fun _ => hp.1, fun _ => ⟨rfl, rfl⟩, fun hc => absurd hok hc⟩
        · rw [if_neg hok] at hp
          exact ⟨3, rr.2.2, hp, fun hc => absurd hc hok, fun hc => absurd hc hok, fun _ => ⟨rfl, rfl⟩⟩
      have hbw2 := hb1.trans hb2 (by simp)
      clear hp hb1 hb2 h1 d3
      obtain ⟨nb, cap, rfl, hcap, hcn⟩ := h2.node i hi
      obtain ⟨ka, kcap, hkv, hkc2⟩ := own_shape (h2.ok _ (List.getElem_mem hi)).1
      obtain ⟨ro, HRO⟩ : ∃ ro, Hid (ro = rows[i]) := ⟨rows[i], (rfl : rows[i] = rows[i])⟩
      have HCN : Hid _ := hcn
      clear hcn
      rw [← HRO.out] at hkv hkc2 HN HKB HCN
      obtain ⟨rkb, rn, rkv, rpv⟩ := ro
      have hrn : rn = n := HN.out
      have hrk : rkb = kb := HKB.out
      subst hrn hrk
      simp only at hkv hkc2
      subst hkv
      clear HN HKB HCN HSC
      have HQ : Hid _ := hq
      go_wp2_with fail
      go_loopg [8] (rn.keys.length + 1) (fun gk iv wr => ∃ j er1 pl1 : Nat, gk = rn.keys.length + 1 - j ∧ j ≤ rn.keys.length ∧ iv = .int .i64 (j : Int) ∧ RMem R K rr.2.2 t.anchors er1 pl1 (.slice (some ⟨nb, 0, none⟩) rows.length cap) mv rows names wr ∧ But [R.b] w wr ∧ (er1, pl1) = twE (rn.keys.take j) x er0 pl0 q)
      case atStart => exact ⟨0, er0, pl0, rfl, Nat.zero_le _, rfl, h2, hbw2, by simp [twE]⟩
      case round =>
        obtain ⟨j, er1, pl1, rfl, hj, rfl, hMr, hbr, htw⟩ := hrel
        have HT : Hid _ := htw
        clear htw h2 hbw2
        have d8 : wr.cell? ⟨R.b, 8, none⟩ = some (.slice (some ⟨nb, 0, none⟩) rows.length cap) := hMr.rd.cell rfl
        have d11 : wr.cell? ⟨R.b, 11, none⟩ = some (.int .i64 (er1 : Int)) := hMr.rd.cell rfl
        obtain ⟨nb', cap', e, _, hcn⟩ := hMr.node i hi
        obtain ⟨rfl, rfl⟩ : nb = nb' ∧ cap = cap' := by simpa using e
        rw [← HRO.out] at hcn
        have i2 := (hcn 2 (by omega)).1
        have f2 := (hcn 2 (by omega)).2
        simp only [RRow.cells, List.getElem?_cons_succ, List.getElem?_cons_zero] at i2
        clear hcn e
        go_upto_region 7 with fail
        go_cut [46] from 29 to 64 (fun v wc => ∃ bv : Bool, v = .bool bv ∧ KeyGo bv j rn.keys.length er1 ∧ wc = wr)
        case first =>
          by_cases hlt : j < rn.keys.length
          · by_cases he : er1 = 0
            · subst he
              go_wp2_with fail
              go_meet
              case rel => exact ⟨_, rfl, by unfold KeyGo; simp [hlt], rfl⟩
            · go_wp2_with fail
              go_meet
              case rel => exact ⟨_, rfl, by unfold KeyGo; simp [he], rfl⟩
          · go_wp2_with fail
            go_meet
            case rel => exact ⟨_, rfl, by unfold KeyGo; simp [hlt], rfl⟩
        case rest =>
          obtain ⟨bv, rfl, HB, hwc⟩ := hcut
          have hwc2 := hwc.symm
          clear hwc
          subst hwc2
          cases bv with
          | true =>
            obtain ⟨hlt, rfl⟩ := HB.1 rfl
            have he00 : er0 = 0 := by
              by_cases he : er0 = 0
              · exact he
              · have := HT.out
                rw [twE_err _ _ _ _ _ he] at this
                cases this
                exact absurd rfl he
            subst he00
            have hok := (hMr.ok _ (List.getElem_mem hi)).1
            rw [← HRO.out] at hok
            simp only at hok
            obtain ⟨kbk, kc', e, _, _, hcell⟩ := ownsStr_cell hok (by omega)
            obtain ⟨rfl, rfl⟩ : ka = some ⟨kbk, 0, none⟩ ∧ kcap = kc' := by simpa using e
            have hcj := hcell j hlt
            clear hcell e hok
            by_cases hx' : rn.keys[j] = x
            · have hxx : (rn.keys[j].toList == x.toList) = true := by rw [hx']; simp
              have HT2 : Hid _ := twE_step_eq rn.keys x j hlt hx' 0 pl0 q
              generalize rn.keys[j] = kj at *
              go_wp2_with fail
              refine (rwrong_any hMr 8 q).mono ?_
              rintro e w3 ⟨rfl, h3, hb3⟩
              go_wp2_with fail
              go_roundg (rn.keys.length + 1 - (j + 1))
              case measure => omega
              case rel => exact ⟨j + 1, _, _, rfl, by omega, by go_num, h3, hbr.trans hb3 (by simp), by rw [HT2.out]; rfl⟩
            · have hxx : (rn.keys[j].toList == x.toList) = false := beq_eq_false_iff_ne.2 (fun e => hx' (bytes_toList e))
              have HT2 : Hid _ := twE_step_ne rn.keys x j hlt hx' 0 pl0 q
              generalize rn.keys[j] = kj at *
              go_wp2_with fail
              go_roundg (rn.keys.length + 1 - (j + 1))
              case measure => omega
              case rel => exact ⟨j + 1, _, _, rfl, by omega, by go_num, hMr, hbr, by rw [HT2.out]; exact HT.out⟩
          | false =>
            have HT2 : Hid ((er1, pl1) = twE rn.keys x er0 pl0 q) := by
              unfold Hid
              by_cases hlt : j < rn.keys.length
              · have he : er1 ≠ 0 := fun e => by
                  have := HB.2 ⟨hlt, e⟩
                  cases this
                rw [twE_stop rn.keys x j er0 pl0 q (by rw [← HT.out]; exact he)]
                exact HT.out
              · rw [HT.out, List.take_of_length_le (by omega)]
            clear HT HB
            have hMd : RMem R K rr.2.2 t.anchors er1 pl1 (.slice (some ⟨nb, 0, none⟩) rows.length cap) mv rows names wr.drew := hMr.still (But.refl [] wr).drew
            have hRW : (rows[i]).n.keys = rn.keys := by rw [← HRO.out]
            have hRW2 : (rows[i]).kv = .slice ka rn.keys.length kcap := by rw [← HRO.out]
            have HOWN : Hid ((wr.drew.alloc (.cells #[.string x] 9)).ownsRow R.base 9 1 (.slice ka rn.keys.length kcap) rn.keys.length (rn.keys.map Value.string)) := by
              have := (hMd.ok _ (List.getElem_mem hi)).1.alloc (.cells #[.string x] 9)
              rw [hRW, hRW2] at this
              exact this
            have HC1 : Hid (∀ (j : Nat) (u : Value), [Value.string x][j]? = some u → (wr.drew.alloc (.cells #[.string x] 9)).cell? ((⟨wr.heap.size, 0, none⟩ : Addr).add j) = some u) := cells_new wr.drew _ _ _ rfl
            have HBS : Hid (R.base ≤ (wr.drew.alloc (.cells #[.string x] 9)).heap.size) := by
              have := hMd.base
              show R.base ≤ _
              simp at this ⊢
              omega
            have hB1 : But [] wr (wr.alloc (.cells #[.string x] 9)) := (But.refl [] wr).alloc _
            have hM1 := hMr.still hB1
            have e8 : (wr.alloc (.cells #[.string x] 9)).cell? ⟨R.b, 8, none⟩ = some (.slice (some ⟨nb, 0, none⟩) rows.length cap) := hM1.rd.cell rfl
            obtain ⟨nb', cap', e, _, hcn⟩ := hM1.node i hi
            obtain ⟨rfl, rfl⟩ : nb = nb' ∧ cap = cap' := by simpa using e
            rw [← HRO.out] at hcn
            have j2 := (hcn 2 (by omega)).1
            simp only [RRow.cells, List.getElem?_cons_succ, List.getElem?_cons_zero] at j2
            clear hcn e hM1 hB1
            have HBR : Hid _ := hbr
            have HMR : Hid _ := hMr
            have HMD : Hid _ := hMd
            have hlen : rn.keys.length ≤ 1000 := by omega
            clear hbr hMr hMd
            go_upto_region 11 with fail
            go_cut [] from 65 to 82 (fun wc => ∃ v', RMem R K rr.2.2 t.anchors er1 pl1 (.slice (some ⟨nb, 0, none⟩) rows.length cap) mv (rows.set i ⟨(rows[i]).kb, { (rows[i]).n with keys := (rows[i]).n.keys ++ [x] }, v', (rows[i]).pv⟩) names wc ∧ Below R.base w wc)
            case first =>
              go_region_law ((refine step_append_own rfl (.tmp 77) (.tmp 79) 46 rfl R.base 9 i0 (.string ⟨#[]⟩) 1 16 undStrs hi0 hz0 hz1 hz2 rfl (by decide) (.slice ka rn.keys.length kcap) rn.keys.length (rn.keys.map Value.string) (by simp [Act.eval]) HOWN.out ⟨wr.heap.size, 0, none⟩ 1 1 [.string x] (by simp [Act.eval]) rfl HC1.out (fun u hu => by simp at hu; subst hu; rfl) (by unfold maxLen; omega) (by omega) HBS.out ?_; intro v' w' hown hgrow hloc; obtain ⟨hg1, ⟨ncs, hN1, hN2⟩, hb5, hM5⟩ := HMD.out.pushKey hi (v' := v') (w1 := w') (x := x) (o := .cells #[.string x] 9) (by rw [hRW]; exact hown) (by rw [hRW2]; exact hgrow) (by rw [hRW2]; exact hloc); obtain ⟨va, vn, vc, rfl⟩ := own_slice hown; have g8 : w'.cell? ⟨R.b, 8, none⟩ = some (.slice (some ⟨nb, 0, none⟩) rows.length cap) := hg1.cell rfl; have g2 := hN1.cell (i := i * 6 + 2) (Array.getElem?_eq_getElem (by omega)); have gf := hN1.free (i * 6 + 2); clear hown hgrow hloc))
              all_goals
                go_wp2_with fail
                go_meet
                case rel => exact ⟨_, hM5, (HMW.out.belowB HBR.out.drew).trans (HMD.out.belowK hi hb5)⟩
            case rest =>
              obtain ⟨v', hM5, hbel⟩ := hcut
              have hnow2 := rnow_any hM5 hE.s HL.out hL hr.2
              have hq3 := skipBl_en R.s rr.2.2 l.en hr.2 hL.en hL.nl
              have n5 := nowB_kind (k := rr.2.2) (κ := 5) hL hr.2 (by decide) (by decide) (by decide)
              rw [(kindB_tab _).2.2.1] at n5
              have HN5 : Hid _ := n5
              have hlt3 := nowB_lt R.s rr.2.2 l.en
              have hge3 := skipBl_ge R.s rr.2.2
              have HLT3 : Hid _ := hlt3
              clear n5 hlt3
              generalize nowB R.s rr.2.2 l.en = c2 at *
              generalize skipBl R.s rr.2.2 = q3 at *
              have HBEL : Hid _ := hbel
              clear hbel e8 j2 d8 d11 i2 f2
              by_cases h58 : c2 = 58
              · subst h58
                have hq3lt := HLT3.out (by decide)
                go_wp2_with fail
                refine hnow2.mono ?_
                rintro e w6 ⟨rfl, h6, hb6⟩
                have d3 : w6.cell? ⟨R.b, 3, none⟩ = some (.int .i64 (q3 : Int)) := h6.rd.cell rfl
                have f3 := h6.rd.free 3
                have h7 := h6.step
                have hb7 : But [R.b] w6 _ := (But.refl [R.b] w6).setCell (p := ⟨R.b, 3, none⟩) (by simp) (.int .i64 ((q3 : Int) + 1))
                go_wp2_with fail
                go_end0
                refine ⟨rfl, HBEL.out.trans (hM5.belowB (hb6.trans hb7 (by simp))), ?_⟩
                rw [HM'.out]
                by_cases hok : rr.2.1 = true
                · rw [if_pos hok]
                  obtain ⟨rfl, rfl⟩ := HE0.out hok
                  have hx := HX.out hok
                  have ht := HT2.out
                  rw [hx] at ht
                  by_cases ha : rn.keys.any (fun y => decide (y = rr.1)) = true
                  · rw [if_pos ha]
                    unfold twE at ht
                    rw [if_pos ha] at ht
                    cases ht
                    exact HS.out.badSet hov h7 (by decide)
                  · rw [if_neg ha, if_pos (HN5.out.2 (by trivial))]
                    unfold twE at ht
                    rw [if_neg ha] at ht
                    cases ht
                    exact ⟨_, mv, _, names, h7, (HS.out.reopen (by rw [← HRO.out]) (by rw [← HRO.out, hx])).move (by omega), l, HL.out, HI.out, by simp only; omega, by simp only; omega⟩
                · rw [if_neg hok]
                  obtain ⟨rfl, rfl⟩ := HE1.out hok
                  have ht := HT2.out
                  rw [twE_err _ _ _ _ _ (by decide)] at ht
                  cases ht
                  exact HS.out.badSet hov h7 (by decide)
              · go_wp2_with fail
                refine hnow2.mono ?_
                rintro e w6 ⟨rfl, h6, hb6⟩
                have d3 : w6.cell? ⟨R.b, 3, none⟩ = some (.int .i64 (q3 : Int)) := h6.rd.cell rfl
                go_wp2_with fail
                refine (rwrong_any h6 3 q3).mono ?_
                rintro e w7 ⟨rfl, h7, hb7⟩
                go_wp2_with fail
                go_end0
                refine ⟨rfl, HBEL.out.trans (hM5.belowB (hb6.trans hb7 (by simp))), ?_⟩
                rw [HM'.out]
                by_cases hok : rr.2.1 = true
                · rw [if_pos hok]
                  obtain ⟨rfl, rfl⟩ := HE0.out hok
                  have hx := HX.out hok
                  have ht := HT2.out
                  rw [hx] at ht
                  by_cases ha : rn.keys.any (fun y => decide (y = rr.1)) = true
                  · rw [if_pos ha]
                    unfold twE at ht
                    rw [if_pos ha] at ht
                    cases ht
                    exact HS.out.badSet hov h7 (by decide)
                  · rw [if_neg ha, if_neg (fun hc => h58 (HN5.out.1 hc))]
                    unfold twE at ht
                    rw [if_neg ha] at ht
                    cases ht
                    exact HS.out.badSet hov h7 (by decide)
                · rw [if_neg hok]
                  obtain ⟨rfl, rfl⟩ := HE1.out hok
                  have ht := HT2.out
                  rw [twE_err _ _ _ _ _ (by decide)] at ht
                  cases ht
                  exact HS.out.badSet hov h7 (by decide)
  · have HM : Hid (keyM R.s n.keys t = .bad 3 (skipBl R.s t.k)) := by unfold Hid keyM; rw [if_neg hk]
    have hw : isWB (nowB R.s t.k l.en) = false := by
      cases hb : isWB (nowB R.s t.k l.en) with
      | false => rfl
      | true => exact absurd (.inl (n2.2 hb)) hk
    have h34 : nowB R.s t.k l.en ≠ 34 := fun e => hk (.inr (n3.2 e))
    clear n2 n3 hk
    generalize nowB R.s t.k l.en = c at *
    generalize skipBl R.s t.k = q at *
    go_enter Tryz.func132, Tryz.ntmps132
    go_wp2_with fail
    refine hnow.mono ?_
    rintro e w1 ⟨rfl, h1, hb1⟩
    have d3 : w1.cell? ⟨R.b, 3, none⟩ = some (.int .i64 (q : Int)) := h1.rd.cell rfl
    go_wp2_with (go_at_call 109; refine (letter_any _ _).mono ?_; rintro e w' ⟨rfl, hww⟩; have hww2 := hww.symm; clear hww; subst hww2)
    refine (rwrong_any h1 3 q).mono ?_
    rintro e w2 ⟨rfl, h2, hb2⟩
    go_wp2_with fail
    go_end0
    refine ⟨rfl, HMW.out.belowB (hb1.trans hb2 (by simp)), ?_⟩
    rw [HM.out]
    exact (HS.out.bad h2 (by simp [wrE])).drop hov

end Go.Proofs.YtkflkmmbakccoaaGreatDoor
