/- PARTS: B8, Mod10, B9, B10, B11. -/
import Derived.Test.YtkflkmmbakccoaaGreatDoorJ23
import Derived.Test.YtkflkmmbakccoaaGreatDoorJ16
import Derived.Maps.Ext

/- WALKS: package graph: come, as tell calls it. -/
namespace Go.Proofs.YtkflkmmbakccoaaGreatDoor
open Go.RowKit Go.Maps

set_option maxRecDepth 20000 in
set_option maxHeartbeats 4000000 in
theorem come_tell  (X : WEnv) (bx : Nat) (an : Nat) (nv : Value) (rows : List Row) (base : Nat) (hNwr : X.N ≤ X.wr) (hW : Whole (rows.map Row.n)) (ag : List Nat) (val : Nat → Nat) (hval : ∀ x, val x = rankOf ag x) (f : Nat) :
    ∀ (id : Nat) (pl : PlaceV) (met met' : List Nat) (st st' : List UInt8) (fp : List Nat) (w : World), comeS (rows.map Row.n) (tFirst (rows.map Row.n) ag) (tAgain (rows.map Row.n) ag) (tFin (rows.map Row.n)) f id pl (met, st) = some (met', st') → id < rows.length → PlOk (rows.map Row.n) pl → met.Nodup → (∀ x ∈ met, x < rows.length) →
      Bs X an nv rows base w → (VT X bx ag val) st fp w → WkOk X met w → C0 X fp w →
      Calls Tryz.prog 94 #[.pointer (some ⟨X.wk, 0, none⟩), .int .i64 (id : Int), plV pl, .agg #[.func (.func 67) #[] #[.pointer (some ⟨bx, 0, none⟩)], .func (.func 72) #[] #[.pointer (some ⟨bx, 0, none⟩)], .func (.func 73) #[wpt X] #[]]] w fun e w' => e = .returned (.tuple #[]) ∧ CPost (VT X bx ag val) X fp w met' st' w' := by
  induction f with
  | zero => intro id pl met met' st st' fp w h; cases h
  | succ f ih =>
    intro id pl met met' st st' fp w hS hid hpl hnd hlt hBs hV hWk h0
    have IH : Hid _ := ih
    clear ih
    have hlen := hW.len
    have hlen' : rows.length ≤ 500 := by simpa using hlen
    have hml := nodup_lt_length rows.length met hnd hlt
    have hFr : VFrame (VT X bx ag val) := VT.frame X bx ag val
    have hBb : ∀ w w', Bs X an nv rows base w → Below X.N w w' → Bs X an nv rows base w' := fun w w' h hb => h.below hb
    obtain ⟨pa, pb, hpv⟩ := plV_agg pl
    -- the two boxes
    obtain ⟨W0, HW0⟩ : ∃ W0, Hid (W0 = (w.alloc (.cells #[.int .i64 pa, .int .i64 pb] 124)).alloc (.cells #[.func (.func 67) #[] #[.pointer (some ⟨bx, 0, none⟩)], .func (.func 72) #[] #[.pointer (some ⟨bx, 0, none⟩)], .func (.func 73) #[wpt X] #[]] 127)) := ⟨_, (rfl : (w.alloc (.cells #[.int .i64 pa, .int .i64 pb] 124)).alloc (.cells #[.func (.func 67) #[] #[.pointer (some ⟨bx, 0, none⟩)], .func (.func 72) #[] #[.pointer (some ⟨bx, 0, none⟩)], .func (.func 73) #[wpt X] #[]] 127) = (w.alloc (.cells #[.int .i64 pa, .int .i64 pb] 124)).alloc (.cells #[.func (.func 67) #[] #[.pointer (some ⟨bx, 0, none⟩)], .func (.func 72) #[] #[.pointer (some ⟨bx, 0, none⟩)], .func (.func 73) #[wpt X] #[]] 127))⟩
    have hb0 : But [] w W0 := by rw [HW0.out]; exact (alloc_but _ _).alloc _
    have hs0 : W0.heap.size = w.heap.size + 2 := by rw [HW0.out]; simp
    have HZ0 : Hid _ := hs0
    have hPB : Blk W0 w.heap.size #[.int .i64 pa, .int .i64 pb] 124 := by rw [HW0.out]; exact (alloc_but _ _).blk (blk_new _ _ _) (by simp)
    have hSB : Blk W0 (w.heap.size + 1) #[.func (.func 67) #[] #[.pointer (some ⟨bx, 0, none⟩)], .func (.func 72) #[] #[.pointer (some ⟨bx, 0, none⟩)], .func (.func 73) #[wpt X] #[]] 127 := by
      rw [HW0.out]
      have := blk_new (w.alloc (.cells #[.int .i64 pa, .int .i64 pb] 124)) #[.func (.func 67) #[] #[.pointer (some ⟨bx, 0, none⟩)], .func (.func 72) #[] #[.pointer (some ⟨bx, 0, none⟩)], .func (.func 73) #[wpt X] #[]] 127
      simpa using this
    have h00 : C0 X fp W0 := ⟨Nat.le_trans h0.N hb0.size, fun x hx => ⟨(h0.fp x hx).1, Nat.lt_of_lt_of_le (h0.fp x hx).2 hb0.size⟩, h0.wk, h0.m, Nat.lt_of_lt_of_le h0.wkl hb0.size, Nat.lt_of_lt_of_le h0.ml hb0.size, h0.Nm⟩
    have hC0 : CS (VT X bx ag val) X (Bs X an nv rows base) fp W0 met st fp W0 := ⟨hBs.below (hb0.below h0.N (by simp)), hFr _ _ _ _ _ hV hb0 (by simp), hWk.but hb0 (by simp) (by simp), But.refl _ _, fun x hx => .inl hx⟩
    have hpbn : w.heap.size ≠ X.m ∧ w.heap.size ∉ fp := ⟨by have := h0.ml; omega, fun hx => by have := (h0.fp _ hx).2; omega⟩
    have hsbn : w.heap.size + 1 ≠ X.m ∧ w.heap.size + 1 ∉ fp := ⟨by have := h0.ml; omega, fun hx => by have := (h0.fp _ hx).2; omega⟩
    have HPBN : Hid _ := hpbn
    have HSBN : Hid _ := hsbn
    have k1 : W0.cell? ⟨X.wk, 1, none⟩ = some (.map (some X.m)) := hC0.wk.1.cell rfl
    have hlk := hC0.wk.look (id := id) (by omega)
    have HC0 : Hid _ := hC0
    have H00 : Hid _ := h00
    have HB0 : Hid _ := hb0
    clear hs0 hpbn hsbn hC0 hb0 hV hWk h0 hBs h00
    rw [hpv]
    go_enter Tryz.func94, Tryz.ntmps94
    go_upto_region 1 with fail
    rw [← HW0.out]
    unfold comeS at hS
    by_cases hm : id ∈ met
    · have hd : decide (id ∈ met) = true := by simpa using hm
      simp only [hm, if_true] at hS
      obtain ⟨s1, hS1, hS2⟩ := Option.map_eq_some_iff.1 hS
      simp only [Prod.mk.injEq] at hS2
      obtain ⟨rfl, rfl⟩ := hS2
      rw [hd] at hlk
      have hp0 := hPB.cell (i := 0) rfl
      have hp1 := hPB.cell (i := 1) rfl
      have hq1 := hSB.cell (i := 1) rfl
      -- the empty block that the blank takes
      have hbE : But [] W0 (W0.alloc (.cells #[] 167)) := alloc_but _ _
      have hCE := HC0.out.still H00.out hBb hFr hbE
      have HCL : Hid _ := tell2_any X bx ag val hval an nv rows base hNwr hW id hid pl hpl st s1 hS1 fp _ hCE.base hCE.v
      rw [hpv] at HCL
      have hp0' := (hbE.blk hPB (by simp)).cell (i := 0) rfl
      have hp1' := (hbE.blk hPB (by simp)).cell (i := 1) rfl
      have hq1' := (hbE.blk hSB (by simp)).cell (i := 1) rfl
      clear hd hS hS1
      go_wp2_with fail
      refine Calls.mono HCL.out ?_
      rintro e w1 ⟨rfl, fp1, hv1, hb1, ho1⟩
      have hC1 := hCE.step H00.out hBb hv1 hb1 ho1
      go_wp2_with fail
      exact bodyPost_ret (v := .tuple #[]) (by simp [results, Tryz.results94, go_sem]) rfl ⟨rfl, hC1.post HB0.out⟩
    · have hd : decide (id ∈ met) = false := by simpa using hm
      simp only [hm, if_false] at hS
      obtain ⟨s1, hS1, hS2⟩ := Option.bind_eq_some_iff.1 hS
      obtain ⟨r, hS3, hS4⟩ := Option.bind_eq_some_iff.1 hS2
      obtain ⟨s2, hS5, hS6⟩ := Option.map_eq_some_iff.1 hS4
      simp only [Prod.mk.injEq] at hS6
      obtain ⟨rfl, rfl⟩ := hS6
      rw [hd] at hlk
      have hnodeOk := hW.node (i := id) (by simpa using hid)
      have hpt : ∀ p ∈ (nodeAt (rows.map Row.n) id).parts, p < (rows.map Row.n).length ∧ highOf (rows.map Row.n) p < highOf (rows.map Row.n) id := fun p hp => hW.part (by simpa using hid) hp
      rw [nodeAt_rows rows id hid] at hS3 hnodeOk hpt
      have hpl5 := hnodeOk.len
      have HS1 : Hid _ := hS1
      have HS3 : Hid _ := hS3
      have HS5 : Hid _ := hS5
      have HPT : Hid _ := hpt
      obtain ⟨hwB, D, hown, hhas⟩ := HC0.out.wk
      have HHAS : Hid _ := hhas
      have HWB : Hid _ := hwB
      have hmm : met.length < 500 := by
        have := nodup_lt_length rows.length (id :: met) (List.nodup_cons.2 ⟨hm, hnd⟩) (fun x hx => by
          rcases List.mem_cons.1 hx with rfl | hx
          · exact hid
          · exact hlt x hx)
        simp at this
        omega
      have hbE : But [] W0 (W0.alloc (.cells #[] 167)) := alloc_but _ _
      have hCE := HC0.out.still H00.out hBb hFr hbE
      have HCE : Hid _ := hCE
      have hne := hCE.wk.ne
      have k1' : (W0.alloc (.cells #[] 167)).cell? ⟨X.wk, 1, none⟩ = some (.map (some X.m)) := hCE.wk.1.cell rfl
      have hND : Hid ((id :: met).Nodup ∧ ∀ x ∈ id :: met, x < rows.length) := ⟨List.nodup_cons.2 ⟨hm, hnd⟩, fun x hx => by
        rcases List.mem_cons.1 hx with rfl | hx
        · exact hid
        · exact hlt x hx⟩
      clear hd hS hS1 hS2 hS3 hS4 hS5 hhas hwB hCE hpt hnd hlt
      go_wp2_with (at_mapUpdate; refine wpList_mapUpdate_own _ rfl _ _ _ 119 rfl 3 167 lawI Tryz.underlying119 unitElem X.m met.length D rfl (hown.alloc _) (by unfold maxLen; omega) _ _ _ rfl rfl (keyI (by omega)) (.agg []) [] unitElem_mk ?_)
      intro w1 hown1 hgrow1
      obtain ⟨hWk1, hbm1⟩ := WkOk.meet (hbE.blk HWB.out (by simp)) hne hown.isMap HHAS.out hown1 hgrow1
      have hC1 := HCE.out.meet H00.out hBb hFr hWk1 hbm1
      have HC1 : Hid _ := hC1
      have hPB1 := hC1.blk H00.out hPB HPBN.out.1 HPBN.out.2
      have hSB1 := hC1.blk H00.out hSB HSBN.out.1 HSBN.out.2
      have hp0 := hPB1.cell (i := 0) rfl
      have hp1 := hPB1.cell (i := 1) rfl
      have hq0 := hSB1.cell (i := 0) rfl
      have HCL : Hid _ := tell1_any X bx ag val hval an nv rows base hNwr hW id hid pl hpl st s1 HS1.out fp w1 hC1.base hC1.v
      rw [hpv] at HCL
      clear hC1 hown hown1 hgrow1 hWk1 hbm1 hlk k1 k1'
      go_wp2_with fail
      refine Calls.mono HCL.out ?_
      rintro e w2 ⟨rfl, fp2, hv2, hb2, ho2⟩
      have hC2 := HC1.out.step H00.out hBb hv2 hb2 ho2
      have HC2 : Hid _ := hC2
      obtain ⟨nb, cap, hnv, hcap, hcn⟩ := hC2.base.gi.node id hid
      have HNV : Hid _ := hnv
      have k0 : w2.cell? ⟨X.wk, 0, none⟩ = some (.pointer (some ⟨X.g, 0, none⟩)) := hC2.wk.1.cell rfl
      have g0 : w2.cell? ⟨X.g, 0, none⟩ = some (.slice (some ⟨nb, 0, none⟩) rows.length cap) := by have := hC2.base.gi.gr.cell (i := 0) rfl; rw [hnv] at this; exact this
      have d3 := hcn 3 (by omega)
      simp only [Row.cells, List.getElem?_cons_succ, List.getElem?_cons_zero] at d3
      obtain ⟨pad, pcap, hpvv, hpc⟩ := own_shape (hC2.base.gi.each rows[id] (List.getElem_mem hid)).2
      rw [hpvv] at d3
      have HPVV : Hid _ := hpvv
      clear hcn hnv hpvv HCL HC1 hPB1 hSB1 hp0 hp1 hq0 hv2 hb2 ho2 hC2
      go_wp2_with fail
      clear k0 g0 d3
      go_loopw [50] (fun i wr => ∃ (k : Nat) (mk : List Nat) (sk : List UInt8) (fk : List Nat), k ≤ (rows[id]).n.parts.length ∧ i = .int .i64 (k : Int) ∧ mk.Nodup ∧ (∀ x ∈ mk, x < rows.length) ∧ partsGo (comeS (rows.map Row.n) (tFirst (rows.map Row.n) ag) (tAgain (rows.map Row.n) ag) (tFin (rows.map Row.n)) f) id ((rows[id]).n.parts.drop k) k (mk, sk) = some r ∧ CS (VT X bx ag val) X (Bs X an nv rows base) fp W0 mk sk fk wr) (fun i _ => (rows[id]).n.parts.length - (intOf i).toNat)
      case atStart => exact ⟨0, _, _, _, Nat.zero_le _, rfl, hND.out.1, hND.out.2, by simpa using HS3.out, HC2.out⟩
      case round =>
        obtain ⟨k, mk, sk, fk, hk, rfl, hmn, hmlt, hpg, hCk⟩ := hrel
        have HPG : Hid _ := hpg
        have HCK : Hid _ := hCk
        have hSBk := hCk.blk H00.out hSB HSBN.out.1 HSBN.out.2
        have q0 := hSBk.cell (i := 0) rfl
        have q1 := hSBk.cell (i := 1) rfl
        have q2 := hSBk.cell (i := 2) rfl
        clear hpg
        by_cases hkl : k < (rows[id]).n.parts.length
        · obtain ⟨st1, hg1, hg2⟩ := partsGo_cons _ id _ k hkl _ _ HPG.out
          obtain ⟨m1, s1'⟩ := st1
          have HG2 : Hid _ := hg2
          have hx := HPT.out _ (List.getElem_mem hkl)
          have hx' : (rows[id]).n.parts[k] < rows.length := by simpa using hx.1
          obtain ⟨pbk, cap', e2, _, _, hcell⟩ := ownsInt_cell (n := (rows[id]).n.parts.length) (l := (rows[id]).n.parts) (hCk.base.gi.each rows[id] (List.getElem_mem hid)).2 (by omega)
          rw [HPVV.out] at e2
          obtain ⟨rfl, rfl⟩ : pad = some ⟨pbk, 0, none⟩ ∧ pcap = cap' := by simpa using e2
          have hck := hcell k hkl
          have hkpl : PlOk (rows.map Row.n) (some (id, k)) := fun p i e => by
            cases e
            exact ⟨by simpa using hid, by rw [nodeAt_rows rows id hid]; exact hkl⟩
          have hC0k : C0 X fk wr := ⟨Nat.le_trans H00.out.N hCk.but.size, fun x hx => ⟨(hCk.no H00.out).2.2 x hx, VT.lt hCk.v x hx⟩, (hCk.no H00.out).1, (hCk.no H00.out).2.1, hCk.wk.lt.1, hCk.wk.lt.2, H00.out.Nm⟩
          have HRC : Hid _ := IH.out (rows[id]).n.parts[k] (some (id, k)) mk m1 sk s1' fk wr hg1 hx' hkpl hmn hmlt hCk.base hCk.v hCk.wk hC0k
          have hmet1 : Hid (m1.Nodup ∧ ∀ x ∈ m1, x < rows.length) := by
            have q := come_met hW _ _ _ f _ _ _ _ _ _ hg1 (by simpa using hx') hmn (by simpa using hmlt)
            exact ⟨q.1, by simpa using q.2⟩
          generalize (rows[id]).n.parts[k] = x at *
          clear hcell e2 hx hg1 hg2 hCk hC0k hSBk hmn hmlt
          go_wp2_with fail
          refine Calls.mono HRC.out ?_
          rintro e w3 ⟨rfl, hp3⟩
          obtain ⟨fp3, hC3⟩ := HCK.out.come H00.out hBb hp3
          go_wp2_with fail
          go_roundw
          case rel => exact ⟨k + 1, m1, s1', fp3, by omega, by go_num, hmet1.out.1, hmet1.out.2, HG2.out, hC3⟩
          case measure => simp [intOf]; omega
        · have hfin := partsGo_end _ id _ k hkl _ _ HPG.out
          have hS5 := HS5.out
          rw [← hfin] at hS5
          have HS5' : Hid _ := hS5
          have HFIN : Hid _ := hfin
          have HCL : Hid _ := tell3_any X bx ag val an nv rows base hW id hid sk s2 HS5'.out fk wr hCk.base hCk.v
          clear hS5 hfin hCk hmn hmlt
          go_wp2_with fail
          refine Calls.mono HCL.out ?_
          rintro e w3 ⟨rfl, fp3, hv3, hb3, ho3⟩
          have hC3 := HCK.out.step H00.out hBb hv3 hb3 ho3
          go_wp2_with fail
          go_end0
          refine ⟨rfl, ?_⟩
          rw [← HFIN.out]
          exact hC3.post HB0.out

set_option maxRecDepth 20000 in
set_option maxHeartbeats 1000000 in
/-- Walk: what was met is forgotten first. -/
theorem walk_tell (X : WEnv) (bx : Nat) (an : Nat) (nv : Value) (rows : List Row) (base : Nat) (hNwr : X.N ≤ X.wr) (hW : Whole (rows.map Row.n)) (ag : List Nat) (val : Nat → Nat) (hval : ∀ x, val x = rankOf ag x)
    (k : Nat) (hk : k < rows.length) (met met' : List Nat) (st st' : List UInt8) (hS : comeS (rows.map Row.n) (tFirst (rows.map Row.n) ag) (tAgain (rows.map Row.n) ag) (tFin (rows.map Row.n)) 101 k none ([], st) = some (met', st')) (fp : List Nat) (w : World) (hBs : Bs X an nv rows base w) (hV : (VT X bx ag val) st fp w) (hWk : WkOk X met w) (h0 : C0 X fp w) :
    Calls Tryz.prog 61 #[.pointer (some ⟨X.wk, 0, none⟩), .int .i64 (k : Int), .agg #[.func (.func 67) #[] #[.pointer (some ⟨bx, 0, none⟩)], .func (.func 72) #[] #[.pointer (some ⟨bx, 0, none⟩)], .func (.func 73) #[wpt X] #[]]] w fun e w' => e = .returned (.tuple #[]) ∧ CPost (VT X bx ag val) X fp w met' st' w' := by
  have hFr : VFrame (VT X bx ag val) := VT.frame X bx ag val
  have hbA : But [] w (w.alloc (.cells #[.func (.func 67) #[] #[.pointer (some ⟨bx, 0, none⟩)], .func (.func 72) #[] #[.pointer (some ⟨bx, 0, none⟩)], .func (.func 73) #[wpt X] #[]] 127)) := alloc_but _ _
  have hSB : Blk (w.alloc (.cells #[.func (.func 67) #[] #[.pointer (some ⟨bx, 0, none⟩)], .func (.func 72) #[] #[.pointer (some ⟨bx, 0, none⟩)], .func (.func 73) #[wpt X] #[]] 127)) w.heap.size #[.func (.func 67) #[] #[.pointer (some ⟨bx, 0, none⟩)], .func (.func 72) #[] #[.pointer (some ⟨bx, 0, none⟩)], .func (.func 73) #[wpt X] #[]] 127 := blk_new _ _ _
  obtain ⟨hwB, D, hown, hhas⟩ := hWk.but hbA (by simp) (by simp)
  have hne : X.wk ≠ X.m := hWk.ne
  obtain ⟨w1, hcl, hown1, hb1⟩ := run_clear hown Tryz.underlying119
  have k1 : (w.alloc (.cells #[.func (.func 67) #[] #[.pointer (some ⟨bx, 0, none⟩)], .func (.func 72) #[] #[.pointer (some ⟨bx, 0, none⟩)], .func (.func 73) #[wpt X] #[]] 127)).cell? ⟨X.wk, 1, none⟩ = some (.map (some X.m)) := hwB.cell rfl
  have hbw : But [X.m] w w1 := (hbA.mono (S' := [X.m]) (by simp)).trans hb1 (fun x hx => .inl hx)
  have hWk1 : WkOk X [] w1 := ⟨hb1.blk hwB (by simpa using hne), _, by simpa using hown1, fun x => by simp [Maps.has]⟩
  have hV1 : (VT X bx ag val) st fp w1 := hFr _ _ _ _ _ hV hbw (fun x hx => by rw [List.mem_singleton.1 hx]; exact h0.m)
  have h01 : C0 X fp w1 := ⟨Nat.le_trans h0.N hbw.size, fun x hx => ⟨(h0.fp x hx).1, Nat.lt_of_lt_of_le (h0.fp x hx).2 hbw.size⟩, h0.wk, h0.m, Nat.lt_of_lt_of_le h0.wkl hbw.size, Nat.lt_of_lt_of_le h0.ml hbw.size, h0.Nm⟩
  have hBs1 := hBs.below (hbw.below h0.N (fun x hx => by rw [List.mem_singleton.1 hx]; exact h0.Nm))
  have HC : Hid _ := come_tell X bx an nv rows base hNwr hW ag val hval 101 k none [] met' st st' fp w1 hS hk (fun p i e => by cases e) (by simp) (fun x hx => by cases hx) hBs1 hV1 hWk1 h01
  have hsn : w.heap.size ≠ X.m := by have := h0.ml; omega
  have hSB1 := hb1.blk hSB (by simpa using hsn)
  have q0 := hSB1.cell (i := 0) rfl
  have q1 := hSB1.cell (i := 1) rfl
  have q2 := hSB1.cell (i := 2) rfl
  have HBW : Hid _ := hbw
  unfold plV at HC
  clear hown hown1 hb1 hhas hV hWk h0 hBs hV1 hWk1 h01 hBs1 hSB hSB1 hbw hbA hwB hS
  go_enter Tryz.func61, Tryz.ntmps61
  go_wp2_with fail
  refine Calls.mono HC.out ?_
  rintro e w2 ⟨rfl, fp2, p1, p2, p3, p4⟩
  go_wp2_with fail
  go_end0
  refine ⟨rfl, fp2, p1, p2, (HBW.out.mono (S' := X.m :: fp) (by simp)).trans p3 (fun x hx => .inl hx), fun x hx => ?_⟩
  rcases p4 x hx with h | h
  · exact .inl h
  · exact .inr (Nat.le_trans HBW.out.size h)

end Go.Proofs.YtkflkmmbakccoaaGreatDoor

/- THE PLAIN FUNCTIONS: names, in the order of the nodes. No program is named here. -/
namespace Go.Proofs.YtkflkmmbakccoaaGreatDoor

/-- The nodes that have a name, in their order. -/
def namesL (ag : List Nat) (n : Nat) : List Nat := (List.range n).filter (fun j => decide (j ∈ ag))

theorem namesL_mem {ag : List Nat} {n x : Nat} : x ∈ namesL ag n ↔ x < n ∧ x ∈ ag := by simp [namesL]

theorem namesL_lt (ag : List Nat) (n : Nat) : (namesL ag n).Pairwise (fun a b => a < b) := List.Pairwise.filter _ List.pairwise_lt_range

theorem namesL_nodup (ag : List Nat) (n : Nat) : (namesL ag n).Nodup := (namesL_lt ag n).imp (fun h => Nat.ne_of_lt h)

theorem namesL_rank (ag : List Nat) : ∀ (n k x : Nat), (namesL ag n)[k]? = some x → rankOf ag x = k
  | 0, k, x, h => by simp [namesL] at h
  | n + 1, k, x, h => by
    unfold namesL at h
    rw [List.range_succ, List.filter_append] at h
    by_cases hk : k < ((List.range n).filter (fun j => decide (j ∈ ag))).length
    · rw [List.getElem?_append_left hk] at h
      exact namesL_rank ag n k x h
    · rw [List.getElem?_append_right (by omega)] at h
      by_cases hn : n ∈ ag
      · rw [List.filter_cons_of_pos (by simpa using hn)] at h
        cases hj : k - ((List.range n).filter (fun j => decide (j ∈ ag))).length with
        | zero =>
          rw [hj] at h
          simp at h
          subst h
          unfold rankOf
          omega
        | succ j =>
          rw [hj] at h
          simp at h
      · rw [List.filter_cons_of_neg (by simpa using hn)] at h
        simp at h

theorem rankOf_lt {ag : List Nat} {x y : Nat} (hx : x ∈ ag) (h : x < y) : rankOf ag x < rankOf ag y := by
  unfold rankOf
  obtain ⟨d, rfl⟩ : ∃ d, y = x + 1 + d := ⟨y - (x + 1), by omega⟩
  induction d with
  | zero =>
    rw [Nat.add_zero, List.range_succ, List.filter_append, List.filter_cons_of_pos (by simpa using hx)]
    simp
  | succ d ih =>
    have := ih (by omega)
    rw [← Nat.add_assoc, List.range_succ, List.filter_append]
    simp only [List.length_append]
    omega

theorem rankOf_inj {ag : List Nat} {x y : Nat} (hx : x ∈ ag) (hy : y ∈ ag) (h : rankOf ag x = rankOf ag y) : x = y := by
  rcases Nat.lt_trichotomy x y with h1 | h1 | h1
  · have := rankOf_lt hx h1; omega
  · exact h1
  · have := rankOf_lt hy h1; omega

theorem plainM_ne {nodes : List NodeV} (hW : Whole nodes) {k : Nat} (hk : k < nodes.length) : plainM nodes k ≠ [] := by
  unfold plainM tellM
  simp only [List.not_mem_nil, if_false]
  intro e
  rw [tellP_app] at e
  simp only [List.append_eq_nil_iff] at e
  exact openL_ne hW hk e.1.1.2

end Go.Proofs.YtkflkmmbakccoaaGreatDoor

/- WALKS: package write: the closures of giveNames; a map is emptied. -/
namespace Go.Proofs.YtkflkmmbakccoaaGreatDoor
open Go.RowKit Go.Maps

/-- What giving names keeps: as the telling does, with nothing told and all numbers nought. -/
abbrev VN (X : WEnv) (bx : Nat) (ag : List Nat) (fp : List Nat) (w : World) : Prop := VT X bx ag (fun _ => 0) [] fp w

theorem VN.frame (X : WEnv) (bx : Nat) : VFrame (VN X bx) := fun st fp w w' S h hb hS => VT.frame X bx st _ [] fp w w' S h hb hS

set_option maxHeartbeats 400000 in
theorem names1_any (X : WEnv) (bx : Nat) (id : Nat) (pl : PlaceV) (ag ag' : List Nat) (hf : nFirst id pl ag = some ag') (fp : List Nat) (w : World) (hV : VN X bx ag fp w) :
    Calls Tryz.prog 62 #[.int .i64 (id : Int), plV pl] w fun e w' => VPost (VN X bx) fp w ag' e w' := by
  obtain ⟨pa, pb, hpv⟩ := plV_agg pl
  have HF : Hid (ag' = ag) := (Option.some.inj hf).symm
  rw [hpv]
  clear hf hpv
  go_enter Tryz.func62, Tryz.ntmps62
  go_wp2_with fail
  go_end0
  rw [HF.out]
  exact ⟨rfl, fp, VN.frame X bx _ _ _ _ [] hV (alloc_but _ _) (by simp), (alloc_but _ _).mono (by simp), fun x hx => .inl hx⟩

set_option maxHeartbeats 400000 in
theorem names3_any (X : WEnv) (bx : Nat) (id : Nat) (ag ag' : List Nat) (hf : nFin id ag = some ag') (fp : List Nat) (w : World) (hV : VN X bx ag fp w) :
    Calls Tryz.prog 64 #[.int .i64 (id : Int)] w fun e w' => VPost (VN X bx) fp w ag' e w' := by
  have HF : Hid (ag' = ag) := (Option.some.inj hf).symm
  clear hf
  go_enter Tryz.func64, Tryz.ntmps64
  go_wp2_with fail
  go_end0
  rw [HF.out]
  exact ⟨rfl, fp, hV, But.refl _ _, fun x hx => .inl hx⟩

/-- A number is laid into the map of names. -/
theorem NmOk.put {X : WEnv} {ag : List Nat} {val val' : Nat → Nat} {w1 : World} {id n : Nat} {L : List Nat} {D : DataW Unit} (hL : L.Nodup ∧ (∀ x, x ∈ L ↔ x ∈ ag) ∧ ∀ x ∈ L, x < 1000) (hid : id < 1000)
    (hT : Tidy D) (h2 : ∀ x : Nat, Maps.has D (.int .i64 (x : Int)) = decide (x ∈ ag)) (h3 : ∀ x ∈ ag, D.atKey (.int .i64 (x : Int)) (.lit (.int .i64 0)) = .lit (.int .i64 (val x : Int))) (h4 : ∀ k, Maps.has D k = true → ∃ x ∈ ag, k = .int .i64 ((x : Nat) : Int)) (hs : Maps.size D ≤ L.length)
    (hv1 : val' id = n) (hv2 : ∀ x ∈ ag, x ≠ id → val' x = val x) (hown : w1.ownsMap Tryz.prog 3 (plainElem Tryz.prog 3) X.nm (L.length + 1) (D.put (.int .i64 (id : Int)) (.lit (.int .i64 (n : Int))))) : NmOk X (id :: ag) val' w1 := by
  have hne : ∀ {x : Nat}, x ≠ id → (Lit.int .i64 (x : Int)) ≠ .int .i64 (id : Int) := fun hx e => hx (by simp only [Lit.int.injEq, true_and] at e; omega)
  have hat : ∀ x ∈ id :: ag, (D.put (.int .i64 (id : Int)) (.lit (.int .i64 (n : Int)))).atKey (.int .i64 (x : Int)) (.lit (.int .i64 0)) = .lit (.int .i64 (val' x : Int)) := fun x hx => by
    by_cases e : x = id
    · subst e
      rw [atKey_put_same hT.isMap (isKeyI _), hv1]
    · have hx' : x ∈ ag := by
        rcases List.mem_cons.1 hx with h | h
        · exact absurd h e
        · exact h
      rw [atKey_put_other (hne e), h3 x hx', hv2 x hx' e]
  have hhas : ∀ x : Nat, Maps.has (D.put (.int .i64 (id : Int)) (.lit (.int .i64 (n : Int)))) (.int .i64 (x : Int)) = decide (x ∈ id :: ag) := fun x => by
    by_cases e : x = id
    · subst e
      rw [has_put_same hT.isMap (isKeyI _)]
      simp
    · rw [has_put_other (hne e), h2 x]
      simp [e]
  have hks : ∀ k, Maps.has (D.put (.int .i64 (id : Int)) (.lit (.int .i64 (n : Int)))) k = true → ∃ x ∈ id :: ag, k = .int .i64 ((x : Nat) : Int) := fun k hk => by
    by_cases e : k = .int .i64 (id : Int)
    · exact ⟨id, List.mem_cons_self .., e⟩
    · rw [has_put_other e] at hk
      obtain ⟨x, hx, rfl⟩ := h4 k hk
      exact ⟨x, List.mem_cons_of_mem _ hx, rfl⟩
  by_cases hm : id ∈ ag
  · have hsz : Maps.size (D.put (.int .i64 (id : Int)) (.lit (.int .i64 (n : Int)))) ≤ L.length := by
      rw [size_put hT, h2 id]
      simpa [hm] using hs
    exact ⟨L, _, ⟨hL.1, fun x => by rw [hL.2.1 x, List.mem_cons]; exact ⟨fun h => .inr h, fun h => by rcases h with rfl | h; exact hm; exact h⟩, hL.2.2⟩, (ownsMap_tight hown).mono hsz, hhas, hat, hks⟩
  · refine ⟨id :: L, _, ⟨List.nodup_cons.2 ⟨fun h => hm ((hL.2.1 id).1 h), hL.1⟩, fun x => by simp [hL.2.1 x], fun x hx => ?_⟩, by simpa using hown, hhas, hat, hks⟩
    rcases List.mem_cons.1 hx with rfl | hx
    · exact hid
    · exact hL.2.2 x hx

set_option maxHeartbeats 1000000 in
theorem names2_any (X : WEnv) (bx : Nat) (id : Nat) (hid : id < 1000) (pl : PlaceV) (ag ag' : List Nat) (hf : nAgain id pl ag = some ag') (fp : List Nat) (w : World) (hV : VN X bx ag fp w) :
    Calls Tryz.prog 63 #[.int .i64 (id : Int), plV pl, .pointer (some ⟨bx, 0, none⟩)] w fun e w' => VPost (VN X bx) fp w ag' e w' := by
  obtain ⟨pa, pb, hpv⟩ := plV_agg pl
  have HF : Hid (ag' = id :: ag) := (Option.some.inj hf).symm
  obtain ⟨bv, hb1, hB, ⟨L, D, hL, hown, h2, h3, h4⟩, rfl⟩ := hV
  have hT := hown.tidy lawI
  have hsz := hown.size_le
  have hLl := nodup_lt_length 1000 L hL.1 hL.2.2
  have hbA : But [] w (w.alloc (.cells #[.int .i64 pa, .int .i64 pb] 124)) := alloc_but _ _
  have x1 : (w.alloc (.cells #[.int .i64 pa, .int .i64 pb] 124)).cell? ⟨bx, 0, none⟩ = some (wpt X) := (hbA.blk hb1 (by simp)).cell rfl
  have c2 := (hB.frame hbA (by simp) (by simp)).cell.2.2.1
  have H2 : Hid _ := h2
  have H3 : Hid _ := h3
  have H4 : Hid _ := h4
  rw [hpv]
  clear hf hpv h2 h3 h4
  go_enter Tryz.func63, Tryz.ntmps63
  go_wp2_with (at_mapUpdate; refine wpList_mapUpdate_own _ rfl _ _ _ 93 rfl 3 3 lawI Tryz.underlying93 _ X.nm L.length D rfl (hown.alloc _) (by unfold maxLen; omega) _ _ _ rfl rfl (keyI (by omega)) _ [] (plainElem_int Tryz.underlying3 (by decide)) ?_)
  intro w1 hown1 hgrow1
  have hbm := grown_butB hgrow1
  have hbw : But [X.nm] w w1 := (hbA.mono (S' := [X.nm]) (by simp)).trans hbm (fun x hx => .inl hx)
  have hN0 : NmOk X ag (fun _ => 0) w := ⟨L, D, hL, hown, H2.out, H3.out, H4.out⟩
  have hap := nmap_apart hN0 hB
  have hnb : bx ≠ X.nm := fun e => by rw [e] at hb1; exact hb1.not_map hown
  go_wp2_with fail
  go_end0
  rw [HF.out]
  refine ⟨rfl, _, ⟨bv, hbw.blk hb1 (by simpa using hnb), hB.frame hbw (fun h => hap (by rw [← List.mem_singleton.1 h]; exact List.mem_cons_self ..)) (fun x hx h => hap (by rw [← List.mem_singleton.1 h]; exact List.mem_cons_of_mem _ hx)), ?_, rfl⟩, hbw.mono (fun x hx => .inl (by rw [List.mem_singleton.1 hx]; simp)), fun x hx => .inl hx⟩
  exact NmOk.put (val := fun _ => 0) (val' := fun _ => 0) hL hid hT H2.out H3.out H4.out hsz rfl (fun _ _ _ => rfl) hown1

end Go.Proofs.YtkflkmmbakccoaaGreatDoor

/- WALKS: package graph: come, as giveNames calls it. -/
namespace Go.Proofs.YtkflkmmbakccoaaGreatDoor
open Go.RowKit Go.Maps

set_option maxRecDepth 20000 in
set_option maxHeartbeats 4000000 in
theorem come_names  (X : WEnv) (bx : Nat) (an : Nat) (nv : Value) (rows : List Row) (base : Nat) (_hNwr : X.N ≤ X.wr) (hW : Whole (rows.map Row.n))  (f : Nat) :
    ∀ (id : Nat) (pl : PlaceV) (met met' : List Nat) (st st' : List Nat) (fp : List Nat) (w : World), comeS (rows.map Row.n) nFirst nAgain nFin f id pl (met, st) = some (met', st') → id < rows.length → PlOk (rows.map Row.n) pl → met.Nodup → (∀ x ∈ met, x < rows.length) →
      Bs X an nv rows base w → (VN X bx) st fp w → WkOk X met w → C0 X fp w →
      Calls Tryz.prog 94 #[.pointer (some ⟨X.wk, 0, none⟩), .int .i64 (id : Int), plV pl, .agg #[.func (.func 62) #[] #[], .func (.func 63) #[] #[.pointer (some ⟨bx, 0, none⟩)], .func (.func 64) #[] #[]]] w fun e w' => e = .returned (.tuple #[]) ∧ CPost (VN X bx) X fp w met' st' w' := by
  induction f with
  | zero => intro id pl met met' st st' fp w h; cases h
  | succ f ih =>
    intro id pl met met' st st' fp w hS hid hpl hnd hlt hBs hV hWk h0
    have IH : Hid _ := ih
    clear ih
    have hlen := hW.len
    have hlen' : rows.length ≤ 500 := by simpa using hlen
    have hml := nodup_lt_length rows.length met hnd hlt
    have hFr : VFrame (VN X bx) := VN.frame X bx
    have hBb : ∀ w w', Bs X an nv rows base w → Below X.N w w' → Bs X an nv rows base w' := fun w w' h hb => h.below hb
    obtain ⟨pa, pb, hpv⟩ := plV_agg pl
    -- the two boxes
    obtain ⟨W0, HW0⟩ : ∃ W0, Hid (W0 = (w.alloc (.cells #[.int .i64 pa, .int .i64 pb] 124)).alloc (.cells #[.func (.func 62) #[] #[], .func (.func 63) #[] #[.pointer (some ⟨bx, 0, none⟩)], .func (.func 64) #[] #[]] 127)) := ⟨_, (rfl : (w.alloc (.cells #[.int .i64 pa, .int .i64 pb] 124)).alloc (.cells #[.func (.func 62) #[] #[], .func (.func 63) #[] #[.pointer (some ⟨bx, 0, none⟩)], .func (.func 64) #[] #[]] 127) = (w.alloc (.cells #[.int .i64 pa, .int .i64 pb] 124)).alloc (.cells #[.func (.func 62) #[] #[], .func (.func 63) #[] #[.pointer (some ⟨bx, 0, none⟩)], .func (.func 64) #[] #[]] 127))⟩
    have hb0 : But [] w W0 := by rw [HW0.out]; exact (alloc_but _ _).alloc _
    have hs0 : W0.heap.size = w.heap.size + 2 := by rw [HW0.out]; simp
    have HZ0 : Hid _ := hs0
    have hPB : Blk W0 w.heap.size #[.int .i64 pa, .int .i64 pb] 124 := by rw [HW0.out]; exact (alloc_but _ _).blk (blk_new _ _ _) (by simp)
    have hSB : Blk W0 (w.heap.size + 1) #[.func (.func 62) #[] #[], .func (.func 63) #[] #[.pointer (some ⟨bx, 0, none⟩)], .func (.func 64) #[] #[]] 127 := by
      rw [HW0.out]
      have := blk_new (w.alloc (.cells #[.int .i64 pa, .int .i64 pb] 124)) #[.func (.func 62) #[] #[], .func (.func 63) #[] #[.pointer (some ⟨bx, 0, none⟩)], .func (.func 64) #[] #[]] 127
      simpa using this
    have h00 : C0 X fp W0 := ⟨Nat.le_trans h0.N hb0.size, fun x hx => ⟨(h0.fp x hx).1, Nat.lt_of_lt_of_le (h0.fp x hx).2 hb0.size⟩, h0.wk, h0.m, Nat.lt_of_lt_of_le h0.wkl hb0.size, Nat.lt_of_lt_of_le h0.ml hb0.size, h0.Nm⟩
    have hC0 : CS (VN X bx) X (Bs X an nv rows base) fp W0 met st fp W0 := ⟨hBs.below (hb0.below h0.N (by simp)), hFr _ _ _ _ _ hV hb0 (by simp), hWk.but hb0 (by simp) (by simp), But.refl _ _, fun x hx => .inl hx⟩
    have hpbn : w.heap.size ≠ X.m ∧ w.heap.size ∉ fp := ⟨by have := h0.ml; omega, fun hx => by have := (h0.fp _ hx).2; omega⟩
    have hsbn : w.heap.size + 1 ≠ X.m ∧ w.heap.size + 1 ∉ fp := ⟨by have := h0.ml; omega, fun hx => by have := (h0.fp _ hx).2; omega⟩
    have HPBN : Hid _ := hpbn
    have HSBN : Hid _ := hsbn
    have k1 : W0.cell? ⟨X.wk, 1, none⟩ = some (.map (some X.m)) := hC0.wk.1.cell rfl
    have hlk := hC0.wk.look (id := id) (by omega)
    have HC0 : Hid _ := hC0
    have H00 : Hid _ := h00
    have HB0 : Hid _ := hb0
    clear hs0 hpbn hsbn hC0 hb0 hV hWk h0 hBs h00
    rw [hpv]
    go_enter Tryz.func94, Tryz.ntmps94
    go_upto_region 1 with fail
    rw [← HW0.out]
    unfold comeS at hS
    by_cases hm : id ∈ met
    · have hd : decide (id ∈ met) = true := by simpa using hm
      simp only [hm, if_true] at hS
      obtain ⟨s1, hS1, hS2⟩ := Option.map_eq_some_iff.1 hS
      simp only [Prod.mk.injEq] at hS2
      obtain ⟨rfl, rfl⟩ := hS2
      rw [hd] at hlk
      have hp0 := hPB.cell (i := 0) rfl
      have hp1 := hPB.cell (i := 1) rfl
      have hq1 := hSB.cell (i := 1) rfl
      -- the empty block that the blank takes
      have hbE : But [] W0 (W0.alloc (.cells #[] 167)) := alloc_but _ _
      have hCE := HC0.out.still H00.out hBb hFr hbE
      have HCL : Hid _ := names2_any X bx id (by omega) pl st s1 hS1 fp _ hCE.v
      rw [hpv] at HCL
      have hp0' := (hbE.blk hPB (by simp)).cell (i := 0) rfl
      have hp1' := (hbE.blk hPB (by simp)).cell (i := 1) rfl
      have hq1' := (hbE.blk hSB (by simp)).cell (i := 1) rfl
      clear hd hS hS1
      go_wp2_with fail
      refine Calls.mono HCL.out ?_
      rintro e w1 ⟨rfl, fp1, hv1, hb1, ho1⟩
      have hC1 := hCE.step H00.out hBb hv1 hb1 ho1
      go_wp2_with fail
      exact bodyPost_ret (v := .tuple #[]) (by simp [results, Tryz.results94, go_sem]) rfl ⟨rfl, hC1.post HB0.out⟩
    · have hd : decide (id ∈ met) = false := by simpa using hm
      simp only [hm, if_false] at hS
      obtain ⟨s1, hS1, hS2⟩ := Option.bind_eq_some_iff.1 hS
      obtain ⟨r, hS3, hS4⟩ := Option.bind_eq_some_iff.1 hS2
      obtain ⟨s2, hS5, hS6⟩ := Option.map_eq_some_iff.1 hS4
      simp only [Prod.mk.injEq] at hS6
      obtain ⟨rfl, rfl⟩ := hS6
      rw [hd] at hlk
      have hnodeOk := hW.node (i := id) (by simpa using hid)
      have hpt : ∀ p ∈ (nodeAt (rows.map Row.n) id).parts, p < (rows.map Row.n).length ∧ highOf (rows.map Row.n) p < highOf (rows.map Row.n) id := fun p hp => hW.part (by simpa using hid) hp
      rw [nodeAt_rows rows id hid] at hS3 hnodeOk hpt
      have hpl5 := hnodeOk.len
      have HS1 : Hid _ := hS1
      have HS3 : Hid _ := hS3
      have HS5 : Hid _ := hS5
      have HPT : Hid _ := hpt
      obtain ⟨hwB, D, hown, hhas⟩ := HC0.out.wk
      have HHAS : Hid _ := hhas
      have HWB : Hid _ := hwB
      have hmm : met.length < 500 := by
        have := nodup_lt_length rows.length (id :: met) (List.nodup_cons.2 ⟨hm, hnd⟩) (fun x hx => by
          rcases List.mem_cons.1 hx with rfl | hx
          · exact hid
          · exact hlt x hx)
        simp at this
        omega
      have hbE : But [] W0 (W0.alloc (.cells #[] 167)) := alloc_but _ _
      have hCE := HC0.out.still H00.out hBb hFr hbE
      have HCE : Hid _ := hCE
      have hne := hCE.wk.ne
      have k1' : (W0.alloc (.cells #[] 167)).cell? ⟨X.wk, 1, none⟩ = some (.map (some X.m)) := hCE.wk.1.cell rfl
      have hND : Hid ((id :: met).Nodup ∧ ∀ x ∈ id :: met, x < rows.length) := ⟨List.nodup_cons.2 ⟨hm, hnd⟩, fun x hx => by
        rcases List.mem_cons.1 hx with rfl | hx
        · exact hid
        · exact hlt x hx⟩
      clear hd hS hS1 hS2 hS3 hS4 hS5 hhas hwB hCE hpt hnd hlt
      go_wp2_with (at_mapUpdate; refine wpList_mapUpdate_own _ rfl _ _ _ 119 rfl 3 167 lawI Tryz.underlying119 unitElem X.m met.length D rfl (hown.alloc _) (by unfold maxLen; omega) _ _ _ rfl rfl (keyI (by omega)) (.agg []) [] unitElem_mk ?_)
      intro w1 hown1 hgrow1
      obtain ⟨hWk1, hbm1⟩ := WkOk.meet (hbE.blk HWB.out (by simp)) hne hown.isMap HHAS.out hown1 hgrow1
      have hC1 := HCE.out.meet H00.out hBb hFr hWk1 hbm1
      have HC1 : Hid _ := hC1
      have hPB1 := hC1.blk H00.out hPB HPBN.out.1 HPBN.out.2
      have hSB1 := hC1.blk H00.out hSB HSBN.out.1 HSBN.out.2
      have hp0 := hPB1.cell (i := 0) rfl
      have hp1 := hPB1.cell (i := 1) rfl
      have hq0 := hSB1.cell (i := 0) rfl
      have HCL : Hid _ := names1_any X bx id pl st s1 HS1.out fp w1 hC1.v
      rw [hpv] at HCL
      clear hC1 hown hown1 hgrow1 hWk1 hbm1 hlk k1 k1'
      go_wp2_with fail
      refine Calls.mono HCL.out ?_
      rintro e w2 ⟨rfl, fp2, hv2, hb2, ho2⟩
      have hC2 := HC1.out.step H00.out hBb hv2 hb2 ho2
      have HC2 : Hid _ := hC2
      obtain ⟨nb, cap, hnv, hcap, hcn⟩ := hC2.base.gi.node id hid
      have HNV : Hid _ := hnv
      have k0 : w2.cell? ⟨X.wk, 0, none⟩ = some (.pointer (some ⟨X.g, 0, none⟩)) := hC2.wk.1.cell rfl
      have g0 : w2.cell? ⟨X.g, 0, none⟩ = some (.slice (some ⟨nb, 0, none⟩) rows.length cap) := by have := hC2.base.gi.gr.cell (i := 0) rfl; rw [hnv] at this; exact this
      have d3 := hcn 3 (by omega)
      simp only [Row.cells, List.getElem?_cons_succ, List.getElem?_cons_zero] at d3
      obtain ⟨pad, pcap, hpvv, hpc⟩ := own_shape (hC2.base.gi.each rows[id] (List.getElem_mem hid)).2
      rw [hpvv] at d3
      have HPVV : Hid _ := hpvv
      clear hcn hnv hpvv HCL HC1 hPB1 hSB1 hp0 hp1 hq0 hv2 hb2 ho2 hC2
      go_wp2_with fail
      clear k0 g0 d3
      go_loopw [50] (fun i wr => ∃ (k : Nat) (mk : List Nat) (sk : List Nat) (fk : List Nat), k ≤ (rows[id]).n.parts.length ∧ i = .int .i64 (k : Int) ∧ mk.Nodup ∧ (∀ x ∈ mk, x < rows.length) ∧ partsGo (comeS (rows.map Row.n) nFirst nAgain nFin f) id ((rows[id]).n.parts.drop k) k (mk, sk) = some r ∧ CS (VN X bx) X (Bs X an nv rows base) fp W0 mk sk fk wr) (fun i _ => (rows[id]).n.parts.length - (intOf i).toNat)
      case atStart => exact ⟨0, _, _, _, Nat.zero_le _, rfl, hND.out.1, hND.out.2, by simpa using HS3.out, HC2.out⟩
      case round =>
        obtain ⟨k, mk, sk, fk, hk, rfl, hmn, hmlt, hpg, hCk⟩ := hrel
        have HPG : Hid _ := hpg
        have HCK : Hid _ := hCk
        have hSBk := hCk.blk H00.out hSB HSBN.out.1 HSBN.out.2
        have q0 := hSBk.cell (i := 0) rfl
        have q1 := hSBk.cell (i := 1) rfl
        have q2 := hSBk.cell (i := 2) rfl
        clear hpg
        by_cases hkl : k < (rows[id]).n.parts.length
        · obtain ⟨st1, hg1, hg2⟩ := partsGo_cons _ id _ k hkl _ _ HPG.out
          obtain ⟨m1, s1'⟩ := st1
          have HG2 : Hid _ := hg2
          have hx := HPT.out _ (List.getElem_mem hkl)
          have hx' : (rows[id]).n.parts[k] < rows.length := by simpa using hx.1
          obtain ⟨pbk, cap', e2, _, _, hcell⟩ := ownsInt_cell (n := (rows[id]).n.parts.length) (l := (rows[id]).n.parts) (hCk.base.gi.each rows[id] (List.getElem_mem hid)).2 (by omega)
          rw [HPVV.out] at e2
          obtain ⟨rfl, rfl⟩ : pad = some ⟨pbk, 0, none⟩ ∧ pcap = cap' := by simpa using e2
          have hck := hcell k hkl
          have hkpl : PlOk (rows.map Row.n) (some (id, k)) := fun p i e => by
            cases e
            exact ⟨by simpa using hid, by rw [nodeAt_rows rows id hid]; exact hkl⟩
          have hC0k : C0 X fk wr := ⟨Nat.le_trans H00.out.N hCk.but.size, fun x hx => ⟨(hCk.no H00.out).2.2 x hx, VT.lt hCk.v x hx⟩, (hCk.no H00.out).1, (hCk.no H00.out).2.1, hCk.wk.lt.1, hCk.wk.lt.2, H00.out.Nm⟩
          have HRC : Hid _ := IH.out (rows[id]).n.parts[k] (some (id, k)) mk m1 sk s1' fk wr hg1 hx' hkpl hmn hmlt hCk.base hCk.v hCk.wk hC0k
          have hmet1 : Hid (m1.Nodup ∧ ∀ x ∈ m1, x < rows.length) := by
            have q := come_met hW _ _ _ f _ _ _ _ _ _ hg1 (by simpa using hx') hmn (by simpa using hmlt)
            exact ⟨q.1, by simpa using q.2⟩
          generalize (rows[id]).n.parts[k] = x at *
          clear hcell e2 hx hg1 hg2 hCk hC0k hSBk hmn hmlt
          go_wp2_with fail
          refine Calls.mono HRC.out ?_
          rintro e w3 ⟨rfl, hp3⟩
          obtain ⟨fp3, hC3⟩ := HCK.out.come H00.out hBb hp3
          go_wp2_with fail
          go_roundw
          case rel => exact ⟨k + 1, m1, s1', fp3, by omega, by go_num, hmet1.out.1, hmet1.out.2, HG2.out, hC3⟩
          case measure => simp [intOf]; omega
        · have hfin := partsGo_end _ id _ k hkl _ _ HPG.out
          have hS5 := HS5.out
          rw [← hfin] at hS5
          have HS5' : Hid _ := hS5
          have HFIN : Hid _ := hfin
          have HCL : Hid _ := names3_any X bx id sk s2 HS5'.out fk wr hCk.v
          clear hS5 hfin hCk hmn hmlt
          go_wp2_with fail
          refine Calls.mono HCL.out ?_
          rintro e w3 ⟨rfl, fp3, hv3, hb3, ho3⟩
          have hC3 := HCK.out.step H00.out hBb hv3 hb3 ho3
          go_wp2_with fail
          go_end0
          refine ⟨rfl, ?_⟩
          rw [← HFIN.out]
          exact hC3.post HB0.out

set_option maxRecDepth 20000 in
set_option maxHeartbeats 1000000 in
/-- Walk: what was met is forgotten first. -/
theorem walk_names (X : WEnv) (bx : Nat) (an : Nat) (nv : Value) (rows : List Row) (base : Nat) (hNwr : X.N ≤ X.wr) (hW : Whole (rows.map Row.n)) 
    (k : Nat) (hk : k < rows.length) (met met' : List Nat) (st st' : List Nat) (hS : comeS (rows.map Row.n) nFirst nAgain nFin 101 k none ([], st) = some (met', st')) (fp : List Nat) (w : World) (hBs : Bs X an nv rows base w) (hV : (VN X bx) st fp w) (hWk : WkOk X met w) (h0 : C0 X fp w) :
    Calls Tryz.prog 61 #[.pointer (some ⟨X.wk, 0, none⟩), .int .i64 (k : Int), .agg #[.func (.func 62) #[] #[], .func (.func 63) #[] #[.pointer (some ⟨bx, 0, none⟩)], .func (.func 64) #[] #[]]] w fun e w' => e = .returned (.tuple #[]) ∧ CPost (VN X bx) X fp w met' st' w' := by
  have hFr : VFrame (VN X bx) := VN.frame X bx
  have hbA : But [] w (w.alloc (.cells #[.func (.func 62) #[] #[], .func (.func 63) #[] #[.pointer (some ⟨bx, 0, none⟩)], .func (.func 64) #[] #[]] 127)) := alloc_but _ _
  have hSB : Blk (w.alloc (.cells #[.func (.func 62) #[] #[], .func (.func 63) #[] #[.pointer (some ⟨bx, 0, none⟩)], .func (.func 64) #[] #[]] 127)) w.heap.size #[.func (.func 62) #[] #[], .func (.func 63) #[] #[.pointer (some ⟨bx, 0, none⟩)], .func (.func 64) #[] #[]] 127 := blk_new _ _ _
  obtain ⟨hwB, D, hown, hhas⟩ := hWk.but hbA (by simp) (by simp)
  have hne : X.wk ≠ X.m := hWk.ne
  obtain ⟨w1, hcl, hown1, hb1⟩ := run_clear hown Tryz.underlying119
  have k1 : (w.alloc (.cells #[.func (.func 62) #[] #[], .func (.func 63) #[] #[.pointer (some ⟨bx, 0, none⟩)], .func (.func 64) #[] #[]] 127)).cell? ⟨X.wk, 1, none⟩ = some (.map (some X.m)) := hwB.cell rfl
  have hbw : But [X.m] w w1 := (hbA.mono (S' := [X.m]) (by simp)).trans hb1 (fun x hx => .inl hx)
  have hWk1 : WkOk X [] w1 := ⟨hb1.blk hwB (by simpa using hne), _, by simpa using hown1, fun x => by simp [Maps.has]⟩
  have hV1 : (VN X bx) st fp w1 := hFr _ _ _ _ _ hV hbw (fun x hx => by rw [List.mem_singleton.1 hx]; exact h0.m)
  have h01 : C0 X fp w1 := ⟨Nat.le_trans h0.N hbw.size, fun x hx => ⟨(h0.fp x hx).1, Nat.lt_of_lt_of_le (h0.fp x hx).2 hbw.size⟩, h0.wk, h0.m, Nat.lt_of_lt_of_le h0.wkl hbw.size, Nat.lt_of_lt_of_le h0.ml hbw.size, h0.Nm⟩
  have hBs1 := hBs.below (hbw.below h0.N (fun x hx => by rw [List.mem_singleton.1 hx]; exact h0.Nm))
  have HC : Hid _ := come_names X bx an nv rows base hNwr hW  101 k none [] met' st st' fp w1 hS hk (fun p i e => by cases e) (by simp) (fun x hx => by cases hx) hBs1 hV1 hWk1 h01
  have hsn : w.heap.size ≠ X.m := by have := h0.ml; omega
  have hSB1 := hb1.blk hSB (by simpa using hsn)
  have q0 := hSB1.cell (i := 0) rfl
  have q1 := hSB1.cell (i := 1) rfl
  have q2 := hSB1.cell (i := 2) rfl
  have HBW : Hid _ := hbw
  unfold plV at HC
  clear hown hown1 hb1 hhas hV hWk h0 hBs hV1 hWk1 h01 hBs1 hSB hSB1 hbw hbA hwB hS
  go_enter Tryz.func61, Tryz.ntmps61
  go_wp2_with fail
  refine Calls.mono HC.out ?_
  rintro e w2 ⟨rfl, fp2, p1, p2, p3, p4⟩
  go_wp2_with fail
  go_end0
  refine ⟨rfl, fp2, p1, p2, (HBW.out.mono (S' := X.m :: fp) (by simp)).trans p3 (fun x hx => .inl hx), fun x hx => ?_⟩
  rcases p4 x hx with h | h
  · exact .inl h
  · exact .inr (Nat.le_trans HBW.out.size h)

end Go.Proofs.YtkflkmmbakccoaaGreatDoor

/- WALKS: package write: giveNames; maps.Keys, slices.Sorted at the map of names. -/
namespace Go.Proofs.YtkflkmmbakccoaaGreatDoor
open Go.RowKit Go.Maps Go.Sort Go.Shelf

theorem keys_any (b : Nat) (w : World) : Calls Tryz.prog 66 #[.map (some b)] w fun e w' => e = .returned (.func (.func 97) #[] #[.pointer (some ⟨w.heap.size, 0, none⟩)]) ∧ w' = w.alloc (.cells #[.map (some b)] 93) :=
  (callsIn_wide (n := 5)).1 (AnyZI.keys_in Tryz.keysA Fence.wide 5 trivial rfl (some b) w)

theorem sorts (m : Nat) : AnyZI.SortsIn Tryz.prog Tryz.sortedA_ren Fence.wide m :=
  ⟨fun blk off cap ss W hH hblk hsz => callsIn_wide.2 (AnyM.slices_Sort_int Tryz.sortA blk off cap ss W hH hblk hsz),
   fun p cap W => callsIn_wide.2 (AnyM.slices_Sort_int_none Tryz.sortA p cap W)⟩

theorem sorted_any {H : Type} (b nn : Nat) (D0 : DataW H) (R : Value → Option (DataW H × List MemPlace)) (w : World) (hown : w.ownsMap Tryz.prog 3 R b nn D0) (hmax : Maps.size D0 ≤ 1000) :
    Calls Tryz.prog 65 #[.func (.func 97) #[] #[.pointer (some ⟨w.heap.size, 0, none⟩)]] (w.alloc (.cells #[.map (some b)] 93)) fun e w' => ∃ (v : Value) (ss : List Int), e = .returned v ∧ ss.Perm (intKeys D0) ∧
      w'.ownsRow (w.alloc (.cells #[.map (some b)] 93)).heap.size 3 1 v ss.length ((ss.mergeSort (fun x y => decide (x ≤ y))).map encZ) ∧ (v = .slice none 0 0 ↔ ss = []) ∧ Below (w.alloc (.cells #[.map (some b)] 93)).heap.size (w.alloc (.cells #[.map (some b)] 93)) w' := by
  have hbl := hown.lt
  have hseq : SeqGives Fence.wide 2 Tryz.prog 97 #[.pointer (some ⟨w.heap.size, 0, none⟩)] encZ (fun ss => ss.Perm (intKeys D0)) (Maps.size D0) (w.alloc (.cells #[.map (some b)] 93)) :=
    AnyZI.keys_gives (ρ := Tryz.keysA_ren) { Tryz.keysA with } Fence.wide _ trivial rfl (by omega) w.heap.size b nn D0 _ (by simp) (by simp) (by
      obtain ⟨es, clock, hb, Ft, hs, hD⟩ := hown
      exact ⟨es, clock, (Below.heap_alloc _ _ b hbl).trans hb, Ft, hs, hD⟩)
  exact (callsIn_wide (n := 5)).1 (AnyZI.sorted_in Tryz.sortedA Fence.wide 5 trivial trivial trivial trivial rfl (by omega) (sorts _) (enters_of Tryz.func96 (by kernel_rfl) rfl) 97 #[.pointer (some ⟨w.heap.size, 0, none⟩)] trivial (enters_of Tryz.func97 (by kernel_rfl) rfl) _ _ (by unfold maxLen; omega) (by omega) _ hseq)

/-- What slices.Sorted gives of the names: the nodes that have one, in their order. -/
theorem sorted_names {ag : List Nat} {D : DataW Unit} {w : World} {b n : Nat} {R : Value → Option (DataW Unit × List MemPlace)} (hown : w.ownsMap Tryz.prog 3 R b n D) (h2 : ∀ x : Nat, Maps.has D (.int .i64 (x : Int)) = decide (x ∈ ag)) (h4 : ∀ k, Maps.has D k = true → ∃ x ∈ ag, k = .int .i64 ((x : Nat) : Int)) (hlt : ∀ x ∈ ag, x < 1000) {ss : List Int} (hp : ss.Perm (intKeys D)) :
    ss.mergeSort (fun x y => decide (x ≤ y)) = (namesL ag 1000).map (fun (i : Nat) => (i : Int)) := by
  obtain ⟨es, hes, hpw⟩ := hown.tidy lawI
  have hk : ∀ p ∈ es, ∃ x, p.1 = .int .i64 x := fun p hp => by
    have hh : Maps.has D p.1 = true := by
      rw [hes]
      simp only [Maps.has, List.any_eq_true]
      refine ⟨p, hp, ?_⟩
      have := hown.canon lawI
      obtain ⟨es', he', _, hkl⟩ := this
      rw [hes] at he'
      have hes' : es = es' := by simpa using he'
      exact WideAt.sameKey_self (hkl p (hes' ▸ hp))
    obtain ⟨x, _, hx⟩ := h4 _ hh
    exact ⟨x, hx⟩
  have hnd : ((namesL ag 1000).map (fun (i : Nat) => (i : Int))).Nodup := by
    have := namesL_lt ag 1000
    rw [List.nodup_iff_pairwise_ne, List.pairwise_map]
    exact this.imp (fun h e => by omega)
  have hm : ∀ x : Int, x ∈ (namesL ag 1000).map (fun (i : Nat) => (i : Int)) ↔ Maps.has (.map es) (.int .i64 x) = true := fun x => by
    rw [← hes]
    constructor
    · intro hx
      obtain ⟨y, hy, rfl⟩ := List.mem_map.1 hx
      rw [h2 y]
      simpa using (namesL_mem.1 hy).2
    · intro hx
      obtain ⟨y, hy, e⟩ := h4 _ hx
      simp only [Lit.int.injEq, true_and] at e
      subst e
      exact List.mem_map.2 ⟨y, namesL_mem.2 ⟨hlt y hy, hy⟩, rfl⟩
  have hp2 := perm_intKeys hpw hk hnd hm
  rw [← hes] at hp2
  have e1 := mergeSort_of_perm_i (hp.trans hp2.symm)
  have e2 : ((namesL ag 1000).map (fun (i : Nat) => (i : Int))).mergeSort leI = (namesL ag 1000).map (fun (i : Nat) => (i : Int)) := by
    apply List.mergeSort_of_pairwise
    rw [List.pairwise_map]
    exact (namesL_lt ag 1000).imp (fun h => by simp [leI]; omega)
  exact e1.trans e2

theorem NmOk.congr {X : WEnv} {ag ag' : List Nat} {val val' : Nat → Nat} {w : World} (h : NmOk X ag val w) (hm : ∀ x, x ∈ ag ↔ x ∈ ag') (hv : ∀ x ∈ ag, val' x = val x) : NmOk X ag' val' w := by
  obtain ⟨L, D, hL, hown, h2, h3, h4⟩ := h
  refine ⟨L, D, ⟨hL.1, fun x => (hL.2.1 x).trans (hm x), hL.2.2⟩, hown, fun x => by rw [h2 x]; exact decide_eq_decide.2 (hm x), fun x hx => ?_, fun k hk => ?_⟩
  · rw [h3 x ((hm x).2 hx), hv x ((hm x).2 hx)]
  · obtain ⟨x, hx, e⟩ := h4 k hk
    exact ⟨x, (hm x).1 hx, e⟩

end Go.Proofs.YtkflkmmbakccoaaGreatDoor
