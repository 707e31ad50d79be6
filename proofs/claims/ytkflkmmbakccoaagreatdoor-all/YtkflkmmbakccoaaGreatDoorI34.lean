/- PARTS: B22, B23, C1, C2, C3. -/
import Derived.Test.YtkflkmmbakccoaaGreatDoorI33
import Derived.Test.YtkflkmmbakccoaaGreatDoorI32
import Derived.Test.YtkflkmmbakccoaaGreatDoorI17
import Derived.Test.YtkflkmmbakccoaaGreatDoorI18

/- WALKS: package graph: come, as unfold calls it. -/
namespace Go.Proofs.YtkflkmmbakccoaaGreatDoor
open Go.RowKit Go.Maps

set_option maxRecDepth 20000 in
set_option maxHeartbeats 4000000 in
theorem come_unf  (X : WEnv) (bx : Nat) (an : Nat) (nv : Value) (rows : List Row) (base : Nat) (hNwr : X.N ≤ X.wr) (hW : Whole (rows.map Row.n)) (mb : Nat) (most : Int) (hmo : most ≤ 20000) (hNpc : X.N ≤ X.pc) (f : Nat) :
    ∀ (id : Nat) (pl : PlaceV) (met met' : List Nat) (st st' : UnfS) (fp : List Nat) (w : World), comeS (rows.map Row.n) (uFirst (rows.map Row.n)) (uAgain (rows.map Row.n) most) (uFin (rows.map Row.n)) f id pl (met, st) = some (met', st') → id < rows.length → PlOk (rows.map Row.n) pl → met.Nodup → (∀ x ∈ met, x < rows.length) →
      Bs X an nv rows base w → (VU X bx mb most) st fp w → WkOk X met w → C0 X fp w →
      Calls Tryz.prog 94 #[.pointer (some ⟨X.wk, 0, none⟩), .int .i64 (id : Int), plV pl, .agg #[.func (.func 76) #[] #[.pointer (some ⟨bx, 0, none⟩)], .func (.func 77) #[] #[.pointer (some ⟨bx, 0, none⟩), .pointer (some ⟨mb, 0, none⟩)], .func (.func 79) #[] #[.pointer (some ⟨bx, 0, none⟩)]]] w fun e w' => e = .returned (.tuple #[]) ∧ CPost (VU X bx mb most) X fp w met' st' w' := by
  induction f with
  | zero => intro id pl met met' st st' fp w h; cases h
  | succ f ih =>
    intro id pl met met' st st' fp w hS hid hpl hnd hlt hBs hV hWk h0
    have IH : Hid _ := ih
    clear ih
    have hlen := hW.len
    have hlen' : rows.length ≤ 500 := by simpa using hlen
    have hml := nodup_lt_length rows.length met hnd hlt
    have hFr : VFrame (VU X bx mb most) := VU.frame X bx mb most
    have hBb : ∀ w w', Bs X an nv rows base w → Below X.N w w' → Bs X an nv rows base w' := fun w w' h hb => h.below hb
    obtain ⟨pa, pb, hpv⟩ := plV_agg pl
    -- the two boxes
    obtain ⟨W0, HW0⟩ : ∃ W0, Hid (W0 = (w.alloc (.cells #[.int .i64 pa, .int .i64 pb] 124)).alloc (.cells #[.func (.func 76) #[] #[.pointer (some ⟨bx, 0, none⟩)], .func (.func 77) #[] #[.pointer (some ⟨bx, 0, none⟩), .pointer (some ⟨mb, 0, none⟩)], .func (.func 79) #[] #[.pointer (some ⟨bx, 0, none⟩)]] 127)) := ⟨_, (rfl : (w.alloc (.cells #[.int .i64 pa, .int .i64 pb] 124)).alloc (.cells #[.func (.func 76) #[] #[.pointer (some ⟨bx, 0, none⟩)], .func (.func 77) #[] #[.pointer (some ⟨bx, 0, none⟩), .pointer (some ⟨mb, 0, none⟩)], .func (.func 79) #[] #[.pointer (some ⟨bx, 0, none⟩)]] 127) = (w.alloc (.cells #[.int .i64 pa, .int .i64 pb] 124)).alloc (.cells #[.func (.func 76) #[] #[.pointer (some ⟨bx, 0, none⟩)], .func (.func 77) #[] #[.pointer (some ⟨bx, 0, none⟩), .pointer (some ⟨mb, 0, none⟩)], .func (.func 79) #[] #[.pointer (some ⟨bx, 0, none⟩)]] 127))⟩
    have hb0 : But [] w W0 := by rw [HW0.out]; exact (alloc_but _ _).alloc _
    have hs0 : W0.heap.size = w.heap.size + 2 := by rw [HW0.out]; simp
    have HZ0 : Hid _ := hs0
    have hPB : Blk W0 w.heap.size #[.int .i64 pa, .int .i64 pb] 124 := by rw [HW0.out]; exact (alloc_but _ _).blk (blk_new _ _ _) (by simp)
    have hSB : Blk W0 (w.heap.size + 1) #[.func (.func 76) #[] #[.pointer (some ⟨bx, 0, none⟩)], .func (.func 77) #[] #[.pointer (some ⟨bx, 0, none⟩), .pointer (some ⟨mb, 0, none⟩)], .func (.func 79) #[] #[.pointer (some ⟨bx, 0, none⟩)]] 127 := by
      rw [HW0.out]
      have := blk_new (w.alloc (.cells #[.int .i64 pa, .int .i64 pb] 124)) #[.func (.func 76) #[] #[.pointer (some ⟨bx, 0, none⟩)], .func (.func 77) #[] #[.pointer (some ⟨bx, 0, none⟩), .pointer (some ⟨mb, 0, none⟩)], .func (.func 79) #[] #[.pointer (some ⟨bx, 0, none⟩)]] 127
      simpa using this
    have h00 : C0 X fp W0 := ⟨Nat.le_trans h0.N hb0.size, fun x hx => ⟨(h0.fp x hx).1, Nat.lt_of_lt_of_le (h0.fp x hx).2 hb0.size⟩, h0.wk, h0.m, Nat.lt_of_lt_of_le h0.wkl hb0.size, Nat.lt_of_lt_of_le h0.ml hb0.size, h0.Nm⟩
    have hC0 : CS (VU X bx mb most) X (Bs X an nv rows base) fp W0 met st fp W0 := ⟨hBs.below (hb0.below h0.N (by simp)), hFr _ _ _ _ _ hV hb0 (by simp), hWk.but hb0 (by simp) (by simp), But.refl _ _, fun x hx => .inl hx⟩
    have hpbn : w.heap.size ≠ X.m ∧ w.heap.size ∉ fp := ⟨by have := h0.ml; omega, fun hx => by have := (h0.fp _ hx).2; omega⟩
    have hsbn : w.heap.size + 1 ≠ X.m ∧ w.heap.size + 1 ∉ fp := ⟨by have := h0.ml; omega, fun hx => by have := (h0.fp _ hx).2; omega⟩
    have HPBN : Hid _ := hpbn
    have HSBN : Hid _ := hsbn
    have k1 : W0.cell? ⟨X.wk, 1, none⟩ = some (.map (some X.m)) := hC0.wk.1.cell rfl
    have hlk := hC0.wk.look (id := id) (by omega)
    have HC0 : Hid _ := hC0
    have H00 : Hid _ := h00
    have HB0 : Hid _ := hb0
    clear hs0 hpbn hsbn hC0 hb0 hV hWk h0 hBs h00
    rw [hpv]
    go_enter Tryz.func94, Tryz.ntmps94
    go_upto_region 1 with fail
    rw [← HW0.out]
    unfold comeS at hS
    by_cases hm : id ∈ met
    · have hd : decide (id ∈ met) = true := by simpa using hm
      simp only [hm, if_true] at hS
      obtain ⟨s1, hS1, hS2⟩ := Option.map_eq_some_iff.1 hS
      simp only [Prod.mk.injEq] at hS2
      obtain ⟨rfl, rfl⟩ := hS2
      rw [hd] at hlk
      have hp0 := hPB.cell (i := 0) rfl
      have hp1 := hPB.cell (i := 1) rfl
      have hq1 := hSB.cell (i := 1) rfl
      -- the empty block that the blank takes
      have hbE : But [] W0 (W0.alloc (.cells #[] 167)) := alloc_but _ _
      have hCE := HC0.out.still H00.out hBb hFr hbE
      have HCL : Hid _ := unf2_any X bx mb most hmo an nv rows base hNwr hW id hid pl hpl st s1 hS1 fp _ hCE.base hCE.v
      rw [hpv] at HCL
      have hp0' := (hbE.blk hPB (by simp)).cell (i := 0) rfl
      have hp1' := (hbE.blk hPB (by simp)).cell (i := 1) rfl
      have hq1' := (hbE.blk hSB (by simp)).cell (i := 1) rfl
      clear hd hS hS1
      go_wp2_with fail
      refine Calls.mono HCL.out ?_
      rintro e w1 ⟨rfl, fp1, hv1, hb1, ho1⟩
      have hC1 := hCE.step H00.out hBb hv1 hb1 ho1
      go_wp2_with fail
      exact bodyPost_ret (v := .tuple #[]) (by simp [results, Tryz.results94, go_sem]) rfl ⟨rfl, hC1.post HB0.out⟩
    · have hd : decide (id ∈ met) = false := by simpa using hm
      simp only [hm, if_false] at hS
      obtain ⟨s1, hS1, hS2⟩ := Option.bind_eq_some_iff.1 hS
      obtain ⟨r, hS3, hS4⟩ := Option.bind_eq_some_iff.1 hS2
      obtain ⟨s2, hS5, hS6⟩ := Option.map_eq_some_iff.1 hS4
      simp only [Prod.mk.injEq] at hS6
      obtain ⟨rfl, rfl⟩ := hS6
      rw [hd] at hlk
      have hnodeOk := hW.node (i := id) (by simpa using hid)
      have hpt : ∀ p ∈ (nodeAt (rows.map Row.n) id).parts, p < (rows.map Row.n).length ∧ highOf (rows.map Row.n) p < highOf (rows.map Row.n) id := fun p hp => hW.part (by simpa using hid) hp
      rw [nodeAt_rows rows id hid] at hS3 hnodeOk hpt
      have hpl5 := hnodeOk.len
      have HS1 : Hid _ := hS1
      have HS3 : Hid _ := hS3
      have HS5 : Hid _ := hS5
      have HPT : Hid _ := hpt
      obtain ⟨hwB, D, hown, hhas⟩ := HC0.out.wk
      have HHAS : Hid _ := hhas
      have HWB : Hid _ := hwB
      have hmm : met.length < 500 := by
        have := nodup_lt_length rows.length (id :: met) (List.nodup_cons.2 ⟨hm, hnd⟩) (fun x hx => by
          rcases List.mem_cons.1 hx with rfl | hx
          · exact hid
          · exact hlt x hx)
        simp at this
        omega
      have hbE : But [] W0 (W0.alloc (.cells #[] 167)) := alloc_but _ _
      have hCE := HC0.out.still H00.out hBb hFr hbE
      have HCE : Hid _ := hCE
      have hne := hCE.wk.ne
      have k1' : (W0.alloc (.cells #[] 167)).cell? ⟨X.wk, 1, none⟩ = some (.map (some X.m)) := hCE.wk.1.cell rfl
      have hND : Hid ((id :: met).Nodup ∧ ∀ x ∈ id :: met, x < rows.length) := ⟨List.nodup_cons.2 ⟨hm, hnd⟩, fun x hx => by
        rcases List.mem_cons.1 hx with rfl | hx
        · exact hid
        · exact hlt x hx⟩
      clear hd hS hS1 hS2 hS3 hS4 hS5 hhas hwB hCE hpt hnd hlt
      go_wp2_with (at_mapUpdate; refine wpList_mapUpdate_own _ rfl _ _ _ 119 rfl 3 167 lawI Tryz.underlying119 unitElem X.m met.length D rfl (hown.alloc _) (by unfold maxLen; omega) _ _ _ rfl rfl (keyI (by omega)) (.agg []) [] unitElem_mk ?_)
      intro w1 hown1 hgrow1
      obtain ⟨hWk1, hbm1⟩ := WkOk.meet (hbE.blk HWB.out (by simp)) hne hown.isMap HHAS.out hown1 hgrow1
      have hC1 := HCE.out.meet H00.out hBb hFr hWk1 hbm1
      have HC1 : Hid _ := hC1
      have hPB1 := hC1.blk H00.out hPB HPBN.out.1 HPBN.out.2
      have hSB1 := hC1.blk H00.out hSB HSBN.out.1 HSBN.out.2
      have hp0 := hPB1.cell (i := 0) rfl
      have hp1 := hPB1.cell (i := 1) rfl
      have hq0 := hSB1.cell (i := 0) rfl
      have HCL : Hid _ := unf1_any X bx mb most an nv rows base hNwr hNpc hW id hid pl hpl st s1 HS1.out fp w1 hC1.base hC1.v
      rw [hpv] at HCL
      clear hC1 hown hown1 hgrow1 hWk1 hbm1 hlk k1 k1'
      go_wp2_with fail
      refine Calls.mono HCL.out ?_
      rintro e w2 ⟨rfl, fp2, hv2, hb2, ho2⟩
      have hC2 := HC1.out.step H00.out hBb hv2 hb2 ho2
      have HC2 : Hid _ := hC2
      obtain ⟨nb, cap, hnv, hcap, hcn⟩ := hC2.base.gi.node id hid
      have HNV : Hid _ := hnv
      have k0 : w2.cell? ⟨X.wk, 0, none⟩ = some (.pointer (some ⟨X.g, 0, none⟩)) := hC2.wk.1.cell rfl
      have g0 : w2.cell? ⟨X.g, 0, none⟩ = some (.slice (some ⟨nb, 0, none⟩) rows.length cap) := by have := hC2.base.gi.gr.cell (i := 0) rfl; rw [hnv] at this; exact this
      have d3 := hcn 3 (by omega)
      simp only [Row.cells, List.getElem?_cons_succ, List.getElem?_cons_zero] at d3
      obtain ⟨pad, pcap, hpvv, hpc⟩ := own_shape (hC2.base.gi.each rows[id] (List.getElem_mem hid)).2
      rw [hpvv] at d3
      have HPVV : Hid _ := hpvv
      clear hcn hnv hpvv HCL HC1 hPB1 hSB1 hp0 hp1 hq0 hv2 hb2 ho2 hC2
      go_wp2_with fail
      clear k0 g0 d3
      go_loopw [50] (fun i wr => ∃ (k : Nat) (mk : List Nat) (sk : UnfS) (fk : List Nat), k ≤ (rows[id]).n.parts.length ∧ i = .int .i64 (k : Int) ∧ mk.Nodup ∧ (∀ x ∈ mk, x < rows.length) ∧ partsGo (comeS (rows.map Row.n) (uFirst (rows.map Row.n)) (uAgain (rows.map Row.n) most) (uFin (rows.map Row.n)) f) id ((rows[id]).n.parts.drop k) k (mk, sk) = some r ∧ CS (VU X bx mb most) X (Bs X an nv rows base) fp W0 mk sk fk wr) (fun i _ => (rows[id]).n.parts.length - (intOf i).toNat)
      case atStart => exact ⟨0, _, _, _, Nat.zero_le _, rfl, hND.out.1, hND.out.2, by simpa using HS3.out, HC2.out⟩
      case round =>
        obtain ⟨k, mk, sk, fk, hk, rfl, hmn, hmlt, hpg, hCk⟩ := hrel
        have HPG : Hid _ := hpg
        have HCK : Hid _ := hCk
        have hSBk := hCk.blk H00.out hSB HSBN.out.1 HSBN.out.2
        have q0 := hSBk.cell (i := 0) rfl
        have q1 := hSBk.cell (i := 1) rfl
        have q2 := hSBk.cell (i := 2) rfl
        clear hpg
        by_cases hkl : k < (rows[id]).n.parts.length
        · obtain ⟨st1, hg1, hg2⟩ := partsGo_cons _ id _ k hkl _ _ HPG.out
          obtain ⟨m1, s1'⟩ := st1
          have HG2 : Hid _ := hg2
          have hx := HPT.out _ (List.getElem_mem hkl)
          have hx' : (rows[id]).n.parts[k] < rows.length := by simpa using hx.1
          obtain ⟨pbk, cap', e2, _, _, hcell⟩ := ownsInt_cell (n := (rows[id]).n.parts.length) (l := (rows[id]).n.parts) (hCk.base.gi.each rows[id] (List.getElem_mem hid)).2 (by omega)
          rw [HPVV.out] at e2
          obtain ⟨rfl, rfl⟩ : pad = some ⟨pbk, 0, none⟩ ∧ pcap = cap' := by simpa using e2
          have hck := hcell k hkl
          have hkpl : PlOk (rows.map Row.n) (some (id, k)) := fun p i e => by
            cases e
            exact ⟨by simpa using hid, by rw [nodeAt_rows rows id hid]; exact hkl⟩
          have hC0k : C0 X fk wr := ⟨Nat.le_trans H00.out.N hCk.but.size, fun x hx => ⟨(hCk.no H00.out).2.2 x hx, VU.lt hCk.v x hx⟩, (hCk.no H00.out).1, (hCk.no H00.out).2.1, hCk.wk.lt.1, hCk.wk.lt.2, H00.out.Nm⟩
          have HRC : Hid _ := IH.out (rows[id]).n.parts[k] (some (id, k)) mk m1 sk s1' fk wr hg1 hx' hkpl hmn hmlt hCk.base hCk.v hCk.wk hC0k
          have hmet1 : Hid (m1.Nodup ∧ ∀ x ∈ m1, x < rows.length) := by
            have q := come_met hW _ _ _ f _ _ _ _ _ _ hg1 (by simpa using hx') hmn (by simpa using hmlt)
            exact ⟨q.1, by simpa using q.2⟩
          generalize (rows[id]).n.parts[k] = x at *
          clear hcell e2 hx hg1 hg2 hCk hC0k hSBk hmn hmlt
          go_wp2_with fail
          refine Calls.mono HRC.out ?_
          rintro e w3 ⟨rfl, hp3⟩
          obtain ⟨fp3, hC3⟩ := HCK.out.come H00.out hBb hp3
          go_wp2_with fail
          go_roundw
          case rel => exact ⟨k + 1, m1, s1', fp3, by omega, by go_num, hmet1.out.1, hmet1.out.2, HG2.out, hC3⟩
          case measure => simp [intOf]; omega
        · have hfin := partsGo_end _ id _ k hkl _ _ HPG.out
          have hS5 := HS5.out
          rw [← hfin] at hS5
          have HS5' : Hid _ := hS5
          have HFIN : Hid _ := hfin
          have HCL : Hid _ := unf3_any X bx mb most an nv rows base hW id hid sk s2 HS5'.out fk wr hCk.base hCk.v
          clear hS5 hfin hCk hmn hmlt
          go_wp2_with fail
          refine Calls.mono HCL.out ?_
          rintro e w3 ⟨rfl, fp3, hv3, hb3, ho3⟩
          have hC3 := HCK.out.step H00.out hBb hv3 hb3 ho3
          go_wp2_with fail
          go_end0
          refine ⟨rfl, ?_⟩
          rw [← HFIN.out]
          exact hC3.post HB0.out

set_option maxRecDepth 20000 in
set_option maxHeartbeats 1000000 in
/-- Walk: what was met is forgotten first. -/
theorem walk_unf (X : WEnv) (bx : Nat) (an : Nat) (nv : Value) (rows : List Row) (base : Nat) (hNwr : X.N ≤ X.wr) (hW : Whole (rows.map Row.n)) (mb : Nat) (most : Int) (hmo : most ≤ 20000) (hNpc : X.N ≤ X.pc)
    (k : Nat) (hk : k < rows.length) (met met' : List Nat) (st st' : UnfS) (hS : comeS (rows.map Row.n) (uFirst (rows.map Row.n)) (uAgain (rows.map Row.n) most) (uFin (rows.map Row.n)) 101 k none ([], st) = some (met', st')) (fp : List Nat) (w : World) (hBs : Bs X an nv rows base w) (hV : (VU X bx mb most) st fp w) (hWk : WkOk X met w) (h0 : C0 X fp w) :
    Calls Tryz.prog 61 #[.pointer (some ⟨X.wk, 0, none⟩), .int .i64 (k : Int), .agg #[.func (.func 76) #[] #[.pointer (some ⟨bx, 0, none⟩)], .func (.func 77) #[] #[.pointer (some ⟨bx, 0, none⟩), .pointer (some ⟨mb, 0, none⟩)], .func (.func 79) #[] #[.pointer (some ⟨bx, 0, none⟩)]]] w fun e w' => e = .returned (.tuple #[]) ∧ CPost (VU X bx mb most) X fp w met' st' w' := by
  have hFr : VFrame (VU X bx mb most) := VU.frame X bx mb most
  have hbA : But [] w (w.alloc (.cells #[.func (.func 76) #[] #[.pointer (some ⟨bx, 0, none⟩)], .func (.func 77) #[] #[.pointer (some ⟨bx, 0, none⟩), .pointer (some ⟨mb, 0, none⟩)], .func (.func 79) #[] #[.pointer (some ⟨bx, 0, none⟩)]] 127)) := alloc_but _ _
  have hSB : Blk (w.alloc (.cells #[.func (.func 76) #[] #[.pointer (some ⟨bx, 0, none⟩)], .func (.func 77) #[] #[.pointer (some ⟨bx, 0, none⟩), .pointer (some ⟨mb, 0, none⟩)], .func (.func 79) #[] #[.pointer (some ⟨bx, 0, none⟩)]] 127)) w.heap.size #[.func (.func 76) #[] #[.pointer (some ⟨bx, 0, none⟩)], .func (.func 77) #[] #[.pointer (some ⟨bx, 0, none⟩), .pointer (some ⟨mb, 0, none⟩)], .func (.func 79) #[] #[.pointer (some ⟨bx, 0, none⟩)]] 127 := blk_new _ _ _
  obtain ⟨hwB, D, hown, hhas⟩ := hWk.but hbA (by simp) (by simp)
  have hne : X.wk ≠ X.m := hWk.ne
  obtain ⟨w1, hcl, hown1, hb1⟩ := run_clear hown Tryz.underlying119
  have k1 : (w.alloc (.cells #[.func (.func 76) #[] #[.pointer (some ⟨bx, 0, none⟩)], .func (.func 77) #[] #[.pointer (some ⟨bx, 0, none⟩), .pointer (some ⟨mb, 0, none⟩)], .func (.func 79) #[] #[.pointer (some ⟨bx, 0, none⟩)]] 127)).cell? ⟨X.wk, 1, none⟩ = some (.map (some X.m)) := hwB.cell rfl
  have hbw : But [X.m] w w1 := (hbA.mono (S' := [X.m]) (by simp)).trans hb1 (fun x hx => .inl hx)
  have hWk1 : WkOk X [] w1 := ⟨hb1.blk hwB (by simpa using hne), _, by simpa using hown1, fun x => by simp [Maps.has]⟩
  have hV1 : (VU X bx mb most) st fp w1 := hFr _ _ _ _ _ hV hbw (fun x hx => by rw [List.mem_singleton.1 hx]; exact h0.m)
  have h01 : C0 X fp w1 := ⟨Nat.le_trans h0.N hbw.size, fun x hx => ⟨(h0.fp x hx).1, Nat.lt_of_lt_of_le (h0.fp x hx).2 hbw.size⟩, h0.wk, h0.m, Nat.lt_of_lt_of_le h0.wkl hbw.size, Nat.lt_of_lt_of_le h0.ml hbw.size, h0.Nm⟩
  have hBs1 := hBs.below (hbw.below h0.N (fun x hx => by rw [List.mem_singleton.1 hx]; exact h0.Nm))
  have HC : Hid _ := come_unf X bx an nv rows base hNwr hW mb most hmo hNpc 101 k none [] met' st st' fp w1 hS hk (fun p i e => by cases e) (by simp) (fun x hx => by cases hx) hBs1 hV1 hWk1 h01
  have hsn : w.heap.size ≠ X.m := by have := h0.ml; omega
  have hSB1 := hb1.blk hSB (by simpa using hsn)
  have q0 := hSB1.cell (i := 0) rfl
  have q1 := hSB1.cell (i := 1) rfl
  have q2 := hSB1.cell (i := 2) rfl
  have HBW : Hid _ := hbw
  unfold plV at HC
  clear hown hown1 hb1 hhas hV hWk h0 hBs hV1 hWk1 h01 hBs1 hSB hSB1 hbw hbA hwB hS
  go_enter Tryz.func61, Tryz.ntmps61
  go_wp2_with fail
  refine Calls.mono HC.out ?_
  rintro e w2 ⟨rfl, fp2, p1, p2, p3, p4⟩
  go_wp2_with fail
  go_end0
  refine ⟨rfl, fp2, p1, p2, (HBW.out.mono (S' := X.m :: fp) (by simp)).trans p3 (fun x hx => .inl hx), fun x hx => ?_⟩
  rcases p4 x hx with h | h
  · exact .inl h
  · exact .inr (Nat.le_trans HBW.out.size h)

end Go.Proofs.YtkflkmmbakccoaaGreatDoor

/- WALKS: package write: unfold, Unfolded. -/
namespace Go.Proofs.YtkflkmmbakccoaaGreatDoor
open Go.RowKit Go.Maps

theorem PcOk.empty {X : WEnv} {w : World} {n : Nat} {D : DataW Unit} (h : w.ownsMap Tryz.prog 3 pieceElem X.pc n D) (hD : D = .map []) (hn : n = 0) : PcOk X [] w := by
  subst hD hn
  exact ⟨[], .map [], ⟨(by simp), (fun x hx => by cases hx)⟩, h, (fun x => by simp [Maps.has]), (fun x => by
    rw [atKey_of_not_has (by simp [Maps.has])]
    rfl)⟩

theorem WS.unf_no {X : WEnv} {ag : List Nat} {val : Nat → Nat} {out : List UInt8} {bv : Value} {met : List Nat} {w : World} (h : WS X ag val out bv met w) {pcs : List (Nat × (Nat × Nat))} (hP : PcOk X pcs w) {bx mb : Nat} {most : Int} (hb : Blk w bx #[wpt X] 63) (hb0 : Blk w mb #[.int .i64 most] 3) (hN : X.N ≤ bx) (hN2 : X.N ≤ mb) : C0 X (bx :: mb :: X.pc :: X.wr :: own bv) w := by
  obtain ⟨hwB, D, hmo, _⟩ := h.wk
  obtain ⟨n, Dp, hpo⟩ := h.pc
  obtain ⟨A, _, hwr⟩ := h.bw.blk
  refine ⟨h.bw.N, fun x hx => ⟨?_, VU.lt (X := X) (bx := bx) (mb := mb) (most := most) (s := (out, pcs)) ⟨bv, hb, hb0, h.bw, hP, rfl⟩ x hx⟩, fun hx => ?_, fun hx => ?_, hwB.lt, hmo.lt, h.Nmm⟩
  · simp only [List.mem_cons] at hx
    rcases hx with rfl | rfl | rfl | rfl | hx
    · exact hN
    · exact hN2
    · exact h.Npc
    · exact h.Nwr
    · exact (ownsRowF_mem h.bw.row hx).1
  · simp only [List.mem_cons] at hx
    rcases hx with e | e | e | e | hx
    · rw [e] at hwB; exact absurd (hwB.inj hb).2 (by decide)
    · rw [e] at hwB; exact absurd (hwB.inj hb0).2 (by decide)
    · rw [e] at hwB; exact hwB.not_map hpo
    · rw [e] at hwB; exact absurd (hwB.inj hwr).2 (by decide)
    · obtain ⟨_, cs', fz, hg⟩ := ownsRowF_mem h.bw.row hx
      unfold Blk at hwB
      rw [hg] at hwB
      simp only [Option.some.injEq, Obj.cells.injEq] at hwB
      exact absurd hwB.2.1 (by decide)
  · simp only [List.mem_cons] at hx
    rcases hx with e | e | e | e | hx
    · rw [e] at hmo; exact hb.not_map hmo
    · rw [e] at hmo; exact hb0.not_map hmo
    · exact h.mp e
    · rw [e] at hmo; exact hwr.not_map hmo
    · obtain ⟨_, cs', fz, hg⟩ := ownsRowF_mem h.bw.row hx
      obtain ⟨es, clock, h3⟩ := ownsMap_block hmo
      rw [hg] at h3
      simp at h3

set_option maxRecDepth 20000 in
set_option maxHeartbeats 2000000 in
theorem wUnfold_any (X : WEnv) (ag : List Nat) (val : Nat → Nat) (bv : Value) (met : List Nat) (w : World) (h : WS X ag val [] bv met w) (hP : PcOk X [] w) (an : Nat) (nv : Value) (rows : List Row) (base : Nat) (hW : Whole (rows.map Row.n)) (hBs : Bs X an nv rows base w) (k : Nat) (hk : k < rows.length) (most : Int) (hmo : most ≤ 20000) (met' : List Nat) (s' : UnfS)
    (hS : comeS (rows.map Row.n) (uFirst (rows.map Row.n)) (uAgain (rows.map Row.n) most) (uFin (rows.map Row.n)) 101 k none ([], ([], [])) = some (met', s')) :
    Calls Tryz.prog 50 #[wpt X, .int .i64 (k : Int), .int .i64 most] w fun e w' => e = .returned (.tuple #[]) ∧ (∃ bv', BW X s'.1 bv' w') ∧ Below X.N w w' := by
  obtain ⟨W, HWe⟩ : ∃ W, Hid (W = (w.alloc (.cells #[wpt X] 63)).alloc (.cells #[.int .i64 most] 3)) := ⟨_, (rfl : (w.alloc (.cells #[wpt X] 63)).alloc (.cells #[.int .i64 most] 3) = (w.alloc (.cells #[wpt X] 63)).alloc (.cells #[.int .i64 most] 3))⟩
  have hbA : But [] w W := by rw [HWe.out]; exact (alloc_but _ _).alloc _
  have hBx : Blk W w.heap.size #[wpt X] 63 := by rw [HWe.out]; exact (alloc_but _ _).blk (blk_new _ _ _) (by simp)
  have hBm : Blk W (w.heap.size + 1) #[.int .i64 most] 3 := by
    rw [HWe.out]
    have := blk_new (w.alloc (.cells #[wpt X] 63)) #[.int .i64 most] 3
    simpa using this
  have hA := h.still hbA
  have hPA := hP.but hbA (by simp)
  have hNb : X.N ≤ w.heap.size := h.bw.N
  have hBsA := hBs.below (hbA.below hNb (by simp))
  have hC := hA.unf_no hPA hBx hBm hNb (by omega)
  have c1 := hA.bw.cell.2.1
  have x0 : W.cell? ⟨w.heap.size, 0, none⟩ = some (wpt X) := hBx.cell rfl
  have HWK : Hid _ := walk_unf X w.heap.size an nv rows base h.Nwr hW (w.heap.size + 1) most hmo h.Npc k hk met met' ([], []) s' hS (w.heap.size :: (w.heap.size + 1) :: X.pc :: X.wr :: own bv) W hBsA ⟨bv, hBx, hBm, hA.bw, hPA, rfl⟩ hA.wk hC
  have HC : Hid (C0 X (w.heap.size :: (w.heap.size + 1) :: X.pc :: X.wr :: own bv) W) := hC
  have HBB : Hid (But [] w W) := hbA
  clear hA h hBs hBsA hS hbA hBx hBm hPA hP hC
  go_enter Tryz.func50, Tryz.ntmps50
  go_upto_region 1 with fail
  rw [← HWe.out]
  go_wp2_with fail
  refine Calls.mono HWK.out ?_
  rintro e w2 ⟨rfl, hp⟩
  go_wp2_with fail
  go_end0
  obtain ⟨fp', ⟨bv', _, _, hB', _, _⟩, _, hb', _⟩ := hp
  refine ⟨rfl, ⟨bv', hB'⟩, (HBB.out.below hNb (by simp)).trans (hb'.below (Nat.le_trans hNb HBB.out.size) (fun x hx => ?_))⟩
  rcases List.mem_cons.1 hx with rfl | hx
  · exact HC.out.Nm
  · exact (HC.out.fp x hx).1

/-- What Unfolded answers. -/
def unfB (nodes : List NodeV) (k : Nat) (most : Int) : Value := if ((unfoldL nodes k).length : Int) ≤ most then .tuple #[.string ⟨(unfoldL nodes k).toArray⟩, .bool true] else .tuple #[.string ⟨#[]⟩, .bool false]

set_option maxHeartbeats 1000000 in
theorem wUnfolded_any (X : WEnv) (ag0 : List Nat) (val : Nat → Nat) (out : List UInt8) (bv : Value) (met : List Nat) (w : World) (h : WS X ag0 val out bv met w) (an : Nat) (nv : Value) (rows : List Row) (base : Nat) (hW : Whole (rows.map Row.n)) (hBs : Bs X an nv rows base w) (k : Nat) (hk : k < rows.length) (most : Int) (hmo : most ≤ 20000) :
    Calls Tryz.prog 33 #[wpt X, .int .i64 (k : Int), .int .i64 most] w fun e w' => e = .returned (unfB (rows.map Row.n) k most) ∧ Below X.N w w' := by
  obtain ⟨met', s', hS, hRR, hl⟩ := unfold_come hW most hmo (k := k) (by simpa using hk)
  have hne : unfoldL (rows.map Row.n) k ≠ [] := unfoldL_ne hW (by simpa using hk)
  have HNE : Hid (unfoldL (rows.map Row.n) k ≠ []) := hne
  have H1 : Hid _ := hS
  have HB : Hid _ := wBegin_any X ag0 val out bv met w h
  have hcase : (s'.1 = unfoldL (rows.map Row.n) k ∧ ((unfoldL (rows.map Row.n) k).length : Int) ≤ most ∧ (s'.1.length : Int) ≤ most) ∨ (most < (s'.1.length : Int) ∧ most < ((unfoldL (rows.map Row.n) k).length : Int)) := by
    by_cases hle : (s'.1.length : Int) ≤ most
    · have e := hRR.eq hle
      exact .inl ⟨e, by rw [← e]; exact hle, hle⟩
    · rcases hRR with e | ⟨h1, h2⟩
      · exact .inr ⟨by omega, by rw [← e]; omega⟩
      · exact .inr ⟨h1, h2⟩
  have HCASE : Hid _ := hcase
  clear hS hne hcase hRR
  go_enter Tryz.func33, Tryz.ntmps33
  go_wp2_with fail
  refine Calls.mono HB.out ?_
  rintro e w1 ⟨rfl, hS1, ⟨n1, hn1, hm1⟩, hb1⟩
  have hBs1 := hBs.below hb1
  have hP1 : PcOk X [] w1 := PcOk.empty hm1 rfl hn1
  clear hn1 hm1
  go_wp2_with fail
  refine (wUnfold_any X _ _ _ met w1 hS1 hP1 an nv rows base hW hBs1 k hk most hmo _ _ H1.out).mono ?_
  rintro e w2 ⟨rfl, ⟨bv2, hB2⟩, hb2⟩
  obtain ⟨o2, hO2⟩ : ∃ o2, o2 = s'.1 := ⟨_, rfl⟩
  have HO2 : Hid (o2 = s'.1) := hO2
  rw [← hO2] at hB2 hl
  have HC2 := HCASE.out
  rw [← hO2] at HC2
  clear hO2
  go_wp2_with fail
  refine (bLen_any X o2 bv2 w2 hB2).mono ?_
  rintro e w3 ⟨rfl, hw3⟩
  rw [hw3]
  clear hw3
  rcases HC2 with ⟨he, hT, hle⟩ | ⟨h1, h2⟩
  · have HE : Hid (o2 = unfoldL (rows.map Row.n) k) := he
    have HT : Hid _ := hT
    have hne2 : o2 ≠ [] := by rw [he]; exact HNE.out
    have HST : Hid _ := bString_any X o2 bv2 w2 hB2 hne2
    clear he hT hne2
    go_wp2_with fail
    refine Calls.mono HST.out ?_
    rintro e w4 ⟨rfl, hB4, hb4⟩
    go_wp2_with fail
    go_ret2
    refine ⟨?_, (hb1.trans hb2).trans (hb4.below hB2.N (fun x hx => (ownsRowF_mem hB2.row hx).1))⟩
    unfold unfB
    rw [if_pos HT.out, HE.out]
    rfl
  · have HT : Hid _ := h2
    clear h2
    go_wp2_with fail
    go_ret2
    refine ⟨?_, hb1.trans hb2⟩
    unfold unfB
    rw [if_neg (by have := HT.out; omega)]
    rfl

end Go.Proofs.YtkflkmmbakccoaaGreatDoor

/- WALKS: package grafterref: decimal, scalar. -/
namespace Go.Proofs.YtkflkmmbakccoaaGreatDoor
open Go.RowKit Go.Maps

/-- Bytes as a string. -/
abbrev bS (l : List UInt8) : ByteArray := ⟨l.toArray⟩

theorem bS_app (a b : List UInt8) : bS a ++ bS b = bS (a ++ b) := by
  apply ByteArray.ext
  simp [ByteArray.data_append]

theorem bS_data (x : ByteArray) : bS x.data.toList = x := by
  apply ByteArray.ext
  simp

theorem bS_size (l : List UInt8) : (bS l).size = l.length := by simp [ByteArray.size]

theorem ret_str {a b : ByteArray} (h : a = b) : Ending.returned (.string a) = .returned (.string b) := by rw [h]

/-- A digit. -/
def dch (d : Nat) : UInt8 := UInt8.ofNat (48 + d)

set_option maxRecDepth 100000 in
theorem digit_run (w : World) : ∀ d : Nat, d < 10 → (Instr.slice 9 (.string ⟨#[48, 49, 50, 51, 52, 53, 54, 55, 56, 57]⟩) (some (.int .i64 (d : Int))) (some (.int .i64 ((d : Int) + 1))) none).run Tryz.prog w = .ok (.string (bS [dch d])) w := by
  intro d hd
  have : d = 0 ∨ d = 1 ∨ d = 2 ∨ d = 3 ∨ d = 4 ∨ d = 5 ∨ d = 6 ∨ d = 7 ∨ d = 8 ∨ d = 9 := by omega
  rcases this with rfl | rfl | rfl | rfl | rfl | rfl | rfl | rfl | rfl | rfl <;> rfl

set_option maxRecDepth 20000 in
set_option maxHeartbeats 400000 in
theorem decimal_any (n : Nat) : ∀ (w : World), n ≤ 1000000 →
    Calls Tryz.prog 84 #[.int .i64 (n : Int)] w fun e w' => ∃ x : ByteArray, e = .returned (.string x) ∧ w' = w ∧ Hid (x = bS (decL n)) ∧ x.size ≤ 1000001 := by
  induction n using Nat.strongRecOn with
  | _ n ih =>
    intro w hn
    have hdr : (Instr.slice 9 (.string ⟨#[48, 49, 50, 51, 52, 53, 54, 55, 56, 57]⟩) (some (.int .i64 ((n : Int) % 10))) (some (.int .i64 ((n : Int) % 10 + 1))) none).run Tryz.prog w = .ok (.string (bS [dch (n % 10)])) w := by
      have := digit_run w (n % 10) (by omega)
      simpa using this
    have h0 : (0 : Int) ≤ (n : Int) := by omega
    by_cases h10 : n < 10
    · have HE : Hid (decL n = [dch (n % 10)]) := by
        unfold Hid
        rw [decL, dif_pos h10, Nat.mod_eq_of_lt h10]; rfl
      clear ih
      go_enter Tryz.func84, Tryz.ntmps84
      go_wp2_with fail
      go_ret
      exact ⟨_, rfl, rfl, by unfold Hid; rw [HE.out], by simp [ByteArray.size]⟩
    · have HI : Hid _ := ih (n / 10) (by omega) w (by omega)
      have HE : Hid (decL n = decL (n / 10) ++ [dch (n % 10)]) := by
        unfold Hid
        rw [decL, dif_neg h10]; rfl
      clear ih
      go_enter Tryz.func84, Tryz.ntmps84
      go_wp2_with fail
      refine Calls.mono HI.out ?_
      rintro e w1 ⟨x, rfl, hw1, HX, hxs⟩
      rw [hw1]
      clear hw1
      obtain ⟨y, hy⟩ : ∃ y, y = bS [dch (n % 10)] := ⟨_, rfl⟩
      have HY : Hid (y = bS [dch (n % 10)]) := hy
      have hys : y.size ≤ 1 := by rw [hy, bS_size]; simp
      rw [← hy]
      clear hy hdr
      go_wp2_with fail
      go_ret
      refine ⟨_, rfl, rfl, by unfold Hid; rw [HE.out, HX.out, HY.out, bS_app], ?_⟩
      rw [HX.out, HY.out, bS_app, ← HE.out, bS_size]
      have := decL_len n
      omega

end Go.Proofs.YtkflkmmbakccoaaGreatDoor

/- WALKS: package grafterref: scalar, count. The graph of grafterref in memory, as it is told. -/
namespace Go.Proofs.YtkflkmmbakccoaaGreatDoor
open Go.RowKit Go.Maps

set_option maxHeartbeats 1000000 in
theorem rScalar_any (x : ByteArray) (w : World) (hs : x.size ≤ 1000) :
    Calls Tryz.prog 85 #[.string x] w fun e w' => ∃ y : ByteArray, e = .returned (.string y) ∧ w' = w ∧ Hid (y = bS (textL x)) ∧ y.size ≤ 1002 := by
  go_enter Tryz.func85, Tryz.ntmps85
  by_cases h1 : 1 ≤ x.size
  all_goals
    go_wp2_with fail
    go_loop [3, 4, 5] (fun wd i _ => ∃ k : Nat, k ≤ x.size ∧ i = .int .i64 k ∧ wd = .bool ((decide (1 ≤ x.size) && decide (x.size ≤ 12)) && (x.data.toList.take k).all (fun b => isWB (b.toNat : Int)))) (fun _ i _ => x.size - (intOf i).toNat)
    case atStart =>
      refine ⟨0, Nat.zero_le _, rfl, ?_⟩
      first | (simp [h1]; done) | (simp [h1]; omega)
    case round =>
      obtain ⟨k, hk, rfl, rfl⟩ := hrel
      by_cases hlt : k < x.size
      · have HT : Hid _ := isWord_take x k hlt
        have hx0 : (0 : Int) ≤ (x[k].toNat : Int) := by omega
        have hx1 : (x[k].toNat : Int) ≤ 255 := by have := x[k].toNat_lt; omega
        generalize hW : (decide (1 ≤ x.size) && decide (x.size ≤ 12) && (x.data.toList.take k).all (fun b => isWB (b.toNat : Int))) = W
        have HW : Hid _ := hW
        clear hW
        cases W
        all_goals
          go_wp2_with (go_at_call 109; refine (letter_any _ _).mono ?_; rintro e w' ⟨rfl, rfl⟩)
          go_round
          case rel =>
            refine ⟨k + 1, by omega, by go_num, ?_⟩
            rw [HT.out, ← Bool.and_assoc, HW.out]
            simp
          case measure => simp [intOf]; omega
      · have e : (decide (1 ≤ x.size) && decide (x.size ≤ 12) && (x.data.toList.take k).all (fun b => isWB (b.toNat : Int))) = isWordB x := by
          unfold isWordB
          rw [List.take_of_length_le (by simp; omega)]
        rw [e]
        by_cases hw : isWordB x = true
        · have HT : Hid (textL x = x.data.toList) := by unfold Hid textL; rw [if_pos hw]
          rw [hw]
          clear e hw
          go_wp2_with fail
          go_ret
          exact ⟨_, rfl, rfl, by unfold Hid; rw [HT.out, bS_data], by omega⟩
        · have hw' : isWordB x = false := by simpa using hw
          have HT : Hid (textL x = 34 :: (x.data.toList ++ [34])) := by unfold Hid textL; rw [if_neg hw]
          rw [hw']
          clear e hw hw'
          go_wp2_with fail
          go_ret
          refine ⟨_, rfl, rfl, ?_, ?_⟩
          · unfold Hid
            rw [HT.out]
            apply ByteArray.ext
            simp [ByteArray.data_append]
          · rw [ByteArray.size_append, ByteArray.size_append]
            show 1 + x.size + 1 ≤ 1002
            omega

end Go.Proofs.YtkflkmmbakccoaaGreatDoor

/- WALKS: package grafterref: count. The graph of grafterref in memory, as it is told. -/
namespace Go.Proofs.YtkflkmmbakccoaaGreatDoor
open Go.RowKit Go.Maps

/-- The Reader's nodes, as they are told: all of it lies below N. -/
structure RG (N b : Nat) (nv : Value) (rows : List RRow) (base : Nat) (w : World) : Prop where
  rd : ∃ cs, Blk w b cs 114 ∧ cs[8]? = some nv
  nodes : w.ownsRow base 109 6 nv rows.length (rows.flatMap RRow.cells)
  each : ∀ r ∈ rows, RRowOk w base r
  lt : ∀ x ∈ b :: (own nv ++ rpub rows), x < N
  N : N ≤ w.heap.size

theorem RG.below {N b : Nat} {nv : Value} {rows : List RRow} {base : Nat} {w w' : World} (h : RG N b nv rows base w) (hb : Below N w w') : RG N b nv rows base w' := by
  have hB : ∀ x, x < N → w'.heap[x]? = w.heap[x]? := fun x hx => hb.block x hx
  have hrow : ∀ {e sz n : Nat} {v : Value} {xs : List Value}, w.ownsRow base e sz v n xs → (∀ x ∈ own v, x < N) → w'.ownsRow base e sz v n xs := fun {e sz n v xs} h1 h2 => by
    refine ⟨h1.1, ?_⟩
    rcases h1.2 with h3 | ⟨g, cap, cur, rfl, hB', hg, r⟩
    · exact .inl h3
    · exact .inr ⟨g, cap, cur, rfl, hB', by rw [hB g (h2 g (by simp [own]))]; exact hg, r⟩
  obtain ⟨cs, hc, h8⟩ := h.rd
  refine ⟨⟨cs, ?_, h8⟩, hrow h.nodes (fun x hx => h.lt x (by simp [hx])), fun r hr => ?_, h.lt, Nat.le_trans h.N hb.size⟩
  · unfold Blk at *
    rw [hB b (h.lt _ (List.mem_cons_self ..))]
    exact hc
  · have hp : ∀ x ∈ r.pub, x < N := fun x hx => h.lt x (by
      simp only [List.mem_cons, List.mem_append, rpub, List.mem_flatMap]
      exact .inr (.inr ⟨r, hr, hx⟩))
    exact ⟨hrow (h.each r hr).1 (fun x hx => hp x (by simp [RRow.pub, hx])), hrow (h.each r hr).2 (fun x hx => hp x (by simp [RRow.pub, hx]))⟩

theorem RG.node {N b : Nat} {nv : Value} {rows : List RRow} {base : Nat} {w : World} (h : RG N b nv rows base w) (i : Nat) (hi : i < rows.length) :
    ∃ nb cap, nv = .slice (some ⟨nb, 0, none⟩) rows.length cap ∧ rows.length ≤ cap ∧ ∀ j, j < 6 → w.cell? ⟨nb, i * 6 + j, none⟩ = (rows[i]).cells[j]? := by
  rcases h.nodes.2 with ⟨_, h0⟩ | ⟨g, cap, cur, e, hb, hg, hc, hm, hs, ht⟩
  · omega
  · refine ⟨g, cap, e, hc, fun j hj => ?_⟩
    have h1 := rflat_at rows i j hi hj
    rw [← ht, List.getElem?_take, if_pos (by omega)] at h1
    rw [← h1]
    simp only [World.cell?, hg]
    simp

/-- The rows say what the plain nodes say. -/
structure RSame (nodes : List NodeV) (rows : List RRow) : Prop where
  same : nodes = rows.map RRow.n
  kb : ∀ r ∈ rows, r.kb = kbyte r.n.kind

theorem rnodeAt {nodes : List NodeV} {rows : List RRow} (h : RSame nodes rows) (i : Nat) (hi : i < rows.length) : nodeAt nodes i = (rows[i]).n := by rw [h.same]; simp [nodeAt, List.getD, hi]

theorem rsame_of {s : ByteArray} {t : PS} {rows : List RRow} {names : List (ByteArray × Nat)} {an : Nat} (h : RSt s ov0 t rows names an) (hW : Whole t.nodes) : RSame t.nodes rows := by
  refine ⟨?_, fun r hr => ?_⟩
  · apply List.ext_getElem?
    intro i
    by_cases hi : i < rows.length
    · rw [(h.shut i hi rfl).1]
      simp [hi]
    · rw [List.getElem?_eq_none (by rw [← h.len]; omega), List.getElem?_eq_none (by simp; omega)]
  · obtain ⟨i, hi, rfl⟩ := List.mem_iff_getElem.1 hr
    obtain ⟨h1, h2⟩ := h.shut i hi rfl
    refine h2 ?_
    have := hW.all i (by rw [← h.len]; exact hi)
    simpa [highOf, List.getD, h1] using this

theorem RMem.toRG {R : REnv} {K k an er pl : Nat} {nv mv : Value} {rows : List RRow} {names : List (ByteArray × Nat)} {w : World} (h : RMem R K k an er pl nv mv rows names w) : RG w.heap.size R.b nv rows R.base w := by
  refine ⟨⟨_, h.rd, rfl⟩, h.nodes, h.ok, fun x hx => ?_, Nat.le_refl _⟩
  simp only [List.mem_cons, List.mem_append] at hx
  rcases hx with rfl | hx | hx
  · exact h.rd.lt
  · obtain ⟨_, cs, hc⟩ := ownsRow_lt h.nodes hx
    exact hc.lt
  · obtain ⟨cs, T, hc, _⟩ := h.pub_block hx
    exact hc.lt

/-- How often each node has been come to. -/
def oftenL (n : Nat) (met ag : List Nat) : List Nat := (List.range n).map (fun i => (if i ∈ met then 1 else 0) + ag.count i)

theorem oftenL_at (n : Nat) (met ag : List Nat) (i : Nat) (hi : i < n) : (oftenL n met ag)[i]? = some ((if i ∈ met then 1 else 0) + ag.count i) := by simp [oftenL, hi]

theorem oftenL_set (n : Nat) (met ag met' ag' : List Nat) (k v : Nat) (hv : v = (if k ∈ met' then 1 else 0) + ag'.count k) (ho : ∀ i, i ≠ k → (if i ∈ met' then 1 else 0) + ag'.count i = (if i ∈ met then 1 else 0) + ag.count i) : (oftenL n met ag).set k v = oftenL n met' ag' := by
  apply List.ext_getElem?
  intro i
  by_cases hi : i < n
  · rw [oftenL_at n met' ag' i hi, List.getElem?_set]
    by_cases e : k = i
    · subst e
      simp [oftenL, hi, hv]
    · rw [if_neg e, oftenL_at n met ag i hi, ho i (fun h => e h.symm)]
  · rw [List.getElem?_eq_none (by simp [oftenL]; omega), List.getElem?_eq_none (by simp [oftenL]; omega)]

/-- A row of whole numbers of one's own: the block, where it is written. -/
theorem row1_set {w : World} {base n g cap : Nat} {e : TypeId} {xs : List Value} (h : w.ownsRow base e 1 (.slice (some ⟨g, 0, none⟩) n cap) n xs) (i : Nat) (v : Value) :
    (w.setCell ⟨g, i, none⟩ v).ownsRow base e 1 (.slice (some ⟨g, 0, none⟩) n cap) n (xs.set i v) ∧ w.frozen? ⟨g, i, none⟩ = false := by
  rcases h.2 with ⟨hv, _⟩ | ⟨g', cap', cur, hv, hb, hg, hc, hm, hs, ht⟩
  · cases hv
  · injection hv with ha _ hcap
    injection ha with ha
    injection ha with hgg _ _
    subst hgg hcap
    have hB : Blk w g cur e := hg
    refine ⟨⟨by simpa using h.1, .inr ⟨g, cap, cur.setIfInBounds i v, rfl, hb, hB.set i v, hc, hm, by simpa using hs, ?_⟩⟩, hB.free i⟩
    rw [Array.toList_setIfInBounds, List.take_set, ht]

abbrev natsV (l : List Nat) : List Value := l.map (fun (i : Nat) => Value.int .i64 (i : Int))

theorem agM_len {nodes : List NodeV} (hW : Whole nodes) (f : Nat) : ∀ id met, id < nodes.length → met.Nodup → (∀ x ∈ met, x < nodes.length) →
    (agM nodes f id met).2.length + 1000 * met.length ≤ 1 + 1000 * (agM nodes f id met).1.length := by
  induction f with
  | zero => intro id met _ _ _; simp [agM]
  | succ f ih =>
    intro id met hid h1 h2
    unfold agM
    by_cases hm : id ∈ met
    · simp [hm]
    · simp only [hm, if_false]
      have key : ∀ ps m l, (∀ p ∈ ps, p < nodes.length) → m.Nodup → (∀ x ∈ m, x < nodes.length) → (agP (agM nodes f) ps (m, l)).2.length + 1000 * m.length ≤ l.length + ps.length + 1000 * (agP (agM nodes f) ps (m, l)).1.length := by
        intro ps
        induction ps with
        | nil => intro m l _ _ _; simp [agP]
        | cons p ps ihp =>
          intro m l hp a b
          simp only [agP]
          have hp0 := hp p (List.mem_cons_self ..)
          obtain ⟨a1, b1, _⟩ := agM_met hW f p m hp0 a b
          have t1 := ih p m hp0 a b
          have t3 := ihp (agM nodes f p m).1 ((agM nodes f p m).2 ++ l) (fun q hq => hp q (List.mem_cons_of_mem _ hq)) a1 b1
          simp only [List.length_append, List.length_cons] at t3 ⊢
          omega
      have k := key (nodeAt nodes id).parts (id :: met) [] (fun p hp => (hW.part hid hp).1) (List.nodup_cons.2 ⟨hm, h1⟩) (fun x hx => by
        rcases List.mem_cons.1 hx with rfl | hx
        · exact hid
        · exact h2 x hx)
      have k1 := (hW.node hid).len
      simp only [List.length_cons, List.length_nil] at k
      omega

/-- What is come to again has been met. -/
theorem agM_sub {nodes : List NodeV} (f : Nat) : ∀ id met, (∀ x ∈ met, x ∈ (agM nodes f id met).1) ∧ ∀ x ∈ (agM nodes f id met).2, x ∈ (agM nodes f id met).1 := by
  induction f with
  | zero => intro id met; exact ⟨fun x hx => hx, fun x hx => by cases hx⟩
  | succ f ih =>
    intro id met
    unfold agM
    by_cases hm : id ∈ met
    · simp only [hm, if_true]
      exact ⟨fun x hx => hx, fun x hx => by rw [List.mem_singleton.1 hx]; exact hm⟩
    · simp only [hm, if_false]
      have key : ∀ ps m l, (∀ x ∈ l, x ∈ m) → (∀ x ∈ m, x ∈ (agP (agM nodes f) ps (m, l)).1) ∧ ∀ x ∈ (agP (agM nodes f) ps (m, l)).2, x ∈ (agP (agM nodes f) ps (m, l)).1 := by
        intro ps
        induction ps with
        | nil => intro m l h; exact ⟨fun x hx => hx, h⟩
        | cons p ps ihp =>
          intro m l h
          simp only [agP]
          obtain ⟨a, b⟩ := ih p m
          obtain ⟨c, d⟩ := ihp (agM nodes f p m).1 ((agM nodes f p m).2 ++ l) (fun x hx => by
            rcases List.mem_append.1 hx with hx | hx
            · exact b x hx
            · exact a x (h x hx))
          exact ⟨fun x hx => c x (a x hx), d⟩
      obtain ⟨a, b⟩ := key (nodeAt nodes id).parts (id :: met) [] (fun x hx => by cases hx)
      exact ⟨fun x hx => a x (List.mem_cons_of_mem _ hx), b⟩

theorem agP_cons (go : Nat → List Nat → List Nat × List Nat) (ps : List Nat) (k : Nat) (hk : k < ps.length) (st : List Nat × List Nat) : agP go (ps.drop k) st = agP go (ps.drop (k + 1)) ((go ps[k] st.1).1, (go ps[k] st.1).2 ++ st.2) := by
  rw [List.drop_eq_getElem_cons hk]; rfl

set_option maxRecDepth 20000 in
set_option maxHeartbeats 2000000 in
theorem count_any {N b : Nat} {nv : Value} {rows : List RRow} {base : Nat} {nodes : List NodeV} (hR : RSame nodes rows) (hW : Whole nodes) (g cap : Nat) (hNg : N ≤ g) (f : Nat) : ∀ (id : Nat) (met ag : List Nat) (w : World), id < rows.length → highOf nodes id < f → met.Nodup → (∀ x ∈ met, x < rows.length) → (∀ x ∈ ag, x ∈ met) → ag.length + (agM nodes f id met).2.length ≤ 1000000000 → RG N b nv rows base w →
    w.ownsRow N 3 1 (.slice (some ⟨g, 0, none⟩) rows.length cap) rows.length (natsV (oftenL rows.length met ag)) →
    Calls Tryz.prog 83 #[.pointer (some ⟨b, 0, none⟩), .int .i64 (id : Int), .slice (some ⟨g, 0, none⟩) rows.length cap] w fun e w' => e = .returned (.tuple #[]) ∧
      w'.ownsRow N 3 1 (.slice (some ⟨g, 0, none⟩) rows.length cap) rows.length (natsV (oftenL rows.length (agM nodes f id met).1 ((agM nodes f id met).2 ++ ag))) ∧ But [g] w w' := by
  have hnl : nodes.length = rows.length := by rw [hR.same]; simp
  induction f with
  | zero => intro id met ag w _ h; omega
  | succ f ih =>
    intro id met ag w hid hf hnd hlt hsub hbd hG hrow
    have IH : Hid _ := ih
    have hrl : rows.length ≤ 500 := by have := hW.len; omega
    obtain ⟨g2, cap2, e2, hcapn, _, hcell⟩ := row1_cell hrow (by omega)
    obtain ⟨rfl, rfl⟩ : g = g2 ∧ cap = cap2 := by simpa using e2
    have hcnt : ag.count id ≤ ag.length := List.count_le_length
    clear ih e2
    by_cases hm : id ∈ met
    · have hag : agM nodes (f + 1) id met = (met, [id]) := by unfold agM; simp [hm]
      have HAG : Hid _ := hag
      have c0 : w.cell? ⟨g, id, none⟩ = some (.int .i64 (1 + (ag.count id : Int))) := by
        have := hcell id _ (by rw [natsV, List.getElem?_map, oftenL_at _ _ _ _ hid]; rfl)
        rw [if_pos hm] at this
        simpa using this
      have hset := row1_set hrow id (.int .i64 (1 + (ag.count id : Int) + 1))
      have f0 := hset.2
      have hc1 : (w.setCell ⟨g, id, none⟩ (.int .i64 (1 + (ag.count id : Int) + 1))).cell? ⟨g, id, none⟩ = some (.int .i64 (1 + (ag.count id : Int) + 1)) := by
        obtain ⟨g3, cap3, e3, _, _, h3⟩ := row1_cell hset.1 (by omega)
        obtain ⟨rfl, rfl⟩ : g = g3 ∧ cap = cap3 := by simpa using e3
        exact h3 id _ (by simp [natsV, oftenL, hid])
      have hfin : (natsV (oftenL rows.length met ag)).set id (.int .i64 (1 + (ag.count id : Int) + 1)) = natsV (oftenL rows.length met ([id] ++ ag)) := by
        rw [← oftenL_set rows.length met ag met ([id] ++ ag) id (1 + ag.count id + 1) (by simp [hm]; omega) (fun i hi => by simp [Ne.symm hi])]
        simp [natsV, List.map_set]
      have HS : Hid (_ ∧ _) := ⟨hset.1, hfin⟩
      clear hag hset hrow hcell hfin
      generalize (ag.count id) = c at *
      go_enter Tryz.func83, Tryz.ntmps83
      go_wp2_with fail
      refine bodyPost_ret (v := .tuple #[]) (by simp [results, Tryz.results83, go_sem]) rfl ⟨rfl, ?_, (But.refl _ _).setCell (by simp) _⟩
      rw [HAG.out]
      have := HS.out.1
      rw [HS.out.2] at this
      exact this
    · have hc00 : ag.count id = 0 := List.count_eq_zero.2 (fun h => hm (hsub id h))
      have hag : agM nodes (f + 1) id met = agP (agM nodes f) (nodeAt nodes id).parts (id :: met, []) := by unfold agM; simp [hm]
      have hnode := hW.node (i := id) (by omega)
      have hpt : ∀ p ∈ (nodeAt nodes id).parts, p < nodes.length ∧ highOf nodes p < highOf nodes id := fun p hp => hW.part (by omega) hp
      rw [hag] at hbd
      rw [rnodeAt hR id hid] at hag hnode hpt hbd
      have HAG : Hid _ := hag
      have hpl5 := hnode.len
      have c0 : w.cell? ⟨g, id, none⟩ = some (.int .i64 0) := by
        have := hcell id _ (by rw [natsV, List.getElem?_map, oftenL_at _ _ _ _ hid]; rfl)
        rw [if_neg hm, hc00] at this
        simpa using this
      have hset := row1_set hrow id (.int .i64 1)
      have f0 := hset.2
      have hc1 : (w.setCell ⟨g, id, none⟩ (.int .i64 1)).cell? ⟨g, id, none⟩ = some (.int .i64 1) := by
        obtain ⟨g3, cap3, e3, _, _, h3⟩ := row1_cell hset.1 (by omega)
        obtain ⟨rfl, rfl⟩ : g = g3 ∧ cap = cap3 := by simpa using e3
        exact h3 id _ (by simp [natsV, oftenL, hid])
      have hfin : (natsV (oftenL rows.length met ag)).set id (.int .i64 1) = natsV (oftenL rows.length (id :: met) ag) := by
        rw [← oftenL_set rows.length met ag (id :: met) ag id 1 (by simp [hc00]) (fun i hi => by simp [hi])]
        simp [natsV, List.map_set]
      rw [hfin] at hset
      have hb1 : But [g] w (w.setCell ⟨g, id, none⟩ (.int .i64 1)) := (But.refl _ _).setCell (by simp) _
      have hG1 := hG.below (hb1.below hG.N (fun x hx => by rw [List.mem_singleton.1 hx]; exact hNg))
      obtain ⟨W, HWe⟩ : ∃ W, Hid (W = w.setCell ⟨g, id, none⟩ (.int .i64 1)) := ⟨_, (rfl : w.setCell ⟨g, id, none⟩ (.int .i64 1) = w.setCell ⟨g, id, none⟩ (.int .i64 1))⟩
      have HS : Hid (W.ownsRow N 3 1 (.slice (some ⟨g, 0, none⟩) rows.length cap) rows.length (natsV (oftenL rows.length (id :: met) ag))) := by rw [HWe.out]; exact hset.1
      have HG1 : Hid (RG N b nv rows base W) := by rw [HWe.out]; exact hG1
      have HB1 : Hid (But [g] w W) := by rw [HWe.out]; exact hb1
      have HPT : Hid _ := hpt
      have HBD : Hid _ := hbd
      have HND : Hid ((id :: met).Nodup ∧ (∀ x ∈ id :: met, x < rows.length) ∧ ∀ x ∈ ([] : List Nat) ++ ag, x ∈ id :: met) := ⟨List.nodup_cons.2 ⟨hm, hnd⟩, fun x hx => by
        rcases List.mem_cons.1 hx with rfl | hx
        · exact hid
        · exact hlt x hx, fun x hx => List.mem_cons_of_mem _ (hsub x (by simpa using hx))⟩
      clear hag hset hrow hcell hfin hG hb1 hG1 hpt hbd hnd hlt hsub
      go_enter Tryz.func83, Tryz.ntmps83
      go_upto_region 3 with fail
      rw [← HWe.out]
      go_loopw [6] (fun i wr => ∃ (k : Nat) (mk lk : List Nat), k ≤ (rows[id]).n.parts.length ∧ i = .int .i64 (k : Int) ∧ mk.Nodup ∧ (∀ x ∈ mk, x < rows.length) ∧ (∀ x ∈ lk ++ ag, x ∈ mk) ∧ agP (agM nodes f) ((rows[id]).n.parts.drop k) (mk, lk) = agP (agM nodes f) (rows[id]).n.parts (id :: met, []) ∧ wr.ownsRow N 3 1 (.slice (some ⟨g, 0, none⟩) rows.length cap) rows.length (natsV (oftenL rows.length mk (lk ++ ag))) ∧ RG N b nv rows base wr ∧ But [g] w wr) (fun i _ => (rows[id]).n.parts.length - (intOf i).toNat)
      case atStart => exact ⟨0, _, _, Nat.zero_le _, rfl, HND.out.1, HND.out.2.1, HND.out.2.2, rfl, by simpa using HS.out, HG1.out, HB1.out⟩
      case round =>
        obtain ⟨k, mk, lk, hk, rfl, hmn, hmlt, hms, hap, hrw, hGr, hbr⟩ := hrel
        have HAP : Hid _ := hap
        have HRW : Hid _ := hrw
        obtain ⟨cs, hcs, h8⟩ := hGr.rd
        have d8 : wr.cell? ⟨b, 8, none⟩ = some nv := hcs.cell h8
        obtain ⟨nb, ncap, hnv, hncap, hcn⟩ := hGr.node id hid
        have d3 := hcn 3 (by omega)
        simp only [RRow.cells, List.getElem?_cons_succ, List.getElem?_cons_zero] at d3
        rw [hnv] at d8
        obtain ⟨pad, pcap, hpvv, hpc⟩ := own_shape (hGr.each rows[id] (List.getElem_mem hid)).2
        rw [hpvv] at d3
        clear hcs hap hrw
        by_cases hkl : k < (rows[id]).n.parts.length
        · obtain ⟨pbk, cap', e4, _, _, hpcell⟩ := ownsInt_cell (n := (rows[id]).n.parts.length) (l := (rows[id]).n.parts) (hGr.each rows[id] (List.getElem_mem hid)).2 (by omega)
          rw [hpvv] at e4
          obtain ⟨rfl, rfl⟩ : pad = some ⟨pbk, 0, none⟩ ∧ pcap = cap' := by simpa using e4
          have hck := hpcell k hkl
          have hx := HPT.out _ (List.getElem_mem hkl)
          have hx' : (rows[id]).n.parts[k] < rows.length := by omega
          have hstep := agP_cons (agM nodes f) (rows[id]).n.parts k hkl (mk, lk)
          have HST : Hid _ := HAP.out.symm.trans hstep
          have hlen2 : ((agM nodes f (rows[id]).n.parts[k] mk).2 ++ lk).length ≤ (agP (agM nodes f) (rows[id]).n.parts (id :: met, [])).2.length := by
            rw [HST.out, agP_app]
            simp only [List.length_append]
            omega
          have hbdd := HBD.out
          have HC : Hid _ := IH.out (rows[id]).n.parts[k] mk (lk ++ ag) wr hx' (by omega) hmn hmlt hms (by simp only [List.length_append] at hlen2 hbdd ⊢; omega) hGr HRW.out
          have HM : Hid _ := agM_met hW f (rows[id]).n.parts[k] mk (by omega) hmn (by rw [hnl]; exact hmlt)
          have HSUB : Hid _ := agM_sub (nodes := nodes) f (rows[id]).n.parts[k] mk
          generalize (rows[id]).n.parts[k] = x at *
          clear hpcell e4 hx hstep hlen2 hbdd hcn
          go_wp2_with fail
          refine Calls.mono HC.out ?_
          rintro e w3 ⟨rfl, hr3, hb3⟩
          go_wp2_with fail
          go_roundw
          case rel =>
            refine ⟨k + 1, (agM nodes f x mk).1, (agM nodes f x mk).2 ++ lk, by omega, by go_num, HM.out.1, by have := HM.out.2.1; rw [hnl] at this; exact this, fun y hy => ?_, HST.out.symm, by rw [List.append_assoc]; exact hr3, hGr.below (hb3.below hGr.N (fun x hx => by rw [List.mem_singleton.1 hx]; exact hNg)), hbr.trans hb3 (fun x hx => .inl hx)⟩
            rw [List.append_assoc] at hy
            rcases List.mem_append.1 hy with hy | hy
            · exact HSUB.out.2 y hy
            · exact HSUB.out.1 y (hms y hy)
          case measure => simp [intOf]; omega
        · have hfin := HAP.out
          rw [List.drop_eq_nil_of_le (by omega)] at hfin
          have HF : Hid ((mk, lk) = agP (agM nodes f) (rows[id]).n.parts (id :: met, [])) := hfin
          clear hfin hcn
          go_wp2_with fail
          go_end0
          refine ⟨rfl, ?_, hbr⟩
          rw [HAG.out, ← HF.out]
          exact HRW.out

end Go.Proofs.YtkflkmmbakccoaaGreatDoor
