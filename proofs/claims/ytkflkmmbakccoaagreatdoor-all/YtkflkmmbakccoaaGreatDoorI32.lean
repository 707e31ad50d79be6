/- PARTS: B10, B11, B13, B14, B15, B16. -/
import Derived.Test.YtkflkmmbakccoaaGreatDoorI31
import Derived.Maps.Ext
import Derived.StillTailTactics
import Derived.Test.YtkflkmmbakccoaaGreatDoorI4

/- WALKS: package graph: come, as giveNames calls it. -/
namespace Go.Proofs.YtkflkmmbakccoaaGreatDoor
open Go.RowKit Go.Maps

set_option maxRecDepth 20000 in
set_option maxHeartbeats 4000000 in
theorem come_names  (X : WEnv) (bx : Nat) (an : Nat) (nv : Value) (rows : List Row) (base : Nat) (_hNwr : X.N ≤ X.wr) (hW : Whole (rows.map Row.n))  (f : Nat) :
    ∀ (id : Nat) (pl : PlaceV) (met met' : List Nat) (st st' : List Nat) (fp : List Nat) (w : World), comeS (rows.map Row.n) nFirst nAgain nFin f id pl (met, st) = some (met', st') → id < rows.length → PlOk (rows.map Row.n) pl → met.Nodup → (∀ x ∈ met, x < rows.length) →
      Bs X an nv rows base w → (VN X bx) st fp w → WkOk X met w → C0 X fp w →
      Calls Tryz.prog 94 #[.pointer (some ⟨X.wk, 0, none⟩), .int .i64 (id : Int), plV pl, .agg #[.func (.func 62) #[] #[], .func (.func 63) #[] #[.pointer (some ⟨bx, 0, none⟩)], .func (.func 64) #[] #[]]] w fun e w' => e = .returned (.tuple #[]) ∧ CPost (VN X bx) X fp w met' st' w' := by
  induction f with
  | zero => intro id pl met met' st st' fp w h; cases h
  | succ f ih =>
    intro id pl met met' st st' fp w hS hid hpl hnd hlt hBs hV hWk h0
    have IH : Hid _ := ih
    clear ih
    have hlen := hW.len
    have hlen' : rows.length ≤ 500 := by simpa using hlen
    have hml := nodup_lt_length rows.length met hnd hlt
    have hFr : VFrame (VN X bx) := VN.frame X bx
    have hBb : ∀ w w', Bs X an nv rows base w → Below X.N w w' → Bs X an nv rows base w' := fun w w' h hb => h.below hb
    obtain ⟨pa, pb, hpv⟩ := plV_agg pl
    -- the two boxes
    obtain ⟨W0, HW0⟩ : ∃ W0, Hid (W0 = (w.alloc (.cells #[.int .i64 pa, .int .i64 pb] 124)).alloc (.cells #[.func (.func 62) #[] #[], .func (.func 63) #[] #[.pointer (some ⟨bx, 0, none⟩)], .func (.func 64) #[] #[]] 127)) := ⟨_, (rfl : (w.alloc (.cells #[.int .i64 pa, .int .i64 pb] 124)).alloc (.cells #[.func (.func 62) #[] #[], .func (.func 63) #[] #[.pointer (some ⟨bx, 0, none⟩)], .func (.func 64) #[] #[]] 127) = (w.alloc (.cells #[.int .i64 pa, .int .i64 pb] 124)).alloc (.cells #[.func (.func 62) #[] #[], .func (.func 63) #[] #[.pointer (some ⟨bx, 0, none⟩)], .func (.func 64) #[] #[]] 127))⟩
    have hb0 : But [] w W0 := by rw [HW0.out]; exact (alloc_but _ _).alloc _
    have hs0 : W0.heap.size = w.heap.size + 2 := by rw [HW0.out]; simp
    have HZ0 : Hid _ := hs0
    have hPB : Blk W0 w.heap.size #[.int .i64 pa, .int .i64 pb] 124 := by rw [HW0.out]; exact (alloc_but _ _).blk (blk_new _ _ _) (by simp)
    have hSB : Blk W0 (w.heap.size + 1) #[.func (.func 62) #[] #[], .func (.func 63) #[] #[.pointer (some ⟨bx, 0, none⟩)], .func (.func 64) #[] #[]] 127 := by
      rw [HW0.out]
      have := blk_new (w.alloc (.cells #[.int .i64 pa, .int .i64 pb] 124)) #[.func (.func 62) #[] #[], .func (.func 63) #[] #[.pointer (some ⟨bx, 0, none⟩)], .func (.func 64) #[] #[]] 127
      simpa using this
    have h00 : C0 X fp W0 := ⟨Nat.le_trans h0.N hb0.size, fun x hx => ⟨(h0.fp x hx).1, Nat.lt_of_lt_of_le (h0.fp x hx).2 hb0.size⟩, h0.wk, h0.m, Nat.lt_of_lt_of_le h0.wkl hb0.size, Nat.lt_of_lt_of_le h0.ml hb0.size, h0.Nm⟩
    have hC0 : CS (VN X bx) X (Bs X an nv rows base) fp W0 met st fp W0 := ⟨hBs.below (hb0.below h0.N (by simp)), hFr _ _ _ _ _ hV hb0 (by simp), hWk.but hb0 (by simp) (by simp), But.refl _ _, fun x hx => .inl hx⟩
    have hpbn : w.heap.size ≠ X.m ∧ w.heap.size ∉ fp := ⟨by have := h0.ml; omega, fun hx => by have := (h0.fp _ hx).2; omega⟩
    have hsbn : w.heap.size + 1 ≠ X.m ∧ w.heap.size + 1 ∉ fp := ⟨by have := h0.ml; omega, fun hx => by have := (h0.fp _ hx).2; omega⟩
    have HPBN : Hid _ := hpbn
    have HSBN : Hid _ := hsbn
    have k1 : W0.cell? ⟨X.wk, 1, none⟩ = some (.map (some X.m)) := hC0.wk.1.cell rfl
    have hlk := hC0.wk.look (id := id) (by omega)
    have HC0 : Hid _ := hC0
    have H00 : Hid _ := h00
    have HB0 : Hid _ := hb0
    clear hs0 hpbn hsbn hC0 hb0 hV hWk h0 hBs h00
    rw [hpv]
    go_enter Tryz.func94, Tryz.ntmps94
    go_upto_region 1 with fail
    rw [← HW0.out]
    unfold comeS at hS
    by_cases hm : id ∈ met
    · have hd : decide (id ∈ met) = true := by simpa using hm
      simp only [hm, if_true] at hS
      obtain ⟨s1, hS1, hS2⟩ := Option.map_eq_some_iff.1 hS
      simp only [Prod.mk.injEq] at hS2
      obtain ⟨rfl, rfl⟩ := hS2
      rw [hd] at hlk
      have hp0 := hPB.cell (i := 0) rfl
      have hp1 := hPB.cell (i := 1) rfl
      have hq1 := hSB.cell (i := 1) rfl
      -- the empty block that the blank takes
      have hbE : But [] W0 (W0.alloc (.cells #[] 167)) := alloc_but _ _
      have hCE := HC0.out.still H00.out hBb hFr hbE
      have HCL : Hid _ := names2_any X bx id (by omega) pl st s1 hS1 fp _ hCE.v
      rw [hpv] at HCL
      have hp0' := (hbE.blk hPB (by simp)).cell (i := 0) rfl
      have hp1' := (hbE.blk hPB (by simp)).cell (i := 1) rfl
      have hq1' := (hbE.blk hSB (by simp)).cell (i := 1) rfl
      clear hd hS hS1
      go_wp2_with fail
      refine Calls.mono HCL.out ?_
      rintro e w1 ⟨rfl, fp1, hv1, hb1, ho1⟩
      have hC1 := hCE.step H00.out hBb hv1 hb1 ho1
      go_wp2_with fail
      exact bodyPost_ret (v := .tuple #[]) (by simp [results, Tryz.results94, go_sem]) rfl ⟨rfl, hC1.post HB0.out⟩
    · have hd : decide (id ∈ met) = false := by simpa using hm
      simp only [hm, if_false] at hS
      obtain ⟨s1, hS1, hS2⟩ := Option.bind_eq_some_iff.1 hS
      obtain ⟨r, hS3, hS4⟩ := Option.bind_eq_some_iff.1 hS2
      obtain ⟨s2, hS5, hS6⟩ := Option.map_eq_some_iff.1 hS4
      simp only [Prod.mk.injEq] at hS6
      obtain ⟨rfl, rfl⟩ := hS6
      rw [hd] at hlk
      have hnodeOk := hW.node (i := id) (by simpa using hid)
      have hpt : ∀ p ∈ (nodeAt (rows.map Row.n) id).parts, p < (rows.map Row.n).length ∧ highOf (rows.map Row.n) p < highOf (rows.map Row.n) id := fun p hp => hW.part (by simpa using hid) hp
      rw [nodeAt_rows rows id hid] at hS3 hnodeOk hpt
      have hpl5 := hnodeOk.len
      have HS1 : Hid _ := hS1
      have HS3 : Hid _ := hS3
      have HS5 : Hid _ := hS5
      have HPT : Hid _ := hpt
      obtain ⟨hwB, D, hown, hhas⟩ := HC0.out.wk
      have HHAS : Hid _ := hhas
      have HWB : Hid _ := hwB
      have hmm : met.length < 500 := by
        have := nodup_lt_length rows.length (id :: met) (List.nodup_cons.2 ⟨hm, hnd⟩) (fun x hx => by
          rcases List.mem_cons.1 hx with rfl | hx
          · exact hid
          · exact hlt x hx)
        simp at this
        omega
      have hbE : But [] W0 (W0.alloc (.cells #[] 167)) := alloc_but _ _
      have hCE := HC0.out.still H00.out hBb hFr hbE
      have HCE : Hid _ := hCE
      have hne := hCE.wk.ne
      have k1' : (W0.alloc (.cells #[] 167)).cell? ⟨X.wk, 1, none⟩ = some (.map (some X.m)) := hCE.wk.1.cell rfl
      have hND : Hid ((id :: met).Nodup ∧ ∀ x ∈ id :: met, x < rows.length) := ⟨List.nodup_cons.2 ⟨hm, hnd⟩, fun x hx => by
        rcases List.mem_cons.1 hx with rfl | hx
        · exact hid
        · exact hlt x hx⟩
      clear hd hS hS1 hS2 hS3 hS4 hS5 hhas hwB hCE hpt hnd hlt
      go_wp2_with (at_mapUpdate; refine wpList_mapUpdate_own _ rfl _ _ _ 119 rfl 3 167 lawI Tryz.underlying119 unitElem X.m met.length D rfl (hown.alloc _) (by unfold maxLen; omega) _ _ _ rfl rfl (keyI (by omega)) (.agg []) [] unitElem_mk ?_)
      intro w1 hown1 hgrow1
      obtain ⟨hWk1, hbm1⟩ := WkOk.meet (hbE.blk HWB.out (by simp)) hne hown.isMap HHAS.out hown1 hgrow1
      have hC1 := HCE.out.meet H00.out hBb hFr hWk1 hbm1
      have HC1 : Hid _ := hC1
      have hPB1 := hC1.blk H00.out hPB HPBN.out.1 HPBN.out.2
      have hSB1 := hC1.blk H00.out hSB HSBN.out.1 HSBN.out.2
      have hp0 := hPB1.cell (i := 0) rfl
      have hp1 := hPB1.cell (i := 1) rfl
      have hq0 := hSB1.cell (i := 0) rfl
      have HCL : Hid _ := names1_any X bx id pl st s1 HS1.out fp w1 hC1.v
      rw [hpv] at HCL
      clear hC1 hown hown1 hgrow1 hWk1 hbm1 hlk k1 k1'
      go_wp2_with fail
      refine Calls.mono HCL.out ?_
      rintro e w2 ⟨rfl, fp2, hv2, hb2, ho2⟩
      have hC2 := HC1.out.step H00.out hBb hv2 hb2 ho2
      have HC2 : Hid _ := hC2
      obtain ⟨nb, cap, hnv, hcap, hcn⟩ := hC2.base.gi.node id hid
      have HNV : Hid _ := hnv
      have k0 : w2.cell? ⟨X.wk, 0, none⟩ = some (.pointer (some ⟨X.g, 0, none⟩)) := hC2.wk.1.cell rfl
      have g0 : w2.cell? ⟨X.g, 0, none⟩ = some (.slice (some ⟨nb, 0, none⟩) rows.length cap) := by have := hC2.base.gi.gr.cell (i := 0) rfl; rw [hnv] at this; exact this
      have d3 := hcn 3 (by omega)
      simp only [Row.cells, List.getElem?_cons_succ, List.getElem?_cons_zero] at d3
      obtain ⟨pad, pcap, hpvv, hpc⟩ := own_shape (hC2.base.gi.each rows[id] (List.getElem_mem hid)).2
      rw [hpvv] at d3
      have HPVV : Hid _ := hpvv
      clear hcn hnv hpvv HCL HC1 hPB1 hSB1 hp0 hp1 hq0 hv2 hb2 ho2 hC2
      go_wp2_with fail
      clear k0 g0 d3
      go_loopw [50] (fun i wr => ∃ (k : Nat) (mk : List Nat) (sk : List Nat) (fk : List Nat), k ≤ (rows[id]).n.parts.length ∧ i = .int .i64 (k : Int) ∧ mk.Nodup ∧ (∀ x ∈ mk, x < rows.length) ∧ partsGo (comeS (rows.map Row.n) nFirst nAgain nFin f) id ((rows[id]).n.parts.drop k) k (mk, sk) = some r ∧ CS (VN X bx) X (Bs X an nv rows base) fp W0 mk sk fk wr) (fun i _ => (rows[id]).n.parts.length - (intOf i).toNat)
      case atStart => exact ⟨0, _, _, _, Nat.zero_le _, rfl, hND.out.1, hND.out.2, by simpa using HS3.out, HC2.out⟩
      case round =>
        obtain ⟨k, mk, sk, fk, hk, rfl, hmn, hmlt, hpg, hCk⟩ := hrel
        have HPG : Hid _ := hpg
        have HCK : Hid _ := hCk
        have hSBk := hCk.blk H00.out hSB HSBN.out.1 HSBN.out.2
        have q0 := hSBk.cell (i := 0) rfl
        have q1 := hSBk.cell (i := 1) rfl
        have q2 := hSBk.cell (i := 2) rfl
        clear hpg
        by_cases hkl : k < (rows[id]).n.parts.length
        · obtain ⟨st1, hg1, hg2⟩ := partsGo_cons _ id _ k hkl _ _ HPG.out
          obtain ⟨m1, s1'⟩ := st1
          have HG2 : Hid _ := hg2
          have hx := HPT.out _ (List.getElem_mem hkl)
          have hx' : (rows[id]).n.parts[k] < rows.length := by simpa using hx.1
          obtain ⟨pbk, cap', e2, _, _, hcell⟩ := ownsInt_cell (n := (rows[id]).n.parts.length) (l := (rows[id]).n.parts) (hCk.base.gi.each rows[id] (List.getElem_mem hid)).2 (by omega)
          rw [HPVV.out] at e2
          obtain ⟨rfl, rfl⟩ : pad = some ⟨pbk, 0, none⟩ ∧ pcap = cap' := by simpa using e2
          have hck := hcell k hkl
          have hkpl : PlOk (rows.map Row.n) (some (id, k)) := fun p i e => by
            cases e
            exact ⟨by simpa using hid, by rw [nodeAt_rows rows id hid]; exact hkl⟩
          have hC0k : C0 X fk wr := ⟨Nat.le_trans H00.out.N hCk.but.size, fun x hx => ⟨(hCk.no H00.out).2.2 x hx, VT.lt hCk.v x hx⟩, (hCk.no H00.out).1, (hCk.no H00.out).2.1, hCk.wk.lt.1, hCk.wk.lt.2, H00.out.Nm⟩
          have HRC : Hid _ := IH.out (rows[id]).n.parts[k] (some (id, k)) mk m1 sk s1' fk wr hg1 hx' hkpl hmn hmlt hCk.base hCk.v hCk.wk hC0k
          have hmet1 : Hid (m1.Nodup ∧ ∀ x ∈ m1, x < rows.length) := by
            have q := come_met hW _ _ _ f _ _ _ _ _ _ hg1 (by simpa using hx') hmn (by simpa using hmlt)
            exact ⟨q.1, by simpa using q.2⟩
          generalize (rows[id]).n.parts[k] = x at *
          clear hcell e2 hx hg1 hg2 hCk hC0k hSBk hmn hmlt
          go_wp2_with fail
          refine Calls.mono HRC.out ?_
          rintro e w3 ⟨rfl, hp3⟩
          obtain ⟨fp3, hC3⟩ := HCK.out.come H00.out hBb hp3
          go_wp2_with fail
          go_roundw
          case rel => exact ⟨k + 1, m1, s1', fp3, by omega, by go_num, hmet1.out.1, hmet1.out.2, HG2.out, hC3⟩
          case measure => simp [intOf]; omega
        · have hfin := partsGo_end _ id _ k hkl _ _ HPG.out
          have hS5 := HS5.out
          rw [← hfin] at hS5
          have HS5' : Hid _ := hS5
          have HFIN : Hid _ := hfin
          have HCL : Hid _ := names3_any X bx id sk s2 HS5'.out fk wr hCk.v
          clear hS5 hfin hCk hmn hmlt
          go_wp2_with fail
          refine Calls.mono HCL.out ?_
          rintro e w3 ⟨rfl, fp3, hv3, hb3, ho3⟩
          have hC3 := HCK.out.step H00.out hBb hv3 hb3 ho3
          go_wp2_with fail
          go_end0
          refine ⟨rfl, ?_⟩
          rw [← HFIN.out]
          exact hC3.post HB0.out

set_option maxRecDepth 20000 in
set_option maxHeartbeats 1000000 in
/-- Walk: what was met is forgotten first. -/
theorem walk_names (X : WEnv) (bx : Nat) (an : Nat) (nv : Value) (rows : List Row) (base : Nat) (hNwr : X.N ≤ X.wr) (hW : Whole (rows.map Row.n)) 
    (k : Nat) (hk : k < rows.length) (met met' : List Nat) (st st' : List Nat) (hS : comeS (rows.map Row.n) nFirst nAgain nFin 101 k none ([], st) = some (met', st')) (fp : List Nat) (w : World) (hBs : Bs X an nv rows base w) (hV : (VN X bx) st fp w) (hWk : WkOk X met w) (h0 : C0 X fp w) :
    Calls Tryz.prog 61 #[.pointer (some ⟨X.wk, 0, none⟩), .int .i64 (k : Int), .agg #[.func (.func 62) #[] #[], .func (.func 63) #[] #[.pointer (some ⟨bx, 0, none⟩)], .func (.func 64) #[] #[]]] w fun e w' => e = .returned (.tuple #[]) ∧ CPost (VN X bx) X fp w met' st' w' := by
  have hFr : VFrame (VN X bx) := VN.frame X bx
  have hbA : But [] w (w.alloc (.cells #[.func (.func 62) #[] #[], .func (.func 63) #[] #[.pointer (some ⟨bx, 0, none⟩)], .func (.func 64) #[] #[]] 127)) := alloc_but _ _
  have hSB : Blk (w.alloc (.cells #[.func (.func 62) #[] #[], .func (.func 63) #[] #[.pointer (some ⟨bx, 0, none⟩)], .func (.func 64) #[] #[]] 127)) w.heap.size #[.func (.func 62) #[] #[], .func (.func 63) #[] #[.pointer (some ⟨bx, 0, none⟩)], .func (.func 64) #[] #[]] 127 := blk_new _ _ _
  obtain ⟨hwB, D, hown, hhas⟩ := hWk.but hbA (by simp) (by simp)
  have hne : X.wk ≠ X.m := hWk.ne
  obtain ⟨w1, hcl, hown1, hb1⟩ := run_clear hown Tryz.underlying119
  have k1 : (w.alloc (.cells #[.func (.func 62) #[] #[], .func (.func 63) #[] #[.pointer (some ⟨bx, 0, none⟩)], .func (.func 64) #[] #[]] 127)).cell? ⟨X.wk, 1, none⟩ = some (.map (some X.m)) := hwB.cell rfl
  have hbw : But [X.m] w w1 := (hbA.mono (S' := [X.m]) (by simp)).trans hb1 (fun x hx => .inl hx)
  have hWk1 : WkOk X [] w1 := ⟨hb1.blk hwB (by simpa using hne), _, by simpa using hown1, fun x => by simp [Maps.has]⟩
  have hV1 : (VN X bx) st fp w1 := hFr _ _ _ _ _ hV hbw (fun x hx => by rw [List.mem_singleton.1 hx]; exact h0.m)
  have h01 : C0 X fp w1 := ⟨Nat.le_trans h0.N hbw.size, fun x hx => ⟨(h0.fp x hx).1, Nat.lt_of_lt_of_le (h0.fp x hx).2 hbw.size⟩, h0.wk, h0.m, Nat.lt_of_lt_of_le h0.wkl hbw.size, Nat.lt_of_lt_of_le h0.ml hbw.size, h0.Nm⟩
  have hBs1 := hBs.below (hbw.below h0.N (fun x hx => by rw [List.mem_singleton.1 hx]; exact h0.Nm))
  have HC : Hid _ := come_names X bx an nv rows base hNwr hW  101 k none [] met' st st' fp w1 hS hk (fun p i e => by cases e) (by simp) (fun x hx => by cases hx) hBs1 hV1 hWk1 h01
  have hsn : w.heap.size ≠ X.m := by have := h0.ml; omega
  have hSB1 := hb1.blk hSB (by simpa using hsn)
  have q0 := hSB1.cell (i := 0) rfl
  have q1 := hSB1.cell (i := 1) rfl
  have q2 := hSB1.cell (i := 2) rfl
  have HBW : Hid _ := hbw
  unfold plV at HC
  clear hown hown1 hb1 hhas hV hWk h0 hBs hV1 hWk1 h01 hBs1 hSB hSB1 hbw hbA hwB hS
  go_enter Tryz.func61, Tryz.ntmps61
  go_wp2_with fail
  refine Calls.mono HC.out ?_
  rintro e w2 ⟨rfl, fp2, p1, p2, p3, p4⟩
  go_wp2_with fail
  go_end0
  refine ⟨rfl, fp2, p1, p2, (HBW.out.mono (S' := X.m :: fp) (by simp)).trans p3 (fun x hx => .inl hx), fun x hx => ?_⟩
  rcases p4 x hx with h | h
  · exact .inl h
  · exact .inr (Nat.le_trans HBW.out.size h)

end Go.Proofs.YtkflkmmbakccoaaGreatDoor

/- WALKS: package write: giveNames; maps.Keys, slices.Sorted at the map of names. -/
namespace Go.Proofs.YtkflkmmbakccoaaGreatDoor
open Go.RowKit Go.Maps Go.Sort Go.Shelf

theorem keys_any (b : Nat) (w : World) : Calls Tryz.prog 66 #[.map (some b)] w fun e w' => e = .returned (.func (.func 97) #[] #[.pointer (some ⟨w.heap.size, 0, none⟩)]) ∧ w' = w.alloc (.cells #[.map (some b)] 93) :=
  (callsIn_wide (n := 5)).1 (AnyZI.keys_in Tryz.keysA Fence.wide 5 trivial rfl (some b) w)

theorem sorts (m : Nat) : AnyZI.SortsIn Tryz.prog Tryz.sortedA_ren Fence.wide m :=
  ⟨fun blk off cap ss W hH hblk hsz => callsIn_wide.2 (AnyM.slices_Sort_int Tryz.sortA blk off cap ss W hH hblk hsz),
   fun p cap W => callsIn_wide.2 (AnyM.slices_Sort_int_none Tryz.sortA p cap W)⟩

theorem sorted_any {H : Type} (b nn : Nat) (D0 : DataW H) (R : Value → Option (DataW H × List MemPlace)) (w : World) (hown : w.ownsMap Tryz.prog 3 R b nn D0) (hmax : Maps.size D0 ≤ 1000) :
    Calls Tryz.prog 65 #[.func (.func 97) #[] #[.pointer (some ⟨w.heap.size, 0, none⟩)]] (w.alloc (.cells #[.map (some b)] 93)) fun e w' => ∃ (v : Value) (ss : List Int), e = .returned v ∧ ss.Perm (intKeys D0) ∧
      w'.ownsRow (w.alloc (.cells #[.map (some b)] 93)).heap.size 3 1 v ss.length ((ss.mergeSort (fun x y => decide (x ≤ y))).map encZ) ∧ (v = .slice none 0 0 ↔ ss = []) ∧ Below (w.alloc (.cells #[.map (some b)] 93)).heap.size (w.alloc (.cells #[.map (some b)] 93)) w' := by
  have hbl := hown.lt
  have hseq : SeqGives Fence.wide 2 Tryz.prog 97 #[.pointer (some ⟨w.heap.size, 0, none⟩)] encZ (fun ss => ss.Perm (intKeys D0)) (Maps.size D0) (w.alloc (.cells #[.map (some b)] 93)) :=
    AnyZI.keys_gives (ρ := Tryz.keysA_ren) { Tryz.keysA with } Fence.wide _ trivial rfl (by omega) w.heap.size b nn D0 _ (by simp) (by simp) (by
      obtain ⟨es, clock, hb, Ft, hs, hD⟩ := hown
      exact ⟨es, clock, (Below.heap_alloc _ _ b hbl).trans hb, Ft, hs, hD⟩)
  exact (callsIn_wide (n := 5)).1 (AnyZI.sorted_in Tryz.sortedA Fence.wide 5 trivial trivial trivial trivial rfl (by omega) (sorts _) (enters_of Tryz.func96 (by kernel_rfl) rfl) 97 #[.pointer (some ⟨w.heap.size, 0, none⟩)] trivial (enters_of Tryz.func97 (by kernel_rfl) rfl) _ _ (by unfold maxLen; omega) (by omega) _ hseq)

/-- What slices.Sorted gives of the names: the nodes that have one, in their order. -/
theorem sorted_names {ag : List Nat} {D : DataW Unit} {w : World} {b n : Nat} {R : Value → Option (DataW Unit × List MemPlace)} (hown : w.ownsMap Tryz.prog 3 R b n D) (h2 : ∀ x : Nat, Maps.has D (.int .i64 (x : Int)) = decide (x ∈ ag)) (h4 : ∀ k, Maps.has D k = true → ∃ x ∈ ag, k = .int .i64 ((x : Nat) : Int)) (hlt : ∀ x ∈ ag, x < 1000) {ss : List Int} (hp : ss.Perm (intKeys D)) :
    ss.mergeSort (fun x y => decide (x ≤ y)) = (namesL ag 1000).map (fun (i : Nat) => (i : Int)) := by
  obtain ⟨es, hes, hpw⟩ := hown.tidy lawI
  have hk : ∀ p ∈ es, ∃ x, p.1 = .int .i64 x := fun p hp => by
    have hh : Maps.has D p.1 = true := by
      rw [hes]
      simp only [Maps.has, List.any_eq_true]
      refine ⟨p, hp, ?_⟩
      have := hown.canon lawI
      obtain ⟨es', he', _, hkl⟩ := this
      rw [hes] at he'
      have hes' : es = es' := by simpa using he'
      exact WideAt.sameKey_self (hkl p (hes' ▸ hp))
    obtain ⟨x, _, hx⟩ := h4 _ hh
    exact ⟨x, hx⟩
  have hnd : ((namesL ag 1000).map (fun (i : Nat) => (i : Int))).Nodup := by
    have := namesL_lt ag 1000
    rw [List.nodup_iff_pairwise_ne, List.pairwise_map]
    exact this.imp (fun h e => by omega)
  have hm : ∀ x : Int, x ∈ (namesL ag 1000).map (fun (i : Nat) => (i : Int)) ↔ Maps.has (.map es) (.int .i64 x) = true := fun x => by
    rw [← hes]
    constructor
    · intro hx
      obtain ⟨y, hy, rfl⟩ := List.mem_map.1 hx
      rw [h2 y]
      simpa using (namesL_mem.1 hy).2
    · intro hx
      obtain ⟨y, hy, e⟩ := h4 _ hx
      simp only [Lit.int.injEq, true_and] at e
      subst e
      exact List.mem_map.2 ⟨y, namesL_mem.2 ⟨hlt y hy, hy⟩, rfl⟩
  have hp2 := perm_intKeys hpw hk hnd hm
  rw [← hes] at hp2
  have e1 := mergeSort_of_perm_i (hp.trans hp2.symm)
  have e2 : ((namesL ag 1000).map (fun (i : Nat) => (i : Int))).mergeSort leI = (namesL ag 1000).map (fun (i : Nat) => (i : Int)) := by
    apply List.mergeSort_of_pairwise
    rw [List.pairwise_map]
    exact (namesL_lt ag 1000).imp (fun h => by simp [leI]; omega)
  exact e1.trans e2

theorem NmOk.congr {X : WEnv} {ag ag' : List Nat} {val val' : Nat → Nat} {w : World} (h : NmOk X ag val w) (hm : ∀ x, x ∈ ag ↔ x ∈ ag') (hv : ∀ x ∈ ag, val' x = val x) : NmOk X ag' val' w := by
  obtain ⟨L, D, hL, hown, h2, h3, h4⟩ := h
  refine ⟨L, D, ⟨hL.1, fun x => (hL.2.1 x).trans (hm x), hL.2.2⟩, hown, fun x => by rw [h2 x]; exact decide_eq_decide.2 (hm x), fun x hx => ?_, fun k hk => ?_⟩
  · rw [h3 x ((hm x).2 hx), hv x ((hm x).2 hx)]
  · obtain ⟨x, hx, e⟩ := h4 k hk
    exact ⟨x, (hm x).1 hx, e⟩

end Go.Proofs.YtkflkmmbakccoaaGreatDoor

/- WALKS: package write: giveNames, tell, begin. -/
namespace Go.Proofs.YtkflkmmbakccoaaGreatDoor
open Go.RowKit Go.Maps

/-- A region whose operations but the last ones only read, in the order of the text. -/
theorem region_tail {P : Program} {id : Nat} {Q : Exit → Act → World → Prop} {a : Act} {w : World} {l : List Oper} (n : Nat) (hm : P.follows .mixedOrders = true) (hB : Region.lexTailB .any l.toArray n = true)
    (h : wpStill P l.toArray w.drew (fun a' => wpList P l.toArray Q (l.drop n) a' w.drew) (l.take n) a) : (Code.region id l.toArray true).wp P Q a w := wp_region_still_tail n hm hB h

/-- How a piece reads. -/
def pieceElem : Value → Option (DataW Unit × List MemPlace)
  | .agg c => match c.toList with
    | [.int .i64 a, .int .i64 b] => some (.agg [.lit (.int .i64 a), .lit (.int .i64 b)], [])
    | _ => none
  | _ => none

/-- The writer and all that belongs to it. -/
structure WS (X : WEnv) (ag : List Nat) (val : Nat → Nat) (out : List UInt8) (bv : Value) (met : List Nat) (w : World) : Prop where
  bw : BW X out bv w
  nm : NmOk X ag val w
  wk : WkOk X met w
  pc : ∃ (n : Nat) (D : DataW Unit), w.ownsMap Tryz.prog 3 pieceElem X.pc n D
  Nwr : X.N ≤ X.wr
  Nwk : X.N ≤ X.wk
  Nmm : X.N ≤ X.m
  Nnm : X.N ≤ X.nm
  Npc : X.N ≤ X.pc
  mn : X.m ≠ X.nm
  mp : X.m ≠ X.pc
  np : X.nm ≠ X.pc

theorem WS.bx_no {X : WEnv} {ag : List Nat} {val : Nat → Nat} {out : List UInt8} {bv : Value} {met : List Nat} {w : World} (h : WS X ag val out bv met w) {bx : Nat} (hb : Blk w bx #[wpt X] 63) (hN : X.N ≤ bx) : C0 X (bx :: X.nm :: X.wr :: own bv) w ∧ X.pc ∉ X.m :: bx :: X.nm :: X.wr :: own bv := by
  obtain ⟨hwB, D, hmo, _⟩ := h.wk
  obtain ⟨L, Dn, _, hno, _⟩ := h.nm
  obtain ⟨n, Dp, hpo⟩ := h.pc
  obtain ⟨A, _, hwr⟩ := h.bw.blk
  have key : ∀ {b cs T}, Blk w b cs T → T ≠ 63 → T ≠ 100 → T ≠ 5 → b ∉ bx :: X.nm :: X.wr :: own bv := fun {b cs T} h1 t1 t2 t3 hx => by
    simp only [List.mem_cons] at hx
    rcases hx with rfl | rfl | rfl | hx
    · exact t1 (h1.inj hb).2
    · exact h1.not_map hno
    · exact t2 (h1.inj hwr).2
    · obtain ⟨_, cs', fz, hg⟩ := ownsRowF_mem h.bw.row hx
      unfold Blk at h1
      rw [hg] at h1
      simp only [Option.some.injEq, Obj.cells.injEq] at h1
      exact t3 h1.2.1.symm
  have keyM : ∀ {b n : Nat} {R : Value → Option (DataW Unit × List MemPlace)} {D : DataW Unit}, w.ownsMap Tryz.prog 3 R b n D → b ≠ X.nm → b ∉ bx :: X.nm :: X.wr :: own bv := fun {b n R D} h1 h2 hx => by
    simp only [List.mem_cons] at hx
    rcases hx with rfl | rfl | rfl | hx
    · exact hb.not_map h1
    · exact h2 rfl
    · exact hwr.not_map h1
    · obtain ⟨_, cs', fz, hg⟩ := ownsRowF_mem h.bw.row hx
      obtain ⟨es, clock, h3⟩ := ownsMap_block h1
      rw [hg] at h3
      simp at h3
  refine ⟨⟨h.bw.N, fun x hx => ?_, key hwB (by decide) (by decide) (by decide), keyM hmo h.mn, hwB.lt, hmo.lt, h.Nmm⟩, fun hx => ?_⟩
  · refine ⟨?_, VT.lt (X := X) (bx := bx) (ag := ag) (val := val) (out := out) ⟨bv, hb, h.bw, h.nm, rfl⟩ x hx⟩
    simp only [List.mem_cons] at hx
    rcases hx with rfl | rfl | rfl | hx
    · exact hN
    · exact h.Nnm
    · exact h.Nwr
    · exact (ownsRowF_mem h.bw.row hx).1
  · rcases List.mem_cons.1 hx with e | hx
    · exact h.mp e.symm
    · exact keyM hpo (Ne.symm h.np) hx

/-- What a writer's method leaves: only what is its own is written. -/
def SPost (X : WEnv) (ag : List Nat) (val : Nat → Nat) (out : List UInt8) (w w' : World) : Prop :=
  (∃ bv' met', WS X ag val out bv' met' w') ∧ Below X.N w w'

/-- A walk's end, in the writer's words. -/
theorem WS.walked {X : WEnv} {ag ag' : List Nat} {val val' : Nat → Nat} {out out' : List UInt8} {bv : Value} {met : List Nat} {w : World} (h : WS X ag val out bv met w) {bx : Nat} (hb : Blk w bx #[wpt X] 63) (hN : X.N ≤ bx) {met' : List Nat} {w' : World} {σ : Type} {V : σ → List Nat → World → Prop} {st' : σ} (hv : ∀ fp, V st' fp w' → VT X bx ag' val' out' fp w')
    (hp : CPost V X (bx :: X.nm :: X.wr :: own bv) w met' st' w') : ∃ bv', WS X ag' val' out' bv' met' w' ∧ Blk w' bx #[wpt X] 63 ∧ Below X.N w w' := by
  obtain ⟨h0, hpc⟩ := h.bx_no hb hN
  obtain ⟨fp', h1, h2, h3, _⟩ := hp
  obtain ⟨bv', hb', hB', hN', rfl⟩ := hv _ h1
  obtain ⟨n, D, hpo⟩ := h.pc
  refine ⟨bv', ⟨hB', hN', h2, ⟨n, D, ownsMap_but hpo h3 hpc⟩, h.Nwr, h.Nwk, h.Nmm, h.Nnm, h.Npc, h.mn, h.mp, h.np⟩, hb', h3.below h0.N (fun x hx => ?_)⟩
  rcases List.mem_cons.1 hx with rfl | hx
  · exact h.Nmm
  · exact (h0.fp x hx).1

theorem WS.still {X : WEnv} {ag : List Nat} {val : Nat → Nat} {out : List UInt8} {bv : Value} {met : List Nat} {w w' : World} (h : WS X ag val out bv met w) (hb : But [] w w') : WS X ag val out bv met w' := by
  obtain ⟨n, D, hpo⟩ := h.pc
  exact ⟨h.bw.frame hb (by simp) (by simp), h.nm.but hb (by simp), h.wk.but hb (by simp) (by simp), ⟨n, D, ownsMap_but hpo hb (by simp)⟩, h.Nwr, h.Nwk, h.Nmm, h.Nnm, h.Npc, h.mn, h.mp, h.np⟩

set_option maxRecDepth 20000 in
set_option maxHeartbeats 2000000 in
theorem wTell_any (X : WEnv) (ag : List Nat) (val : Nat → Nat) (hval : ∀ x, val x = rankOf ag x) (bv : Value) (met : List Nat) (w : World) (h : WS X ag val [] bv met w) (an : Nat) (nv : Value) (rows : List Row) (base : Nat) (hW : Whole (rows.map Row.n)) (hBs : Bs X an nv rows base w) (k : Nat) (hk : k < rows.length) (met' : List Nat) (out : List UInt8)
    (hS : comeS (rows.map Row.n) (tFirst (rows.map Row.n) ag) (tAgain (rows.map Row.n) ag) (tFin (rows.map Row.n)) 101 k none ([], []) = some (met', out)) :
    Calls Tryz.prog 47 #[wpt X, .int .i64 (k : Int)] w fun e w' => e = .returned (.tuple #[]) ∧ SPost X ag val out w w' := by
  have hbA : But [] w (w.alloc (.cells #[wpt X] 63)) := alloc_but _ _
  have hBA : Blk (w.alloc (.cells #[wpt X] 63)) w.heap.size #[wpt X] 63 := blk_new _ _ _
  have hA := h.still hbA
  have hNb : X.N ≤ w.heap.size := h.bw.N
  have hBsA := hBs.below (hbA.below hNb (by simp))
  have c1 := hA.bw.cell.2.1
  have hd : But [] (w.alloc (.cells #[wpt X] 63)) (w.alloc (.cells #[wpt X] 63)).drew := (But.refl [] _).drew
  have hWd := hA.still hd
  have hBd := hd.blk hBA (by simp)
  have HWK : Hid _ := walk_tell X w.heap.size an nv rows base h.Nwr hW ag val hval k hk met met' [] out hS (w.heap.size :: X.nm :: X.wr :: own bv) _ (hBsA.below (hd.below (Nat.le_trans hNb hbA.size) (by simp))) ⟨bv, hBd, hWd.bw, hWd.nm, rfl⟩ hWd.wk (hWd.bx_no hBd hNb).1
  have HWD : Hid _ := hWd
  have HBD : Hid _ := hBd
  have HDD : Hid _ := hd
  have HBB : Hid _ := hbA
  clear hA h hBs hBsA hS hBA hbA hWd hBd hd
  go_enter Tryz.func47, Tryz.ntmps47
  go_wp2_with fail
  refine region_tail 10 (by kernel_rfl) (by kernel_rfl) ?_
  simp only [List.take_succ_cons, List.take_zero, List.drop_succ_cons, List.drop_zero]
  repeat still_step
  refine wpStill_nil ?_
  go_wp2_with fail
  refine Calls.mono HWK.out ?_
  rintro e w2 ⟨rfl, hp⟩
  go_wp2_with fail
  go_end0
  obtain ⟨bv2, q1, q2, q3⟩ := WS.walked (V := VT X w.heap.size ag val) (st' := out) (ag' := ag) (val' := val) (out' := out) (met' := met') HWD.out HBD.out hNb (fun _ h => h) hp
  exact ⟨rfl, ⟨bv2, met', q1⟩, ((HBB.out.trans HDD.out (by simp)).below hNb (by simp)).trans q3⟩

end Go.Proofs.YtkflkmmbakccoaaGreatDoor

/- WALKS: package write: giveNames. -/
namespace Go.Proofs.YtkflkmmbakccoaaGreatDoor
open Go.RowKit Go.Maps

/-- The numbers while they are given. -/
def valTo (ag : List Nat) (k : Nat) (x : Nat) : Nat := if rankOf ag x < k then rankOf ag x else 0

theorem NmOk.lt {X : WEnv} {ag : List Nat} {val : Nat → Nat} {w : World} (h : NmOk X ag val w) : ∀ x ∈ ag, x < 1000 := by
  obtain ⟨L, D, hL, _⟩ := h
  exact fun x hx => hL.2.2 x ((hL.2.1 x).2 hx)

set_option maxRecDepth 20000 in
set_option maxHeartbeats 1000000 in
theorem wGive_any (X : WEnv) (bv : Value) (met : List Nat) (w : World) (h : WS X [] (fun _ => 0) [] bv met w) (an : Nat) (nv : Value) (rows : List Row) (base : Nat) (hW : Whole (rows.map Row.n)) (hBs : Bs X an nv rows base w) (k : Nat) (hk : k < rows.length) (met' ag : List Nat)
    (hS : comeS (rows.map Row.n) nFirst nAgain nFin 101 k none ([], []) = some (met', ag)) :
    Calls Tryz.prog 46 #[wpt X, .int .i64 (k : Int)] w fun e w' => e = .returned (.tuple #[]) ∧ SPost X ag (rankOf ag) [] w w' := by
  have hbA : But [] w (w.alloc (.cells #[wpt X] 63)) := alloc_but _ _
  have hBA : Blk (w.alloc (.cells #[wpt X] 63)) w.heap.size #[wpt X] 63 := blk_new _ _ _
  have hA := h.still hbA
  have hNb : X.N ≤ w.heap.size := h.bw.N
  have hBsA := hBs.below (hbA.below hNb (by simp))
  have c1 := hA.bw.cell.2.1
  have x0 := hBA.cell (i := 0) rfl
  have HWK : Hid _ := walk_names X w.heap.size an nv rows base h.Nwr hW k hk met met' [] ag hS (w.heap.size :: X.nm :: X.wr :: own bv) _ hBsA ⟨bv, hBA, hA.bw, hA.nm, rfl⟩ hA.wk (hA.bx_no hBA hNb).1
  have HA : Hid _ := hA
  have HBA : Hid _ := hBA
  have HBB : Hid _ := hbA
  clear hA h hBs hBsA hS hBA hbA
  go_enter Tryz.func46, Tryz.ntmps46
  go_wp2_with fail
  refine Calls.mono HWK.out ?_
  rintro e w1 ⟨rfl, hp⟩
  obtain ⟨bv1, q1, q2, q3⟩ := WS.walked (V := VN X w.heap.size) (st' := ag) (ag' := ag) (val' := fun _ => 0) (out' := []) (met' := met') HA.out HBA.out hNb (fun _ h => h) hp
  have x1 := q2.cell (i := 0) rfl
  have d2 := q1.bw.cell.2.2.1
  have hlt := q1.nm.lt
  obtain ⟨L, D, hL, hown, h2, h3, h4⟩ := q1.nm
  have hLl := nodup_lt_length 1000 L hL.1 hL.2.2
  have hsz := hown.size_le
  have HSO : Hid _ := sorted_any X.nm L.length D _ w1 hown (by omega)
  have HQ1 : Hid _ := q1
  have HQ2 : Hid _ := q2
  have HSN : Hid (∀ ss : List Int, ss.Perm (intKeys D) → ss.mergeSort (fun x y => decide (x ≤ y)) = (namesL ag 1000).map (fun (i : Nat) => (i : Int))) := fun ss hp => sorted_names hown h2 h4 hlt hp
  have HLT : Hid _ := hlt
  clear HWK hp x0 c1 hL hown h2 h3 h4 hLl hsz q1 q2 hlt HA HBA
  go_wp2_with fail
  refine (keys_any X.nm w1).mono ?_
  rintro e w2 ⟨rfl, hw2⟩
  rw [hw2]
  clear hw2 x1 d2
  go_wp2_with fail
  refine Calls.mono HSO.out ?_
  rintro e w3 ⟨v, ss, rfl, hperm, hrow, hnil, hbel⟩
  rw [HSN.out ss hperm] at hrow
  have hb3 : But [] w1 w3 := by
    have h1 : But [] w1 (w1.alloc (.cells #[.map (some X.nm)] 93)) := alloc_but _ _
    exact ⟨hbel.os.trans h1.os, hbel.tape.trans h1.tape, hbel.output.trans h1.output, Nat.le_trans h1.size hbel.size, fun i hi _ => by
      rw [hbel.block i (by simp; omega)]
      exact h1.block i hi (by simp)⟩
  have hW3 := HQ1.out.still hb3
  have hB3 := hb3.blk HQ2.out (by simp)
  have hsl : ss.length = (namesL ag 1000).length := by
    have := hrow.1
    simpa using this.symm
  obtain ⟨va, vcap, rfl, hvc⟩ := own_shape hrow
  rw [hsl] at hrow hvc
  have hnl : (namesL ag 1000).length ≤ 1000 := by
    have := List.length_filter_le (fun j => decide (j ∈ ag)) (List.range 1000)
    simpa [namesL] using this
  have HROW : Hid _ := hrow
  have HW3 : Hid _ := hW3
  have HB3 : Hid (Blk w3 w.heap.size #[wpt X] 63) := hB3
  have HBE : Hid (Below X.N w w3) := ((HBB.out.below hNb (by simp)).trans q3).trans (hb3.below (Nat.le_trans hNb (Nat.le_trans HBB.out.size q3.size)) (by simp))
  rw [hsl]
  clear hnil hbel hb3 hW3 hB3 hrow hsl hperm HSO HQ1 HQ2 HSN hvc q3
  go_wp2_with fail
  go_loopw [21] (fun i wr => ∃ j : Nat, j ≤ (namesL ag 1000).length ∧ i = .int .i64 (j : Int) ∧ NmOk X ag (valTo ag j) wr ∧ But [X.nm] w3 wr) (fun i _ => (namesL ag 1000).length - (intOf i).toNat)
  case atStart => exact ⟨0, Nat.zero_le _, rfl, HW3.out.nm.congr (fun _ => Iff.rfl) (fun x _ => by simp [valTo]), But.refl _ _⟩
  case round =>
    obtain ⟨j, hj, rfl, hnm, hbr⟩ := hrel
    have hnmw : X.nm ≠ w.heap.size := fun e => by
      obtain ⟨L, D, _, h1, _⟩ := HW3.out.nm
      have := HB3.out
      rw [← e] at this
      exact this.not_map h1
    have hBr := hbr.blk HB3.out (by simpa using fun e => hnmw e.symm)
    by_cases hjl : j < (namesL ag 1000).length
    · have hx := namesL_mem.1 (List.getElem_mem hjl)
      have hrk := namesL_rank ag 1000 j _ (List.getElem?_eq_getElem hjl)
      obtain ⟨vb, cap', e2, _, _, hcell⟩ := row1_cell HROW.out (by omega)
      obtain ⟨rfl, rfl⟩ : va = some ⟨vb, 0, none⟩ ∧ vcap = cap' := by simpa using e2
      have hvn : vb ≠ X.nm := fun e => by
        obtain ⟨_, cs, hc⟩ := ownsRow_lt HROW.out (x := vb) (by simp [own])
        obtain ⟨L, D, _, h1, _⟩ := HW3.out.nm
        rw [e] at hc
        exact hc.not_map h1
      have hcj : wr.cell? ⟨vb, j, none⟩ = some (.int .i64 ((namesL ag 1000)[j] : Int)) := by
        have h1 := hcell j (.int .i64 ((namesL ag 1000)[j] : Int)) (by simp [hjl, encZ])
        obtain ⟨_, cs, hc⟩ := ownsRow_lt HROW.out (x := vb) (by simp [own])
        simp only [World.cell?] at h1 ⊢
        rw [hbr.block vb hc.lt (by simpa using hvn)]
        exact h1
      have hnr : X.nm ≠ X.wr := fun e => nmap_apart HW3.out.nm HW3.out.bw (by rw [e]; exact List.mem_cons_self ..)
      have hno : ∀ x ∈ own bv1, x ∉ [X.nm] := fun x hx hy => nmap_apart HW3.out.nm HW3.out.bw (by rw [← List.mem_singleton.1 hy]; exact List.mem_cons_of_mem _ hx)
      have y0 := hBr.cell (i := 0) rfl
      have y2 := (HW3.out.bw.frame hbr (by simpa using fun e => hnr e.symm) hno).cell.2.2.1
      obtain ⟨L, D, hL, hown, h2, h3, h4⟩ := hnm
      have hLl := nodup_lt_length 1000 L hL.1 hL.2.2
      have hT := hown.tidy lawI
      have hsz := hown.size_le
      have HK : Hid _ := hx
      have HR : Hid _ := hrk
      have H2 : Hid _ := h2
      have H3 : Hid _ := h3
      have H4 : Hid _ := h4
      generalize (namesL ag 1000)[j] = x at *
      have hxl : x ≤ 1000000 := by omega
      clear h2 h3 h4 hrk hx e2 hcell
      go_wp2_with (at_mapUpdate; refine wpList_mapUpdate_own _ rfl _ _ _ 93 rfl 3 3 lawI Tryz.underlying93 _ X.nm L.length D rfl hown (by unfold maxLen; omega) _ _ _ rfl rfl (keyI hxl) _ [] (plainElem_int Tryz.underlying3 (WalkArith.wf_i64 (by omega))) ?_)
      intro w4 hown4 hgrow4
      go_wp2_with fail
      go_roundw
      case rel =>
        refine ⟨j + 1, by omega, by go_num, ?_, hbr.trans (grown_butB hgrow4) (fun x hx => .inl hx)⟩
        have hput := NmOk.put (X := X) (val' := valTo ag (j + 1)) hL HK.out.1 hT H2.out H3.out H4.out hsz (by unfold valTo; rw [HR.out, if_pos (by omega)]) (fun y hy hne => by
          unfold valTo
          have : rankOf ag y ≠ j := fun e => hne (rankOf_inj hy HK.out.2 (by rw [e, HR.out]))
          by_cases hlt : rankOf ag y < j
          · rw [if_pos hlt, if_pos (by omega)]
          · rw [if_neg hlt, if_neg (by omega)]) hown4
        exact hput.congr (fun y => by
          rw [List.mem_cons]
          exact ⟨fun h => by rcases h with rfl | h; exact HK.out.2; exact h, fun h => .inr h⟩) (fun _ _ => rfl)
      case measure => simp [intOf]; omega
    · go_wp2_with fail
      go_end0
      have hnr : X.nm ≠ X.wr := fun e => nmap_apart HW3.out.nm HW3.out.bw (by rw [e]; exact List.mem_cons_self ..)
      have hno : ∀ x ∈ own bv1, x ∉ [X.nm] := fun x hx hy => nmap_apart HW3.out.nm HW3.out.bw (by rw [← List.mem_singleton.1 hy]; exact List.mem_cons_of_mem _ hx)
      have hS := HW3.out
      obtain ⟨n, Dp, hpo⟩ := hS.pc
      have hwkn : X.wk ≠ X.nm := fun e => by
        obtain ⟨L, D, _, h1, _⟩ := hS.nm
        have := hS.wk.1
        rw [e] at this
        exact this.not_map h1
      have hnm' : NmOk X ag (rankOf ag) wr := hnm.congr (fun _ => Iff.rfl) (fun x hx => by
        unfold valTo
        rw [if_pos]
        have hm : x ∈ namesL ag 1000 := namesL_mem.2 ⟨HLT.out x hx, hx⟩
        obtain ⟨i, hi, e⟩ := List.mem_iff_getElem.1 hm
        have := namesL_rank ag 1000 i x (by rw [List.getElem?_eq_getElem hi, e])
        omega)
      refine ⟨rfl, ⟨bv1, met', ⟨hS.bw.frame hbr (by simpa using fun e => hnr e.symm) hno, hnm', hS.wk.but hbr (by simpa using hwkn) (by simpa using hS.mn), ⟨n, Dp, ownsMap_but hpo hbr (by simpa using fun e => hS.np e.symm)⟩, hS.Nwr, hS.Nwk, hS.Nmm, hS.Nnm, hS.Npc, hS.mn, hS.mp, hS.np⟩⟩, HBE.out.trans (hbr.below hS.bw.N (fun x hx => by rw [List.mem_singleton.1 hx]; exact hS.Nnm))⟩

end Go.Proofs.YtkflkmmbakccoaaGreatDoor

/- WALKS: package graph: NewWalker; package write: NewWriter, begin, Plain; package grafter: Plain. -/
namespace Go.Proofs.YtkflkmmbakccoaaGreatDoor
open Go.RowKit Go.Maps

set_option maxHeartbeats 400000 in
theorem newWalker_any (g : Nat) (w : World) :
    Calls Tryz.prog 44 #[.pointer (some ⟨g, 0, none⟩)] w fun e w' => e = .returned (.pointer (some ⟨w.heap.size + 1, 0, none⟩)) ∧ w' = (w.alloc (.map #[] 0)).alloc (.cells #[.pointer (some ⟨g, 0, none⟩), .map (some w.heap.size)] 121) := by
  have hmm := @run_makeMap Tryz.prog
  go_enter Tryz.func44, Tryz.ntmps44
  go_wp2_with fail
  go_ret
  exact ⟨rfl, rfl⟩

/-- The writer's blocks, made when the heap had N. -/
def wenv (N g : Nat) : WEnv := ⟨N, g, N + 4, N + 1, N, N + 2, N + 3⟩

theorem NmOk.empty {X : WEnv} {w : World} {n : Nat} {D : DataW Unit} (h : w.ownsMap Tryz.prog 3 (plainElem Tryz.prog 3) X.nm n D) (hD : D = .map []) (hn : n = 0) : NmOk X [] (fun _ => 0) w := by
  subst hD hn
  exact ⟨[], .map [], ⟨(by simp), (fun x => Iff.rfl), (fun x hx => by cases hx)⟩, h, (fun x => by simp [Maps.has]), (fun x hx => by cases hx), (fun k hk => by simp [Maps.has] at hk)⟩

set_option maxHeartbeats 1000000 in
theorem newWriter_any (g : Nat) (w : World) :
    Calls Tryz.prog 30 #[.pointer (some ⟨g, 0, none⟩)] w fun e w' => e = .returned (wpt (wenv w.heap.size g)) ∧ WS (wenv w.heap.size g) [] (fun _ => 0) [] (.slice none 0 0) [] w' ∧ But [] w w' := by
  have hmm := @run_makeMap Tryz.prog
  go_enter Tryz.func30, Tryz.ntmps30
  go_wp2_with fail
  refine (newWalker_any g w).mono ?_
  rintro e w1 ⟨rfl, hw1⟩
  have HW1 : Hid _ := hw1
  have hs1 : w1.heap.size = w.heap.size + 2 := by rw [hw1]; simp
  clear hw1
  have key : ∀ W, W = ((w1.alloc (.map #[] 0)).alloc (.map #[] 0)).alloc (.cells (wcells (wenv w.heap.size g) (.pointer none) (.slice none 0 0)) 100) → WS (wenv w.heap.size g) [] (fun _ => 0) [] (.slice none 0 0) [] W ∧ But [] w W := by
    intro W bW
    have m1 : (w.alloc (.map #[] 0)).ownsMap Tryz.prog 3 (unitElem (H := Unit)) w.heap.size 0 (.map []) := World.ownsMap_made _ _ _ _
    have m1' : w1.ownsMap Tryz.prog 3 (unitElem (H := Unit)) w.heap.size 0 (.map []) := by rw [HW1.out]; exact m1.alloc _
    have b1 : Blk w1 (w.heap.size + 1) #[.pointer (some ⟨g, 0, none⟩), .map (some w.heap.size)] 121 := by
      rw [HW1.out]
      have := blk_new (w.alloc (.map #[] 0)) #[.pointer (some ⟨g, 0, none⟩), .map (some w.heap.size)] 121
      simpa using this
    have m2 : (w1.alloc (.map #[] 0)).ownsMap Tryz.prog 3 (plainElem (H := Unit) Tryz.prog 3) w1.heap.size 0 (.map []) := World.ownsMap_made _ _ _ _
    have m3 : ((w1.alloc (.map #[] 0)).alloc (.map #[] 0)).ownsMap Tryz.prog 3 pieceElem (w1.alloc (.map #[] 0)).heap.size 0 (.map []) := World.ownsMap_made _ _ _ _
    have e3 : (w1.alloc (.map #[] 0)).heap.size = w.heap.size + 3 := by simp [hs1]
    rw [e3] at m3
    rw [hs1] at m2
    have b4 : Blk W (w.heap.size + 4) (wcells (wenv w.heap.size g) (.pointer none) (.slice none 0 0)) 100 := by
      rw [bW]
      have := blk_new ((w1.alloc (.map #[] 0)).alloc (.map #[] 0)) (wcells (wenv w.heap.size g) (.pointer none) (.slice none 0 0)) 100
      simpa [hs1] using this
    have hb1 : But [] w w1 := by rw [HW1.out]; exact (alloc_but _ _).alloc _
    have hbW : But [] w1 W := by rw [bW]; exact ((alloc_but _ _).alloc _).alloc _
    have m2' : W.ownsMap Tryz.prog 3 (plainElem (H := Unit) Tryz.prog 3) (w.heap.size + 2) 0 (.map []) := by rw [bW]; exact (m2.alloc _).alloc _
    have m3' : W.ownsMap Tryz.prog 3 pieceElem (w.heap.size + 3) 0 (.map []) := by rw [bW]; exact m3.alloc _
    exact ⟨⟨⟨Nat.le_trans hb1.size hbW.size, ⟨.pointer none, .inl rfl, b4⟩, World.ownsRowF_nil _ _ _ _⟩, NmOk.empty m2' rfl rfl, ⟨hbW.blk b1 (by simp), .map [], ownsMap_but m1' hbW (by simp), fun x => by simp [Maps.has]⟩, ⟨0, _, m3'⟩, by simp [wenv], by simp [wenv], by simp [wenv], by simp [wenv], by simp [wenv], by simp [wenv], by simp [wenv], by simp [wenv]⟩, hb1.trans hbW (by simp)⟩
  have HK : Hid _ := key
  clear key
  go_wp2_with fail
  go_ret
  exact ⟨rfl, HK.out _ rfl⟩

set_option maxHeartbeats 1000000 in
/-- begin: all of what was told last is forgotten. -/
theorem wBegin_any (X : WEnv) (ag : List Nat) (val : Nat → Nat) (out : List UInt8) (bv : Value) (met : List Nat) (w : World) (h : WS X ag val out bv met w) :
    Calls Tryz.prog 45 #[wpt X] w fun e w' => e = .returned (.tuple #[]) ∧ WS X [] (fun _ => 0) [] (.slice none 0 0) met w' ∧ (∃ n, n = 0 ∧ w'.ownsMap Tryz.prog 3 pieceElem X.pc n (.map [])) ∧ Below X.N w w' := by
  have hap := nmap_apart h.nm h.bw
  obtain ⟨L, D, hL, hown, h2, h3, h4⟩ := h.nm
  obtain ⟨np, Dp, hpo⟩ := h.pc
  obtain ⟨w1, hcl1, ho1, hb1⟩ := run_clear hown Tryz.underlying93
  have hpo1 := ownsMap_but hpo hb1 (by simpa using fun e => h.np e.symm)
  obtain ⟨w2, hcl2, ho2, hb2⟩ := run_clear hpo1 Tryz.underlying94
  have hbw1 := h.bw.frame hb1 (fun hx => hap (by rw [← List.mem_singleton.1 hx]; exact List.mem_cons_self ..)) (fun x hx hy => hap (by rw [← List.mem_singleton.1 hy]; exact List.mem_cons_of_mem _ hx))
  have hpx : X.pc ∉ X.wr :: own bv := fun hx => by
    rcases List.mem_cons.1 hx with e | hx
    · obtain ⟨A, _, hB⟩ := h.bw.blk
      rw [← e] at hB
      exact hB.not_map hpo
    · obtain ⟨_, cs', fz, hg⟩ := ownsRowF_mem h.bw.row hx
      obtain ⟨es, clock, h3⟩ := ownsMap_block hpo
      rw [hg] at h3
      simp at h3
  have hbw2 := hbw1.frame hb2 (fun hx => hpx (by rw [← List.mem_singleton.1 hx]; exact List.mem_cons_self ..)) (fun x hx hy => hpx (by rw [← List.mem_singleton.1 hy]; exact List.mem_cons_of_mem _ hx))
  have hwk1 := h.wk.but hb1 (by
    intro e
    have := h.wk.1
    rw [List.mem_singleton.1 e] at this
    exact this.not_map hown) (by simpa using h.mn)
  have hwk2 := hwk1.but hb2 (by
    intro e
    have := h.wk.1
    rw [List.mem_singleton.1 e] at this
    exact this.not_map hpo) (by simpa using h.mp)
  have ho12 := ownsMap_but ho1 hb2 (by simpa using h.np)
  have HR : Hid _ := bReset_any X out bv w2 hbw2
  have c2 := h.bw.cell.2.2.1
  have c3 := hbw1.cell.2.2.2
  have HB : Hid (Below X.N w w2) := (hb1.below h.bw.N (fun x hx => by rw [List.mem_singleton.1 hx]; exact h.Nnm)).trans (hb2.below (Nat.le_trans h.bw.N hb1.size) (fun x hx => by rw [List.mem_singleton.1 hx]; exact h.Npc))
  have HH : Hid _ := h
  have hnwr : X.nm ≠ X.wr := fun e => hap (by rw [e]; exact List.mem_cons_self ..)
  have hpwr : X.pc ≠ X.wr := fun e => hpx (by rw [e]; exact List.mem_cons_self ..)
  have H1 : Hid (WkOk X met w2) := hwk2
  have H2 : Hid _ := ho12
  have H3 : Hid _ := ho2
  have hwkwr : X.wk ≠ X.wr := fun e => by
    obtain ⟨A, _, hB⟩ := hbw2.blk
    have := hwk2.1
    rw [e] at this
    exact absurd (this.inj hB).2 (by decide)
  have hmwr : X.m ≠ X.wr := fun e => by
    obtain ⟨A, _, hB⟩ := hbw2.blk
    obtain ⟨_, D, hm, _⟩ := hwk2
    rw [e] at hm
    exact hB.not_map hm
  have HN : Hid (X.N ≤ w2.heap.size) := hbw2.N
  have HNE : Hid (X.nm ≠ X.wr ∧ X.pc ≠ X.wr ∧ X.wk ≠ X.wr ∧ X.m ≠ X.wr) := ⟨hnwr, hpwr, hwkwr, hmwr⟩
  clear hown h2 h3 h4 hpo ho1 hb1 hpo1 ho2 hb2 hbw1 hbw2 hwk1 hwk2 ho12 h hL hap hpx hnwr hpwr hwkwr hmwr
  go_enter Tryz.func45, Tryz.ntmps45
  go_wp2_with fail
  refine Calls.mono HR.out ?_
  rintro e w3 ⟨rfl, hB3, hb3⟩
  go_wp2_with fail
  go_end0
  obtain ⟨n1, n2, n3, n4⟩ := HNE.out
  have hm2 := ownsMap_but H2.out hb3 (by simpa using n1)
  have hm3 := ownsMap_but H3.out hb3 (by simpa using n2)
  refine ⟨rfl, ⟨hB3, NmOk.empty hm2 rfl rfl, H1.out.but hb3 (by simpa using n3) (by simpa using n4), ⟨0, _, hm3⟩, HH.out.Nwr, HH.out.Nwk, HH.out.Nmm, HH.out.Nnm, HH.out.Npc, HH.out.mn, HH.out.mp, HH.out.np⟩, ⟨0, rfl, hm3⟩, HB.out.trans (hb3.below HN.out (fun x hx => by rw [List.mem_singleton.1 hx]; exact HH.out.Nwr))⟩

set_option maxHeartbeats 1000000 in
theorem wPlain_any (X : WEnv) (ag0 : List Nat) (val : Nat → Nat) (out : List UInt8) (bv : Value) (met : List Nat) (w : World) (h : WS X ag0 val out bv met w) (an : Nat) (nv : Value) (rows : List Row) (base : Nat) (hW : Whole (rows.map Row.n)) (hBs : Bs X an nv rows base w) (k : Nat) (hk : k < rows.length) :
    Calls Tryz.prog 31 #[wpt X, .int .i64 (k : Int)] w fun e w' => e = .returned (.string ⟨(plainM (rows.map Row.n) k).toArray⟩) ∧ Below X.N w w' := by
  obtain ⟨hc1, hc2, hpl⟩ := plain_come hW (k := k) (by simpa using hk)
  have hne : plainM (rows.map Row.n) k ≠ [] := plainM_ne hW (by simpa using hk)
  have HNE : Hid _ := hne
  have H1 : Hid _ := hc1
  have H2 : Hid _ := hc2
  have HB : Hid _ := wBegin_any X ag0 val out bv met w h
  clear hc1 hc2 hpl hne
  go_enter Tryz.func31, Tryz.ntmps31
  go_wp2_with fail
  refine Calls.mono HB.out ?_
  rintro e w1 ⟨rfl, hS1, _, hb1⟩
  have hBs1 := hBs.below hb1
  go_wp2_with fail
  refine (wGive_any X _ met w1 hS1 an nv rows base hW hBs1 k hk _ _ H1.out).mono ?_
  rintro e w2 ⟨rfl, ⟨bv2, met2, hS2⟩, hb2⟩
  have hBs2 := hBs1.below hb2
  go_wp2_with fail
  refine (wTell_any X _ _ (fun _ => rfl) bv2 met2 w2 hS2 an nv rows base hW hBs2 k hk _ _ H2.out).mono ?_
  rintro e w3 ⟨rfl, ⟨bv3, met3, hS3⟩, hb3⟩
  go_wp2_with fail
  refine (bString_any X _ bv3 w3 hS3.bw HNE.out).mono ?_
  rintro e w4 ⟨rfl, hB4, hb4⟩
  go_wp2_with fail
  go_ret
  exact ⟨rfl, ((hb1.trans hb2).trans hb3).trans (hb4.below hS3.bw.N (fun x hx => (ownsRowF_mem hS3.bw.row hx).1))⟩

/-- A doc: its graph is whole. -/
theorem below_but {w w' : World} (h : Below w.heap.size w w') : But [] w w' := ⟨h.os, h.tape, h.output, h.size, fun k hk _ => h.block k hk⟩

set_option maxHeartbeats 1000000 in
theorem dPlain_any (E : Env) (t : PS) (nv : Value) (rows : List Row) (w : World) (h : PInv E t nv rows w) (hn : 0 < rows.length) (hW : Whole t.nodes) (N0 : Nat) (hT : Tabs N0 w) (hN0 : N0 ≤ w.heap.size) (d : Nat) (hd : Blk w d #[.pointer (some ⟨E.g, 0, none⟩)] 59) :
    Calls Tryz.prog 19 #[.pointer (some ⟨d, 0, none⟩)] w fun e w' => e = .returned (.string ⟨(plainM t.nodes 0).toArray⟩) ∧ But [] w w' := by
  have hsame := h.same
  have c0 : w.cell? ⟨d, 0, none⟩ = some (.pointer (some ⟨E.g, 0, none⟩)) := hd.cell rfl
  have hGI : GI (wenv w.heap.size E.g) t.anchors nv rows E.base w := h.toGI _ rfl rfl
  have HGI : Hid (Bs (wenv w.heap.size E.g) t.anchors nv rows E.base w) := ⟨hGI, hT.mono hN0⟩
  rw [hsame] at hW
  have HS : Hid _ := hsame
  clear hsame hGI h hT
  go_enter Tryz.func19, Tryz.ntmps19
  go_wp2_with fail
  refine (isNothing_any d E.g w hd).mono ?_
  rintro e w1 ⟨rfl, hw1⟩
  rw [hw1]
  clear hw1
  go_wp2_with fail
  refine (newWriter_any E.g w).mono ?_
  rintro e w2 ⟨rfl, hS2, hb2⟩
  have hBs2 := HGI.out.below (hb2.below (Nat.le_refl _) (by simp))
  go_wp2_with fail
  refine (wPlain_any _ _ _ _ _ _ w2 hS2 t.anchors nv rows E.base hW hBs2 0 hn).mono ?_
  rintro e w3 ⟨rfl, hb3⟩
  go_wp2_with fail
  go_ret
  refine ⟨congrArg (fun l => Ending.returned (.string ⟨(plainM l 0).toArray⟩)) HS.out.symm, ?_⟩
  exact below_but ((hb2.below (Nat.le_refl _) (by simp)).trans hb3)

end Go.Proofs.YtkflkmmbakccoaaGreatDoor

/- WALKS: strconv.Atoi; package graph: number, find, At; package grafter: Get. -/
namespace Go.Proofs.YtkflkmmbakccoaaGreatDoor
open Go.RowKit Go.Maps

theorem atoi_decs : ((List.range 1001).all fun j => match Lib.atoiAll (decL j) with | .ok v => decide (v = (j : Int)) | _ => false) = true := by decide +kernel

theorem atoi_dec {j : Nat} (h : j ≤ 1000) : Lib.atoiAll (decL j) = .ok (j : Int) := by
  have := List.all_eq_true.1 atoi_decs j (List.mem_range.2 (by omega))
  split at this
  · rename_i v hv
    rw [hv]
    have := of_decide_eq_true this
    rw [this]
  · cases this

/-- What a number below 'most' says. -/
def numM (x : ByteArray) (most : Nat) : Option Nat := (List.range most).find? (fun j => decide (decL j = x.data.toList))
def optV (o : Option Nat) : Int := match o with | some j => (j : Int) | none => -1

theorem numM_some {x : ByteArray} {most v : Nat} (hv : v < most) (h : decL v = x.data.toList) : numM x most = some v := by
  unfold numM
  have hs : (List.range most).find? (fun j => decide (decL j = x.data.toList)) ≠ none := fun e => by
    have := List.find?_eq_none.1 e v (List.mem_range.2 hv)
    exact this (by simpa using h)
  cases hf : (List.range most).find? (fun j => decide (decL j = x.data.toList)) with
  | none => exact absurd hf hs
  | some u =>
    have := List.find?_some hf
    have hu : decL u = x.data.toList := by simpa using this
    rw [decL_inj (hu.trans h.symm)]

theorem numM_none {x : ByteArray} {most : Nat} (h : ∀ j, j < most → decL j ≠ x.data.toList) : numM x most = none := by
  unfold numM
  rw [List.find?_eq_none]
  intro j hj
  simpa using h j (List.mem_range.1 hj)

theorem str_eq {a : List UInt8} {x : ByteArray} : ((⟨a.toArray⟩ : ByteArray) = x) ↔ a = x.data.toList := by
  constructor
  · intro h; rw [← h]
  · intro h; apply ByteArray.ext; rw [h]

theorem str_bne (a b : ByteArray) : (a.toList != b.toList) = decide (a ≠ b) := by
  by_cases h : a = b
  · subst h; simp
  · have : a.toList ≠ b.toList := fun e => h (bytes_toList e)
    simp [h, this]

theorem bytesWorld_but (w : World) (e : TypeId) (s : ByteArray) : But [] w (Lib.bytesWorld w e s) := by
  unfold Lib.bytesWorld
  exact (((But.refl [] w).drew).alloc _).freeze (.inr (Nat.le_refl _)) _

set_option maxRecDepth 20000 in
set_option maxHeartbeats 1000000 in
theorem number_any (x : ByteArray) (hx : x.size ≤ 281474976710656) (most : Nat) (hm : most ≤ 1000) (N : Nat) (w : World) (hT : Tabs N w) (hN : N ≤ w.heap.size) :
    Calls Tryz.prog 74 #[.string x, .int .i64 (most : Int)] w fun e w' => e = .returned (.int .i64 (optV (numM x most))) ∧ But [] w w' := by
  have bad : (∀ v, Lib.atoiAll x.data.toList ≠ .ok v) → numM x most = none := fun h => numM_none (fun j hj e => h j (by rw [← e]; exact atoi_dec (by omega)))
  cases ha : Lib.atoiAll x.data.toList with
  | ok v =>
    have hbd := Lib.atoiAll_bounds ha
    have hany : ∀ j, j < most → decL j = x.data.toList → (j : Int) = v := fun j hj e => by
      have := atoi_dec (j := j) (by omega)
      rw [e, ha] at this
      simpa using this.symm
    have HA : Hid (Calls Tryz.prog 102 #[.string x] w fun e w' => e = .returned (.tuple #[.int .i64 v, .nilIface]) ∧ But [] w w') := by
      refine Calls.mono (show Calls Tryz.prog 102 #[.string x] w _ from Any.strconv_Atoi_ok Tryz.laysC172 x (by omega) v ha w) ?_
      rintro e w' ⟨rfl, h⟩
      refine ⟨rfl, ?_⟩
      rcases h with rfl | ⟨t, rfl⟩
      · exact But.refl _ _
      · exact bytesWorld_but _ _ _
    by_cases h1 : v < 0
    · have HM : Hid (numM x most = none) := numM_none (fun j hj e => by have := hany j hj e; omega)
      clear ha bad hany
      go_enter Tryz.func74, Tryz.ntmps74
      go_wp2_with fail
      refine Calls.mono HA.out ?_
      rintro e w1 ⟨rfl, hb1⟩
      go_wp2_with fail
      go_ret
      exact ⟨ret_int (by rw [HM.out]; rfl), hb1⟩
    · by_cases h2 : (most : Int) ≤ v
      · have HM : Hid (numM x most = none) := numM_none (fun j hj e => by have := hany j hj e; omega)
        clear ha bad hany
        go_enter Tryz.func74, Tryz.ntmps74
        go_wp2_with fail
        refine Calls.mono HA.out ?_
        rintro e w1 ⟨rfl, hb1⟩
        go_wp2_with fail
        go_ret
        exact ⟨ret_int (by rw [HM.out]; rfl), hb1⟩
      · obtain ⟨u, rfl⟩ : ∃ u : Nat, v = (u : Int) := ⟨v.toNat, by omega⟩
        by_cases he : decL u = x.data.toList
        · have HM : Hid (numM x most = some u) := numM_some (by omega) he
          have hnb : ((⟨(decL u).toArray⟩ : ByteArray).toList != x.toList) = false := by rw [str_bne, str_eq.2 he]; simp
          clear ha bad hany
          go_enter Tryz.func74, Tryz.ntmps74
          go_wp2_with fail
          refine Calls.mono HA.out ?_
          rintro e w1 ⟨rfl, hb1⟩
          have hT1 := hT.below (hb1.below hN (by simp))
          go_wp2_with (go_at_call 100; refine (itoa_any u (by omega) N _ hT1).mono ?_; rintro e w2 ⟨rfl, hb2⟩)
          go_ret
          exact ⟨ret_int (by rw [HM.out]; rfl), hb1.trans hb2 (by simp)⟩
        · have HM : Hid (numM x most = none) := numM_none (fun j hj e => he (by have h := hany j hj e; have h' : j = u := (by omega); rw [← h']; exact e))
          have hnb : ((⟨(decL u).toArray⟩ : ByteArray).toList != x.toList) = true := by
            rw [str_bne]
            simpa using fun e => he (str_eq.1 e)
          have hq : (decL u == x.toList) = false := by simpa using hnb
          clear ha bad hany
          go_enter Tryz.func74, Tryz.ntmps74
          go_wp2_with fail
          refine Calls.mono HA.out ?_
          rintro e w1 ⟨rfl, hb1⟩
          have hT1 := hT.below (hb1.below hN (by simp))
          go_wp2_with (go_at_call 100; refine (itoa_any u (by omega) N _ hT1).mono ?_; rintro e w2 ⟨rfl, hb2⟩)
          go_ret
          exact ⟨ret_int (by rw [HM.out]; rfl), hb1.trans hb2 (by simp)⟩
  | range =>
    obtain ⟨tp, p, hv⟩ := hT.rng
    have HM : Hid (numM x most = none) := bad (fun v e => by rw [ha] at e; cases e)
    have HA : Hid (Calls Tryz.prog 102 #[.string x] w fun e w' => ∃ n T N', e = .returned (.tuple #[.int .i64 n, .iface T (.pointer (some ⟨N', 0, none⟩))]) ∧ But [] w w') := by
      refine Calls.mono (show Calls Tryz.prog 102 #[.string x] w _ from Any.strconv_Atoi_range_var Tryz.laysC172 x hx ha tp p w hv) ?_
      rintro e w' ⟨N', rfl, _, _, hb⟩
      exact ⟨_, _, N', rfl, below_but hb⟩
    clear ha bad
    go_enter Tryz.func74, Tryz.ntmps74
    go_wp2_with fail
    refine Calls.mono HA.out ?_
    rintro e w1 ⟨n, T, N', rfl, hb1⟩
    go_wp2_with fail
    go_ret
    exact ⟨ret_int (by rw [HM.out]; rfl), hb1⟩
  | _ =>
    obtain ⟨tp, p, hv⟩ := hT.syn
    have HM : Hid (numM x most = none) := bad (fun v e => by rw [ha] at e; cases e)
    have HA : Hid (Calls Tryz.prog 102 #[.string x] w fun e w' => ∃ n T N', e = .returned (.tuple #[.int .i64 n, .iface T (.pointer (some ⟨N', 0, none⟩))]) ∧ But [] w w') := by
      refine Calls.mono (show Calls Tryz.prog 102 #[.string x] w _ from Any.strconv_Atoi_syntax_var Tryz.laysC172 x hx ha tp p w hv) ?_
      rintro e w' ⟨N', rfl, _, _, hb⟩
      exact ⟨_, _, N', rfl, below_but hb⟩
    clear ha bad
    go_enter Tryz.func74, Tryz.ntmps74
    go_wp2_with fail
    refine Calls.mono HA.out ?_
    rintro e w1 ⟨n, T, N', rfl, hb1⟩
    go_wp2_with fail
    go_ret
    exact ⟨ret_int (by rw [HM.out]; rfl), hb1⟩

end Go.Proofs.YtkflkmmbakccoaaGreatDoor
