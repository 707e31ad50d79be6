/- PARTS: C5. -/
import Derived.Test.YtkflkmmbakccoaaGreatDoorI34
import Derived.Test.YtkflkmmbakccoaaGreatDoorI13

/- WALKS: package grafterref: written. -/
namespace Go.Proofs.YtkflkmmbakccoaaGreatDoor
open Go.RowKit Go.Maps

abbrev intsV (l : List Int) : List Value := l.map (fun i => Value.int .i64 i)
abbrev boolsV (l : List Bool) : List Value := l.map Value.bool

theorem own_apart {w : World} {base base' e e' sz sz' n n' : Nat} {v v' : Value} {xs xs' : List Value} (h : w.ownsRow base e sz v n xs) (h' : w.ownsRow base' e' sz' v' n' xs') (hne : e ≠ e') : ∀ x ∈ own v, x ∉ own v' := fun x hx hy => by
  obtain ⟨_, cs, hc⟩ := ownsRow_lt h hx
  obtain ⟨_, cs', hc'⟩ := ownsRow_lt h' hy
  exact hne (hc.inj hc').2

/-- What the writing finds: the graph, the names, which have been told. -/
structure WrOk (N b : Nat) (nv : Value) (rows : List RRow) (base : Nat) (nsl : Value) (names : List Int) (tv : Value) (told : List Bool) (w : World) : Prop where
  rg : RG N b nv rows base w
  nm : w.ownsRow N 3 1 nsl names.length (intsV names)
  td : w.ownsRow N 4 1 tv told.length (boolsV told)

theorem WrOk.still {N b : Nat} {nv : Value} {rows : List RRow} {base : Nat} {nsl : Value} {names : List Int} {tv : Value} {told : List Bool} {w w' : World} (h : WrOk N b nv rows base nsl names tv told w) (hb : But [] w w') : WrOk N b nv rows base nsl names tv told w' :=
  ⟨h.rg.below (hb.below h.rg.N (by simp)), ownsRow_but h.nm hb (by simp), ownsRow_but h.td hb (by simp)⟩

/-- One more has been told, or what else the writing does. -/
theorem WrOk.step {N b : Nat} {nv : Value} {rows : List RRow} {base : Nat} {nsl : Value} {names : List Int} {tv : Value} {told told' : List Bool} {w w' : World} (h : WrOk N b nv rows base nsl names tv told w) (ht : w'.ownsRow N 4 1 tv told'.length (boolsV told')) (hb : But (own tv) w w') : WrOk N b nv rows base nsl names tv told' w' :=
  ⟨h.rg.below (hb.below h.rg.N (fun x hx => (ownsRow_lt h.td hx).1)), ownsRow_but h.nm hb (own_apart h.nm h.td (by decide)), ht⟩

/-- How the writing ends. -/
def WrPost (N : Nat) (tv : Value) (w : World) (r : List UInt8 × List Bool) (e : Ending) (w' : World) : Prop :=
  ∃ x : ByteArray, e = .returned (.string x) ∧ x = bS r.1 ∧ w'.ownsRow N 4 1 tv r.2.length (boolsV r.2) ∧ But (own tv) w w'

theorem kbyte_u8 (k : Nat) : (kbyte k : Int) ≤ 255 := by unfold kbyte; split <;> (try split) <;> decide

set_option maxRecDepth 20000 in
set_option maxHeartbeats 4000000 in
theorem written_any {N b : Nat} {nv : Value} {rows : List RRow} {base : Nat} {nodes : List NodeV} (hR : RSame nodes rows) (hW : Whole nodes) (nsl : Value) (names : List Int) (hnml : names.length = rows.length) (hnmb : ∀ k, names.getD k (-1) ≤ 1000) (tv : Value) (f : Nat) (hf2 : f ≤ 200) :
    ∀ (id : Nat) (told : List Bool) (most : Int) (w : World), id < rows.length → highOf nodes id < f → -9223372036854775808 ≤ most → most ≤ 1000000000 → (∀ k, k < rows.length → 0 ≤ names.getD k (-1) → k < told.length) → WrOk N b nv rows base nsl names tv told w →
    Calls Tryz.prog 55 #[.pointer (some ⟨b, 0, none⟩), .int .i64 (id : Int), nsl, tv, .int .i64 most] w fun e w' => WrPost N tv w (wrM nodes names f id told most) e w' := by
  have hnl : nodes.length = rows.length := by rw [hR.same]; simp
  induction f with
  | zero => intro id told most w _ h; omega
  | succ f ih =>
    intro id told most w hid hf hm1 hm2 hnt hO
    have IH : Hid _ := ih (by omega)
    clear ih
    have hrl : rows.length ≤ 500 := by have := hW.len; omega
    -- the node's cells
    obtain ⟨cs, hcs, h8⟩ := hO.rg.rd
    have d8 : w.cell? ⟨b, 8, none⟩ = some nv := hcs.cell h8
    obtain ⟨nb, ncap, hnv, hncap, hcn⟩ := hO.rg.node id hid
    have n0 := hcn 0 (by omega)
    have n1 := hcn 1 (by omega)
    have n2 := hcn 2 (by omega)
    have n3 := hcn 3 (by omega)
    have n4 := hcn 4 (by omega)
    have n5 := hcn 5 (by omega)
    simp only [RRow.cells, List.getElem?_cons_succ, List.getElem?_cons_zero, Nat.add_zero] at n0 n1 n2 n3 n4 n5
    rw [hnv] at d8
    have hkb := hR.kb rows[id] (List.getElem_mem hid)
    have hnode := hW.node (i := id) (by omega)
    have hpt : ∀ p ∈ (nodeAt nodes id).parts, p < nodes.length ∧ highOf nodes p < highOf nodes id := fun p hp => hW.part (by omega) hp
    have hwl := wr_len hW hnmb (f + 1) id told most (by omega) hf
    rw [rnodeAt hR id hid] at hnode hpt
    obtain ⟨ka, kc, hkv, hkc⟩ := own_shape (hO.rg.each rows[id] (List.getElem_mem hid)).1
    obtain ⟨pa, pc, hpv, hpc⟩ := own_shape (hO.rg.each rows[id] (List.getElem_mem hid)).2
    rw [hkv] at n2
    rw [hpv] at n3
    rw [hkb] at n0
    -- the local copy
    obtain ⟨W0, HW0⟩ : ∃ W0, Hid (W0 = w.alloc (.cells #[.int .u8 (kbyte (rows[id]).n.kind : Int), .string (rows[id]).n.text, .slice ka (rows[id]).n.keys.length kc, .slice pa (rows[id]).n.parts.length pc, .int .i64 ((rows[id]).n.high : Int), .int .i64 ((rows[id]).n.heavy : Int)] 109)) := ⟨_, (rfl : w.alloc (.cells #[.int .u8 (kbyte (rows[id]).n.kind : Int), .string (rows[id]).n.text, .slice ka (rows[id]).n.keys.length kc, .slice pa (rows[id]).n.parts.length pc, .int .i64 ((rows[id]).n.high : Int), .int .i64 ((rows[id]).n.heavy : Int)] 109) = w.alloc (.cells #[.int .u8 (kbyte (rows[id]).n.kind : Int), .string (rows[id]).n.text, .slice ka (rows[id]).n.keys.length kc, .slice pa (rows[id]).n.parts.length pc, .int .i64 ((rows[id]).n.high : Int), .int .i64 ((rows[id]).n.heavy : Int)] 109))⟩
    have hb0 : But [] w W0 := by rw [HW0.out]; exact alloc_but _ _
    have hL0 : Blk W0 w.heap.size #[.int .u8 (kbyte (rows[id]).n.kind : Int), .string (rows[id]).n.text, .slice ka (rows[id]).n.keys.length kc, .slice pa (rows[id]).n.parts.length pc, .int .i64 ((rows[id]).n.high : Int), .int .i64 ((rows[id]).n.heavy : Int)] 109 := by rw [HW0.out]; exact blk_new _ _ _
    have hO0 := hO.still hb0
    -- its name's number
    obtain ⟨ng, nncap, e2, hnc, _, hncell⟩ := row1_cell hO0.nm (by omega)
    have hng : W0.cell? ⟨ng, id, none⟩ = some (.int .i64 (names.getD id (-1))) := hncell id _ (by
      have hi : id < names.length := by omega
      simp [intsV, List.getD, hi])
    subst e2
    rw [hnml] at hnc
    have hlw : ∀ x ∈ own tv, x ≠ w.heap.size := fun x hx e => by
      obtain ⟨_, cs', hc'⟩ := ownsRow_lt hO.td hx
      have := hc'.lt
      omega
    have HLW : Hid _ := hlw
    have HO0 : Hid _ := hO0
    have HOw : Hid _ := hO
    have HB0 : Hid _ := hb0
    have HPT : Hid _ := hpt
    have HND : Hid _ := hnode
    have HKV : Hid _ := hkv
    have HPV : Hid _ := hpv
    have hnmi := hnmb id
    rw [hnml]
    generalize hnmv : names.getD id (-1) = nm at *
    have HNM : Hid _ := hnmv
    clear hcn hcs hpt hnode hkv hpv hO hO0 hb0 hncell hnmv hlw
    have HNT : Hid _ := hnt
    suffices hsuf : ∀ tq, Hid (tq = tv) → Calls Tryz.prog 55 #[.pointer (some ⟨b, 0, none⟩), .int .i64 (id : Int), .slice (some ⟨ng, 0, none⟩) rows.length nncap, tv, .int .i64 most] w fun e w' => WrPost N tq w (wrM nodes names (f + 1) id told most) e w' from hsuf tv rfl
    intro tq HTQ
    by_cases hA : 0 ≤ nm
    · have htl : id < told.length := HNT.out id hid (by rw [HNM.out]; exact hA)
      obtain ⟨tg, tcap, e3, htc, _, htcell⟩ := row1_cell HO0.out.td (by omega)
      have htd : W0.cell? ⟨tg, id, none⟩ = some (.bool (told.getD id false)) := htcell id _ (by simp [boolsV, List.getD, htl])
      obtain ⟨u, hu⟩ : ∃ u : Nat, nm = (u : Int) := ⟨nm.toNat, by omega⟩
      have HU : Hid (nm = (u : Int)) := hu
      have hu1 : u ≤ 1000 := by omega
      have hset := row1_set (xs := boolsV told) (n := told.length) (g := tg) (cap := tcap) (w := W0) (by rw [← e3]; exact HO0.out.td) id (.bool true)
      have f0 := hset.2
      have HSET : Hid _ := hset.1
      have HE3 : Hid _ := e3
      subst hu
      have hnn : (0 : Int) ≤ (u : Int) := by omega
      clear htcell hset
      by_cases hTd : told.getD id false = true
      · have htold := wrM_told (nodes := nodes) (names := names) (f := f) (k := id) (told := told) (most := most) ⟨by rw [HNM.out]; omega, hTd⟩
        rw [HNM.out] at htold
        have HTO : Hid _ := htold
        rw [hTd] at htd
        rw [e3]
        clear htold hTd hwl
        go_enter Tryz.func55, Tryz.ntmps55
        go_upto_region 2 with fail
        rw [← HW0.out]
        go_wp2_with (go_at_call 84; refine (decimal_any u _ (by omega)).mono ?_; rintro e w' ⟨d, rfl, hww, HD, hds⟩; have hww2 := hww.symm; clear hww; subst hww2)
        go_ret
        rw [HTQ.out]
        refine ⟨_, rfl, ?_, ?_, HB0.out.mono (by simp)⟩
        · rw [HTO.out, HD.out]
          exact bS_app [42, 110] _
        · rw [HTO.out]; exact HO0.out.td
      · have hTd' : told.getD id false = false := by simpa using hTd
        have HNO : Hid (¬ (0 ≤ names.getD id (-1) ∧ told.getD id false = true)) := fun h => hTd h.2
        rw [hTd'] at htd
        rw [e3]
        obtain ⟨W1, HW1⟩ : ∃ W1, Hid (W1 = W0.setCell ⟨tg, id, none⟩ (.bool true)) := ⟨_, (rfl : W0.setCell ⟨tg, id, none⟩ (.bool true) = W0.setCell ⟨tg, id, none⟩ (.bool true))⟩
        clear hTd hTd'
        go_enter Tryz.func55, Tryz.ntmps55
        go_upto_region 2 with fail
        rw [← HW0.out]
        go_upto_region 9 with (go_at_call 84; refine (decimal_any u _ (by omega)).mono ?_; rintro e w' ⟨d, rfl, hww, HD, hds⟩; have hww2 := hww.symm; clear hww; subst hww2)
        rw [← HW1.out]
        obtain ⟨s0, hs0⟩ : ∃ s0, s0 = (⟨#[38, 110]⟩ : ByteArray) ++ d ++ ⟨#[32]⟩ := ⟨_, rfl⟩
        rw [← hs0]
        have HS0 : Hid (s0 = bS (preL (u : Int))) := by
          unfold Hid
          rw [hs0, HD.out]
          apply ByteArray.ext
          simp [ByteArray.data_append, preL]
        have hs0s : s0.size ≤ 1000010 := by rw [hs0]; simp only [ByteArray.size_append]; show 2 + d.size + 1 ≤ _; omega
        have hbT : But (own tv) W0 W1 := by rw [HW1.out]; exact (But.refl _ _).setCell (.inl (by rw [HE3.out]; simp [own])) _
        have HB1 : Hid (But (own tv) w W1) := (HB0.out.mono (S' := own tv) (by simp)).trans hbT (fun x hx => .inl hx)
        have htl2 : (toldSet told id (u : Int)).length = told.length := by unfold toldSet; rw [if_pos (by omega)]; simp
        have HTL : Hid _ := htl2
        have hrow1 : W1.ownsRow N 4 1 tv (toldSet told id (u : Int)).length (boolsV (toldSet told id (u : Int))) := by
          rw [htl2, HW1.out, HE3.out]
          have := HSET.out
          unfold toldSet
          rw [if_pos (by omega)]
          rw [show boolsV (told.set id true) = (boolsV told).set id (.bool true) by simp [boolsV, List.map_set]]
          exact this
        have HO1 : Hid (WrOk N b nv rows base (.slice (some ⟨ng, 0, none⟩) names.length nncap) names tv (toldSet told id (u : Int)) W1) := HO0.out.step hrow1 hbT
        have HL1 : Hid (Blk W1 w.heap.size #[.int .u8 (kbyte (rows[id]).n.kind : Int), .string (rows[id]).n.text, .slice ka (rows[id]).n.keys.length kc, .slice pa (rows[id]).n.parts.length pc, .int .i64 ((rows[id]).n.high : Int), .int .i64 ((rows[id]).n.heavy : Int)] 109) := hbT.blk hL0 (fun hh => HLW.out _ hh rfl)
        rw [← HE3.out]
        generalize hnm2 : (u : Int) = nm at *
        have HN2 : Hid _ := hnm2
        clear hnm2 hrow1 hs0 hbT htd f0 hng htl2 e3
        have hkdd : (rows[id]).n.kind = 0 ∨ (rows[id]).n.kind = 1 ∨ (rows[id]).n.kind = 2 := by have := HND.out.kind; omega
        have l0 := HL1.out.cell (i := 0) rfl
        have l1 := HL1.out.cell (i := 1) rfl
        have l3 := HL1.out.cell (i := 3) rfl
        rcases hkdd with hkd | hkd | hkd
        · have htx := wrM_text (nodes := nodes) (f := f) (most := most) HNO.out (by rw [rnodeAt hR id hid]; exact hkd)
          rw [HNM.out, rnodeAt hR id hid] at htx
          have HTX : Hid _ := htx
          have hkk : (kbyte (rows[id]).n.kind : Int) = 116 := by rw [hkd]; rfl
          rw [hkk] at l0
          have hts := HND.out.text.1
          clear htx hkk hkd hwl
          go_wp2_with (go_at_call 85; refine (rScalar_any _ _ (by omega)).mono ?_; rintro e w' ⟨y, rfl, hww, HY, hys⟩; have hww2 := hww.symm; clear hww; subst hww2)
          go_ret
          rw [HTQ.out]
          refine ⟨_, rfl, ?_, ?_, HB1.out⟩
          · rw [HTX.out, HS0.out, HY.out]; exact bS_app _ _
          · rw [HTX.out]; exact HO1.out.td
        · have HKD : Hid _ := hkd
          have hin := wrM_in (nodes := nodes) (f := f) (most := most) HNO.out 91 93 (.inl ⟨by rw [rnodeAt hR id hid]; exact hkd, rfl, rfl⟩)
          rw [HNM.out, rnodeAt hR id hid] at hin
          have HIN : Hid _ := hin
          have hwl2 := hwl
          rw [hin] at hwl2
          simp only [List.length_append, List.length_cons, List.length_nil] at hwl2
          have HWL : Hid _ := hwl2
          have hkk : (kbyte (rows[id]).n.kind : Int) = 108 := by rw [hkd]; rfl
          rw [hkk] at l0
          have hpl5 := HND.out.len
          have HLD : Hid (∀ i, leadL nodes (some (id, i)) = if 0 < i then [44, 32] else []) := fun i => by rw [leadL_list (by rw [rnodeAt hR id hid]; exact hkd)]
          clear hin hwl2 hkk hwl hkd
          go_wp2_with fail
          go_loopw [12, 16] (fun sv iv wr => ∃ (k : Nat) (sk : List UInt8) (tk : List Bool) (x : ByteArray), k ≤ (rows[id]).n.parts.length ∧ iv = .int .i64 (k : Int) ∧ sv = .string x ∧ x = bS sk ∧ tk.length = told.length ∧ wrP nodes (wrM nodes names f) id most ((rows[id]).n.parts.drop k) k (sk, tk) = wrP nodes (wrM nodes names f) id most (rows[id]).n.parts 0 (preL nm ++ [91], toldSet told id nm) ∧ WrOk N b nv rows base (.slice (some ⟨ng, 0, none⟩) names.length nncap) names tv tk wr ∧ But (own tv) W1 wr) (fun _ iv _ => (rows[id]).n.parts.length - (intOf iv).toNat)
          case atStart => exact ⟨0, _, _, _, Nat.zero_le _, rfl, rfl, (by rw [HS0.out]; exact bS_app _ _), HTL.out, rfl, HO1.out, But.refl _ _⟩
          case round =>
            obtain ⟨k, sk, tk, x, hk, rfl, rfl, hx, htk, hwp, hOk, hbk⟩ := hrel
            have HX : Hid _ := hx
            have HWP : Hid _ := hwp
            have hxs : x.size = sk.length := by rw [hx]; exact bS_size _
            have HXS : Hid _ := hxs
            have hmono := wrP_mono nodes (wrM nodes names f) id most ((rows[id]).n.parts.drop k) k (sk, tk)
            rw [hwp] at hmono
            simp only at hmono
            have hwlo := HWL.out
            have hsb : x.size ≤ 1000402100 := by omega
            have hLk : Blk wr w.heap.size #[.int .u8 108, .string (rows[id]).n.text, .slice ka (rows[id]).n.keys.length kc, .slice pa (rows[id]).n.parts.length pc, .int .i64 ((rows[id]).n.high : Int), .int .i64 ((rows[id]).n.heavy : Int)] 109 := hbk.blk (by have := HL1.out; rw [HKD.out] at this; exact this) (fun hh => HLW.out _ hh rfl)
            have l0 := hLk.cell (i := 0) rfl
            have l2 := hLk.cell (i := 2) rfl
            have l3 := hLk.cell (i := 3) rfl
            have HOK : Hid _ := hOk
            have HBK : Hid _ := hbk
            clear hx hwp hLk
            by_cases hc : k < (rows[id]).n.parts.length ∧ (x.size : Int) ≤ most
            · obtain ⟨hkl, hlm⟩ := hc
              have hgo := wrP_go nodes (wrM nodes names f) id most (rows[id]).n.parts k hkl (sk, tk) (by simp only; rw [← hxs]; exact hlm)
              rw [HWP.out] at hgo
              have HGO : Hid _ := hgo
              have hmono2 := wrP_mono nodes (wrM nodes names f) id most ((rows[id]).n.parts.drop (k + 1)) (k + 1) (sk ++ leadL nodes (some (id, k)) ++ (wrM nodes names f (rows[id]).n.parts[k] tk (most - ((sk ++ leadL nodes (some (id, k))).length : Int))).1, (wrM nodes names f (rows[id]).n.parts[k] tk (most - ((sk ++ leadL nodes (some (id, k))).length : Int))).2)
              simp only at hgo
              rw [← hgo] at hmono2
              simp only [List.length_append] at hmono2
              have hldl := leadL_len hW (p := id) (i := k) (by omega)
              have hrrb : (wrM nodes names f (rows[id]).n.parts[k] tk (most - ((sk ++ leadL nodes (some (id, k))).length : Int))).1.length ≤ 1000402100 := by simp only [List.length_append]; omega
              obtain ⟨pbk, cap', e4, _, _, hpcell⟩ := ownsInt_cell (n := (rows[id]).n.parts.length) (l := (rows[id]).n.parts) (hOk.rg.each rows[id] (List.getElem_mem hid)).2 (by omega)
              rw [HPV.out] at e4
              obtain ⟨rfl, rfl⟩ : pa = some ⟨pbk, 0, none⟩ ∧ pc = cap' := by simpa using e4
              have hck := hpcell k hkl
              have hpx := HPT.out _ (List.getElem_mem hkl)
              have hpx' : (rows[id]).n.parts[k] < rows.length := by omega
              have HIC : Hid (∀ m' tvx, m' = most - ((sk ++ leadL nodes (some (id, k))).length : Int) → tvx = tv → Calls Tryz.prog 55 #[.pointer (some ⟨b, 0, none⟩), .int .i64 ((rows[id]).n.parts[k] : Int), .slice (some ⟨ng, 0, none⟩) names.length nncap, tvx, .int .i64 m'] wr fun e w' => WrPost N tv wr (wrM nodes names f (rows[id]).n.parts[k] tk (most - ((sk ++ leadL nodes (some (id, k))).length : Int))) e w') := fun m' tvx hm' htvx => by
                rw [hm', htvx]
                exact IH.out (rows[id]).n.parts[k] tk _ wr hpx' (by omega) (by simp only [List.length_append]; omega) (by simp only [List.length_append]; omega) (fun q hq h0 => by rw [htk]; exact HNT.out q hq h0) hOk
              have hdm := HLD.out k

              have hrt := wr_told nodes names f (rows[id]).n.parts[k] tk (most - ((sk ++ leadL nodes (some (id, k))).length : Int))
              rw [hnml] at HIC
              generalize hrr : wrM nodes names f (rows[id]).n.parts[k] tk (most - ((sk ++ leadL nodes (some (id, k))).length : Int)) = rr at *
              generalize (rows[id]).n.parts[k] = p at *
              have HDM : Hid _ := hdm
              have HRT : Hid _ := hrt
              clear hgo hmono2 hpcell e4 hrr hdm hrt hwlo hmono
              by_cases hk0 : 0 < k
              · rw [if_pos hk0] at HDM
                have hsz1 : ([44, 32] : List UInt8).length = 2 := by rfl
                go_wp2_with fail
                refine Calls.mono (HIC.out _ _ ?_ rfl) ?_
                · rw [HDM.out]
                  have hxs2 := HXS.out
                  simp only [List.length_append, List.length_cons, List.length_nil]
                  first | omega | (push_cast; omega) | (simp [ByteArray.size_append, ByteArray.size]; omega)
                rintro e w3 ⟨t, rfl, ht, htd, hbt⟩
                have HT : Hid _ := ht
                have hts : t.size ≤ 1000402100 := by
                  rw [ht, bS_size]
                  exact hrrb
                clear ht
                go_wp2_with fail
                go_roundw
                case rel =>
                  refine ⟨k + 1, sk ++ leadL nodes (some (id, k)) ++ rr.1, rr.2, _, Nat.succ_le_of_lt hkl, by go_num, rfl, ?_, HRT.out.trans htk, HGO.out.symm, HOK.out.step (by rw [HRT.out] at htd ⊢; exact htd) hbt, HBK.out.trans hbt (fun x hx => .inl hx)⟩
                  rw [HDM.out, HX.out, HT.out]
                  apply ByteArray.ext; simp [ByteArray.data_append]
                case measure => simp [intOf]; omega
              · rw [if_neg hk0] at HDM
                have hsz1 : ([] : List UInt8).length = 0 := by rfl
                go_wp2_with fail
                refine Calls.mono (HIC.out _ _ ?_ rfl) ?_
                · rw [HDM.out]
                  have hxs2 := HXS.out
                  simp only [List.length_append, List.length_nil]
                  first | omega | (push_cast; omega) | (simp [ByteArray.size_append, ByteArray.size]; omega)
                rintro e w3 ⟨t, rfl, ht, htd, hbt⟩
                have HT : Hid _ := ht
                have hts : t.size ≤ 1000402100 := by
                  rw [ht, bS_size]
                  exact hrrb
                clear ht
                go_wp2_with fail
                go_roundw
                case rel =>
                  refine ⟨k + 1, sk ++ leadL nodes (some (id, k)) ++ rr.1, rr.2, _, Nat.succ_le_of_lt hkl, by go_num, rfl, ?_, HRT.out.trans htk, HGO.out.symm, HOK.out.step (by rw [HRT.out] at htd ⊢; exact htd) hbt, HBK.out.trans hbt (fun x hx => .inl hx)⟩
                  rw [HDM.out, HX.out, HT.out]
                  apply ByteArray.ext; simp [ByteArray.data_append]
                case measure => simp [intOf]; omega
            · have hst := wrP_stop nodes (wrM nodes names f) id most (rows[id]).n.parts k (sk, tk) (by simp only; rw [← hxs]; exact hc)
              rw [HWP.out] at hst
              have HST : Hid _ := hst
              clear hst hwlo hmono
              by_cases hkl : k < (rows[id]).n.parts.length
              all_goals
                go_wp2_with fail
                go_ret
                rw [HTQ.out]
                refine ⟨_, rfl, ?_, ?_, ?_⟩
                · rw [HIN.out, HST.out, HX.out]; exact bS_app _ _
                · rw [HIN.out, HST.out]; exact HOK.out.td
                · exact HB1.out.trans HBK.out (fun x hx => .inl hx)
        · have HKD : Hid _ := hkd
          have hin := wrM_in (nodes := nodes) (f := f) (most := most) HNO.out 123 125 (.inr ⟨by rw [rnodeAt hR id hid]; exact hkd, rfl, rfl⟩)
          rw [HNM.out, rnodeAt hR id hid] at hin
          have HIN : Hid _ := hin
          have hwl2 := hwl
          rw [hin] at hwl2
          simp only [List.length_append, List.length_cons, List.length_nil] at hwl2
          have HWL : Hid _ := hwl2
          have hkk : (kbyte (rows[id]).n.kind : Int) = 109 := by rw [hkd]; rfl
          rw [hkk] at l0
          have hpl5 := HND.out.len
          have HLD : Hid (∀ i, leadL nodes (some (id, i)) = (if 0 < i then [44, 32] else []) ++ (textL ((rows[id]).n.keys.getD i ByteArray.empty) ++ [58, 32])) := fun i => by rw [leadL_map (by rw [rnodeAt hR id hid]; exact hkd)]; rw [rnodeAt hR id hid]
          clear hin hwl2 hkk hwl hkd
          go_wp2_with fail
          go_loopw [12, 16] (fun sv iv wr => ∃ (k : Nat) (sk : List UInt8) (tk : List Bool) (x : ByteArray), k ≤ (rows[id]).n.parts.length ∧ iv = .int .i64 (k : Int) ∧ sv = .string x ∧ x = bS sk ∧ tk.length = told.length ∧ wrP nodes (wrM nodes names f) id most ((rows[id]).n.parts.drop k) k (sk, tk) = wrP nodes (wrM nodes names f) id most (rows[id]).n.parts 0 (preL nm ++ [123], toldSet told id nm) ∧ WrOk N b nv rows base (.slice (some ⟨ng, 0, none⟩) names.length nncap) names tv tk wr ∧ But (own tv) W1 wr) (fun _ iv _ => (rows[id]).n.parts.length - (intOf iv).toNat)
          case atStart => exact ⟨0, _, _, _, Nat.zero_le _, rfl, rfl, (by rw [HS0.out]; exact bS_app _ _), HTL.out, rfl, HO1.out, But.refl _ _⟩
          case round =>
            obtain ⟨k, sk, tk, x, hk, rfl, rfl, hx, htk, hwp, hOk, hbk⟩ := hrel
            have HX : Hid _ := hx
            have HWP : Hid _ := hwp
            have hxs : x.size = sk.length := by rw [hx]; exact bS_size _
            have HXS : Hid _ := hxs
            have hmono := wrP_mono nodes (wrM nodes names f) id most ((rows[id]).n.parts.drop k) k (sk, tk)
            rw [hwp] at hmono
            simp only at hmono
            have hwlo := HWL.out
            have hsb : x.size ≤ 1000402100 := by omega
            have hLk : Blk wr w.heap.size #[.int .u8 109, .string (rows[id]).n.text, .slice ka (rows[id]).n.keys.length kc, .slice pa (rows[id]).n.parts.length pc, .int .i64 ((rows[id]).n.high : Int), .int .i64 ((rows[id]).n.heavy : Int)] 109 := hbk.blk (by have := HL1.out; rw [HKD.out] at this; exact this) (fun hh => HLW.out _ hh rfl)
            have l0 := hLk.cell (i := 0) rfl
            have l2 := hLk.cell (i := 2) rfl
            have l3 := hLk.cell (i := 3) rfl
            have HOK : Hid _ := hOk
            have HBK : Hid _ := hbk
            clear hx hwp hLk
            by_cases hc : k < (rows[id]).n.parts.length ∧ (x.size : Int) ≤ most
            · obtain ⟨hkl, hlm⟩ := hc
              have hgo := wrP_go nodes (wrM nodes names f) id most (rows[id]).n.parts k hkl (sk, tk) (by simp only; rw [← hxs]; exact hlm)
              rw [HWP.out] at hgo
              have HGO : Hid _ := hgo
              have hmono2 := wrP_mono nodes (wrM nodes names f) id most ((rows[id]).n.parts.drop (k + 1)) (k + 1) (sk ++ leadL nodes (some (id, k)) ++ (wrM nodes names f (rows[id]).n.parts[k] tk (most - ((sk ++ leadL nodes (some (id, k))).length : Int))).1, (wrM nodes names f (rows[id]).n.parts[k] tk (most - ((sk ++ leadL nodes (some (id, k))).length : Int))).2)
              simp only at hgo
              rw [← hgo] at hmono2
              simp only [List.length_append] at hmono2
              have hldl := leadL_len hW (p := id) (i := k) (by omega)
              have hrrb : (wrM nodes names f (rows[id]).n.parts[k] tk (most - ((sk ++ leadL nodes (some (id, k))).length : Int))).1.length ≤ 1000402100 := by simp only [List.length_append]; omega
              obtain ⟨pbk, cap', e4, _, _, hpcell⟩ := ownsInt_cell (n := (rows[id]).n.parts.length) (l := (rows[id]).n.parts) (hOk.rg.each rows[id] (List.getElem_mem hid)).2 (by omega)
              rw [HPV.out] at e4
              obtain ⟨rfl, rfl⟩ : pa = some ⟨pbk, 0, none⟩ ∧ pc = cap' := by simpa using e4
              have hck := hpcell k hkl
              have hpx := HPT.out _ (List.getElem_mem hkl)
              have hpx' : (rows[id]).n.parts[k] < rows.length := by omega
              have HIC : Hid (∀ m' tvx, m' = most - ((sk ++ leadL nodes (some (id, k))).length : Int) → tvx = tv → Calls Tryz.prog 55 #[.pointer (some ⟨b, 0, none⟩), .int .i64 ((rows[id]).n.parts[k] : Int), .slice (some ⟨ng, 0, none⟩) names.length nncap, tvx, .int .i64 m'] wr fun e w' => WrPost N tv wr (wrM nodes names f (rows[id]).n.parts[k] tk (most - ((sk ++ leadL nodes (some (id, k))).length : Int))) e w') := fun m' tvx hm' htvx => by
                rw [hm', htvx]
                exact IH.out (rows[id]).n.parts[k] tk _ wr hpx' (by omega) (by simp only [List.length_append]; omega) (by simp only [List.length_append]; omega) (fun q hq h0 => by rw [htk]; exact HNT.out q hq h0) hOk
              have hdm := HLD.out k
              have hkl2 := HND.out.keys
              rw [if_pos HKD.out] at hkl2
              obtain ⟨kbk, kcap, hkv2, _, _, hkcell⟩ := row1_cell (hOk.rg.each rows[id] (List.getElem_mem hid)).1 (by omega)
              rw [HKV.out] at hkv2
              obtain ⟨rfl, rfl⟩ : ka = some ⟨kbk, 0, none⟩ ∧ kc = kcap := by simpa using hkv2
              have hkey : wr.cell? ⟨kbk, k, none⟩ = some (.string ((rows[id]).n.keys.getD k ByteArray.empty)) := hkcell k _ (by
                have hik : k < (rows[id]).n.keys.length := by omega
                simp [List.getD, hik])
              have hkeys : ((rows[id]).n.keys.getD k ByteArray.empty).size ≤ 1000 := by have := (getD_tok HND.out.words k).1; omega
              have hik2 : k < (rows[id]).n.keys.length := by omega
              generalize (rows[id]).n.keys.getD k ByteArray.empty = key at *
              clear hkcell hkv2 hkl2
              have hrt := wr_told nodes names f (rows[id]).n.parts[k] tk (most - ((sk ++ leadL nodes (some (id, k))).length : Int))
              rw [hnml] at HIC
              generalize hrr : wrM nodes names f (rows[id]).n.parts[k] tk (most - ((sk ++ leadL nodes (some (id, k))).length : Int)) = rr at *
              generalize (rows[id]).n.parts[k] = p at *
              have HDM : Hid _ := hdm
              have HRT : Hid _ := hrt
              clear hgo hmono2 hpcell e4 hrr hdm hrt hwlo hmono
              by_cases hk0 : 0 < k
              · rw [if_pos hk0] at HDM
                have hsz1 : ([44, 32] : List UInt8).length = 2 := by rfl
                go_wp2_with (go_at_call 85; refine (rScalar_any _ _ hkeys).mono ?_; rintro e w' ⟨y, rfl, hww, HY, hys⟩; have hww2 := hww.symm; clear hww; subst hww2)
                refine Calls.mono (HIC.out _ _ ?_ rfl) ?_
                · rw [HDM.out]
                  have hxs2 := HXS.out
                  have hy2 : y.size = (textL key).length := by rw [HY.out, bS_size]
                  simp only [List.length_append, List.length_cons, List.length_nil]
                  first | omega | (push_cast; omega) | (simp [ByteArray.size_append, ByteArray.size]; omega)
                rintro e w3 ⟨t, rfl, ht, htd, hbt⟩
                have HT : Hid _ := ht
                have hts : t.size ≤ 1000402100 := by
                  rw [ht, bS_size]
                  exact hrrb
                clear ht
                go_wp2_with fail
                go_roundw
                case rel =>
                  refine ⟨k + 1, sk ++ leadL nodes (some (id, k)) ++ rr.1, rr.2, _, Nat.succ_le_of_lt hkl, by go_num, rfl, ?_, HRT.out.trans htk, HGO.out.symm, HOK.out.step (by rw [HRT.out] at htd ⊢; exact htd) hbt, HBK.out.trans hbt (fun x hx => .inl hx)⟩
                  rw [HDM.out, HX.out, HT.out]
                  rw [HY.out]; apply ByteArray.ext; simp [ByteArray.data_append]
                case measure => simp [intOf]; omega
              · rw [if_neg hk0] at HDM
                have hsz1 : ([] : List UInt8).length = 0 := by rfl
                go_wp2_with (go_at_call 85; refine (rScalar_any _ _ hkeys).mono ?_; rintro e w' ⟨y, rfl, hww, HY, hys⟩; have hww2 := hww.symm; clear hww; subst hww2)
                refine Calls.mono (HIC.out _ _ ?_ rfl) ?_
                · rw [HDM.out]
                  have hxs2 := HXS.out
                  have hy2 : y.size = (textL key).length := by rw [HY.out, bS_size]
                  simp only [List.length_append, List.length_cons, List.length_nil]
                  first | omega | (push_cast; omega) | (simp [ByteArray.size_append, ByteArray.size]; omega)
                rintro e w3 ⟨t, rfl, ht, htd, hbt⟩
                have HT : Hid _ := ht
                have hts : t.size ≤ 1000402100 := by
                  rw [ht, bS_size]
                  exact hrrb
                clear ht
                go_wp2_with fail
                go_roundw
                case rel =>
                  refine ⟨k + 1, sk ++ leadL nodes (some (id, k)) ++ rr.1, rr.2, _, Nat.succ_le_of_lt hkl, by go_num, rfl, ?_, HRT.out.trans htk, HGO.out.symm, HOK.out.step (by rw [HRT.out] at htd ⊢; exact htd) hbt, HBK.out.trans hbt (fun x hx => .inl hx)⟩
                  rw [HDM.out, HX.out, HT.out]
                  rw [HY.out]; apply ByteArray.ext; simp [ByteArray.data_append]
                case measure => simp [intOf]; omega
            · have hst := wrP_stop nodes (wrM nodes names f) id most (rows[id]).n.parts k (sk, tk) (by simp only; rw [← hxs]; exact hc)
              rw [HWP.out] at hst
              have HST : Hid _ := hst
              clear hst hwlo hmono
              by_cases hkl : k < (rows[id]).n.parts.length
              all_goals
                go_wp2_with fail
                go_ret
                rw [HTQ.out]
                refine ⟨_, rfl, ?_, ?_, ?_⟩
                · rw [HIN.out, HST.out, HX.out]; exact bS_app _ _
                · rw [HIN.out, HST.out]; exact HOK.out.td
                · exact HB1.out.trans HBK.out (fun x hx => .inl hx)
    · have HNO : Hid (¬ (0 ≤ names.getD id (-1) ∧ told.getD id false = true)) := fun h => hA (by rw [HNM.out] at h; exact h.1)
      have hpre : preL nm = [] := by unfold preL; rw [if_neg hA]
      have htsn : toldSet told id nm = told := by unfold toldSet; rw [if_neg hA]
      go_enter Tryz.func55, Tryz.ntmps55
      go_upto_region 2 with fail
      rw [← HW0.out]
      go_upto_region 9 with fail
      obtain ⟨s0, hs0⟩ : ∃ s0, s0 = (⟨#[]⟩ : ByteArray) := ⟨_, rfl⟩
      rw [← hs0]
      have HS0 : Hid (s0 = bS (preL nm)) := by unfold Hid; rw [hs0, hpre]
      have hs0s : s0.size ≤ 1000010 := by rw [hs0]; decide
      have HTL : Hid ((toldSet told id nm).length = told.length) := by unfold Hid; rw [htsn]
      obtain ⟨W1, HW1⟩ : ∃ W1, Hid (W1 = W0) := ⟨W0, (rfl : W0 = W0)⟩
      have HB1 : Hid (But (own tv) w W1) := by rw [HW1.out]; exact HB0.out.mono (by simp)
      have HO1 : Hid (WrOk N b nv rows base (.slice (some ⟨ng, 0, none⟩) names.length nncap) names tv (toldSet told id nm) W1) := by rw [HW1.out, htsn]; exact HO0.out
      have HL1 : Hid (Blk W1 w.heap.size #[.int .u8 (kbyte (rows[id]).n.kind : Int), .string (rows[id]).n.text, .slice ka (rows[id]).n.keys.length kc, .slice pa (rows[id]).n.parts.length pc, .int .i64 ((rows[id]).n.high : Int), .int .i64 ((rows[id]).n.heavy : Int)] 109) := by rw [HW1.out]; exact hL0
      rw [← HW1.out]
      clear hs0 hng hpre htsn
      have hkdd : (rows[id]).n.kind = 0 ∨ (rows[id]).n.kind = 1 ∨ (rows[id]).n.kind = 2 := by have := HND.out.kind; omega
      have l0 := HL1.out.cell (i := 0) rfl
      have l1 := HL1.out.cell (i := 1) rfl
      have l3 := HL1.out.cell (i := 3) rfl
      rcases hkdd with hkd | hkd | hkd
      · have htx := wrM_text (nodes := nodes) (f := f) (most := most) HNO.out (by rw [rnodeAt hR id hid]; exact hkd)
        rw [HNM.out, rnodeAt hR id hid] at htx
        have HTX : Hid _ := htx
        have hkk : (kbyte (rows[id]).n.kind : Int) = 116 := by rw [hkd]; rfl
        rw [hkk] at l0
        have hts := HND.out.text.1
        clear htx hkk hkd hwl
        go_wp2_with (go_at_call 85; refine (rScalar_any _ _ (by omega)).mono ?_; rintro e w' ⟨y, rfl, hww, HY, hys⟩; have hww2 := hww.symm; clear hww; subst hww2)
        go_ret
        rw [HTQ.out]
        refine ⟨_, rfl, ?_, ?_, HB1.out⟩
        · rw [HTX.out, HS0.out, HY.out]; exact bS_app _ _
        · rw [HTX.out]; exact HO1.out.td
      · have HKD : Hid _ := hkd
        have hin := wrM_in (nodes := nodes) (f := f) (most := most) HNO.out 91 93 (.inl ⟨by rw [rnodeAt hR id hid]; exact hkd, rfl, rfl⟩)
        rw [HNM.out, rnodeAt hR id hid] at hin
        have HIN : Hid _ := hin
        have hwl2 := hwl
        rw [hin] at hwl2
        simp only [List.length_append, List.length_cons, List.length_nil] at hwl2
        have HWL : Hid _ := hwl2
        have hkk : (kbyte (rows[id]).n.kind : Int) = 108 := by rw [hkd]; rfl
        rw [hkk] at l0
        have hpl5 := HND.out.len
        have HLD : Hid (∀ i, leadL nodes (some (id, i)) = if 0 < i then [44, 32] else []) := fun i => by rw [leadL_list (by rw [rnodeAt hR id hid]; exact hkd)]
        clear hin hwl2 hkk hwl hkd
        go_wp2_with fail
        go_loopw [12, 16] (fun sv iv wr => ∃ (k : Nat) (sk : List UInt8) (tk : List Bool) (x : ByteArray), k ≤ (rows[id]).n.parts.length ∧ iv = .int .i64 (k : Int) ∧ sv = .string x ∧ x = bS sk ∧ tk.length = told.length ∧ wrP nodes (wrM nodes names f) id most ((rows[id]).n.parts.drop k) k (sk, tk) = wrP nodes (wrM nodes names f) id most (rows[id]).n.parts 0 (preL nm ++ [91], toldSet told id nm) ∧ WrOk N b nv rows base (.slice (some ⟨ng, 0, none⟩) names.length nncap) names tv tk wr ∧ But (own tv) W1 wr) (fun _ iv _ => (rows[id]).n.parts.length - (intOf iv).toNat)
        case atStart => exact ⟨0, _, _, _, Nat.zero_le _, rfl, rfl, (by rw [HS0.out]; exact bS_app _ _), HTL.out, rfl, HO1.out, But.refl _ _⟩
        case round =>
          obtain ⟨k, sk, tk, x, hk, rfl, rfl, hx, htk, hwp, hOk, hbk⟩ := hrel
          have HX : Hid _ := hx
          have HWP : Hid _ := hwp
          have hxs : x.size = sk.length := by rw [hx]; exact bS_size _
          have HXS : Hid _ := hxs
          have hmono := wrP_mono nodes (wrM nodes names f) id most ((rows[id]).n.parts.drop k) k (sk, tk)
          rw [hwp] at hmono
          simp only at hmono
          have hwlo := HWL.out
          have hsb : x.size ≤ 1000402100 := by omega
          have hLk : Blk wr w.heap.size #[.int .u8 108, .string (rows[id]).n.text, .slice ka (rows[id]).n.keys.length kc, .slice pa (rows[id]).n.parts.length pc, .int .i64 ((rows[id]).n.high : Int), .int .i64 ((rows[id]).n.heavy : Int)] 109 := hbk.blk (by have := HL1.out; rw [HKD.out] at this; exact this) (fun hh => HLW.out _ hh rfl)
          have l0 := hLk.cell (i := 0) rfl
          have l2 := hLk.cell (i := 2) rfl
          have l3 := hLk.cell (i := 3) rfl
          have HOK : Hid _ := hOk
          have HBK : Hid _ := hbk
          clear hx hwp hLk
          by_cases hc : k < (rows[id]).n.parts.length ∧ (x.size : Int) ≤ most
          · obtain ⟨hkl, hlm⟩ := hc
            have hgo := wrP_go nodes (wrM nodes names f) id most (rows[id]).n.parts k hkl (sk, tk) (by simp only; rw [← hxs]; exact hlm)
            rw [HWP.out] at hgo
            have HGO : Hid _ := hgo
            have hmono2 := wrP_mono nodes (wrM nodes names f) id most ((rows[id]).n.parts.drop (k + 1)) (k + 1) (sk ++ leadL nodes (some (id, k)) ++ (wrM nodes names f (rows[id]).n.parts[k] tk (most - ((sk ++ leadL nodes (some (id, k))).length : Int))).1, (wrM nodes names f (rows[id]).n.parts[k] tk (most - ((sk ++ leadL nodes (some (id, k))).length : Int))).2)
            simp only at hgo
            rw [← hgo] at hmono2
            simp only [List.length_append] at hmono2
            have hldl := leadL_len hW (p := id) (i := k) (by omega)
            have hrrb : (wrM nodes names f (rows[id]).n.parts[k] tk (most - ((sk ++ leadL nodes (some (id, k))).length : Int))).1.length ≤ 1000402100 := by simp only [List.length_append]; omega
            obtain ⟨pbk, cap', e4, _, _, hpcell⟩ := ownsInt_cell (n := (rows[id]).n.parts.length) (l := (rows[id]).n.parts) (hOk.rg.each rows[id] (List.getElem_mem hid)).2 (by omega)
            rw [HPV.out] at e4
            obtain ⟨rfl, rfl⟩ : pa = some ⟨pbk, 0, none⟩ ∧ pc = cap' := by simpa using e4
            have hck := hpcell k hkl
            have hpx := HPT.out _ (List.getElem_mem hkl)
            have hpx' : (rows[id]).n.parts[k] < rows.length := by omega
            have HIC : Hid (∀ m' tvx, m' = most - ((sk ++ leadL nodes (some (id, k))).length : Int) → tvx = tv → Calls Tryz.prog 55 #[.pointer (some ⟨b, 0, none⟩), .int .i64 ((rows[id]).n.parts[k] : Int), .slice (some ⟨ng, 0, none⟩) names.length nncap, tvx, .int .i64 m'] wr fun e w' => WrPost N tv wr (wrM nodes names f (rows[id]).n.parts[k] tk (most - ((sk ++ leadL nodes (some (id, k))).length : Int))) e w') := fun m' tvx hm' htvx => by
              rw [hm', htvx]
              exact IH.out (rows[id]).n.parts[k] tk _ wr hpx' (by omega) (by simp only [List.length_append]; omega) (by simp only [List.length_append]; omega) (fun q hq h0 => by rw [htk]; exact HNT.out q hq h0) hOk
            have hdm := HLD.out k

            have hrt := wr_told nodes names f (rows[id]).n.parts[k] tk (most - ((sk ++ leadL nodes (some (id, k))).length : Int))
            rw [hnml] at HIC
            generalize hrr : wrM nodes names f (rows[id]).n.parts[k] tk (most - ((sk ++ leadL nodes (some (id, k))).length : Int)) = rr at *
            generalize (rows[id]).n.parts[k] = p at *
            have HDM : Hid _ := hdm
            have HRT : Hid _ := hrt
            clear hgo hmono2 hpcell e4 hrr hdm hrt hwlo hmono
            by_cases hk0 : 0 < k
            · rw [if_pos hk0] at HDM
              have hsz1 : ([44, 32] : List UInt8).length = 2 := by rfl
              go_wp2_with fail
              refine Calls.mono (HIC.out _ _ ?_ rfl) ?_
              · rw [HDM.out]
                have hxs2 := HXS.out
                simp only [List.length_append, List.length_cons, List.length_nil]
                first | omega | (push_cast; omega) | (simp [ByteArray.size_append, ByteArray.size]; omega)
              rintro e w3 ⟨t, rfl, ht, htd, hbt⟩
              have HT : Hid _ := ht
              have hts : t.size ≤ 1000402100 := by
                rw [ht, bS_size]
                exact hrrb
              clear ht
              go_wp2_with fail
              go_roundw
              case rel =>
                refine ⟨k + 1, sk ++ leadL nodes (some (id, k)) ++ rr.1, rr.2, _, Nat.succ_le_of_lt hkl, by go_num, rfl, ?_, HRT.out.trans htk, HGO.out.symm, HOK.out.step (by rw [HRT.out] at htd ⊢; exact htd) hbt, HBK.out.trans hbt (fun x hx => .inl hx)⟩
                rw [HDM.out, HX.out, HT.out]
                apply ByteArray.ext; simp [ByteArray.data_append]
              case measure => simp [intOf]; omega
            · rw [if_neg hk0] at HDM
              have hsz1 : ([] : List UInt8).length = 0 := by rfl
              go_wp2_with fail
              refine Calls.mono (HIC.out _ _ ?_ rfl) ?_
              · rw [HDM.out]
                have hxs2 := HXS.out
                simp only [List.length_append, List.length_nil]
                first | omega | (push_cast; omega) | (simp [ByteArray.size_append, ByteArray.size]; omega)
              rintro e w3 ⟨t, rfl, ht, htd, hbt⟩
              have HT : Hid _ := ht
              have hts : t.size ≤ 1000402100 := by
                rw [ht, bS_size]
                exact hrrb
              clear ht
              go_wp2_with fail
              go_roundw
              case rel =>
                refine ⟨k + 1, sk ++ leadL nodes (some (id, k)) ++ rr.1, rr.2, _, Nat.succ_le_of_lt hkl, by go_num, rfl, ?_, HRT.out.trans htk, HGO.out.symm, HOK.out.step (by rw [HRT.out] at htd ⊢; exact htd) hbt, HBK.out.trans hbt (fun x hx => .inl hx)⟩
                rw [HDM.out, HX.out, HT.out]
                apply ByteArray.ext; simp [ByteArray.data_append]
              case measure => simp [intOf]; omega
          · have hst := wrP_stop nodes (wrM nodes names f) id most (rows[id]).n.parts k (sk, tk) (by simp only; rw [← hxs]; exact hc)
            rw [HWP.out] at hst
            have HST : Hid _ := hst
            clear hst hwlo hmono
            by_cases hkl : k < (rows[id]).n.parts.length
            all_goals
              go_wp2_with fail
              go_ret
              rw [HTQ.out]
              refine ⟨_, rfl, ?_, ?_, ?_⟩
              · rw [HIN.out, HST.out, HX.out]; exact bS_app _ _
              · rw [HIN.out, HST.out]; exact HOK.out.td
              · exact HB1.out.trans HBK.out (fun x hx => .inl hx)
      · have HKD : Hid _ := hkd
        have hin := wrM_in (nodes := nodes) (f := f) (most := most) HNO.out 123 125 (.inr ⟨by rw [rnodeAt hR id hid]; exact hkd, rfl, rfl⟩)
        rw [HNM.out, rnodeAt hR id hid] at hin
        have HIN : Hid _ := hin
        have hwl2 := hwl
        rw [hin] at hwl2
        simp only [List.length_append, List.length_cons, List.length_nil] at hwl2
        have HWL : Hid _ := hwl2
        have hkk : (kbyte (rows[id]).n.kind : Int) = 109 := by rw [hkd]; rfl
        rw [hkk] at l0
        have hpl5 := HND.out.len
        have HLD : Hid (∀ i, leadL nodes (some (id, i)) = (if 0 < i then [44, 32] else []) ++ (textL ((rows[id]).n.keys.getD i ByteArray.empty) ++ [58, 32])) := fun i => by rw [leadL_map (by rw [rnodeAt hR id hid]; exact hkd)]; rw [rnodeAt hR id hid]
        clear hin hwl2 hkk hwl hkd
        go_wp2_with fail
        go_loopw [12, 16] (fun sv iv wr => ∃ (k : Nat) (sk : List UInt8) (tk : List Bool) (x : ByteArray), k ≤ (rows[id]).n.parts.length ∧ iv = .int .i64 (k : Int) ∧ sv = .string x ∧ x = bS sk ∧ tk.length = told.length ∧ wrP nodes (wrM nodes names f) id most ((rows[id]).n.parts.drop k) k (sk, tk) = wrP nodes (wrM nodes names f) id most (rows[id]).n.parts 0 (preL nm ++ [123], toldSet told id nm) ∧ WrOk N b nv rows base (.slice (some ⟨ng, 0, none⟩) names.length nncap) names tv tk wr ∧ But (own tv) W1 wr) (fun _ iv _ => (rows[id]).n.parts.length - (intOf iv).toNat)
        case atStart => exact ⟨0, _, _, _, Nat.zero_le _, rfl, rfl, (by rw [HS0.out]; exact bS_app _ _), HTL.out, rfl, HO1.out, But.refl _ _⟩
        case round =>
          obtain ⟨k, sk, tk, x, hk, rfl, rfl, hx, htk, hwp, hOk, hbk⟩ := hrel
          have HX : Hid _ := hx
          have HWP : Hid _ := hwp
          have hxs : x.size = sk.length := by rw [hx]; exact bS_size _
          have HXS : Hid _ := hxs
          have hmono := wrP_mono nodes (wrM nodes names f) id most ((rows[id]).n.parts.drop k) k (sk, tk)
          rw [hwp] at hmono
          simp only at hmono
          have hwlo := HWL.out
          have hsb : x.size ≤ 1000402100 := by omega
          have hLk : Blk wr w.heap.size #[.int .u8 109, .string (rows[id]).n.text, .slice ka (rows[id]).n.keys.length kc, .slice pa (rows[id]).n.parts.length pc, .int .i64 ((rows[id]).n.high : Int), .int .i64 ((rows[id]).n.heavy : Int)] 109 := hbk.blk (by have := HL1.out; rw [HKD.out] at this; exact this) (fun hh => HLW.out _ hh rfl)
          have l0 := hLk.cell (i := 0) rfl
          have l2 := hLk.cell (i := 2) rfl
          have l3 := hLk.cell (i := 3) rfl
          have HOK : Hid _ := hOk
          have HBK : Hid _ := hbk
          clear hx hwp hLk
          by_cases hc : k < (rows[id]).n.parts.length ∧ (x.size : Int) ≤ most
          · obtain ⟨hkl, hlm⟩ := hc
            have hgo := wrP_go nodes (wrM nodes names f) id most (rows[id]).n.parts k hkl (sk, tk) (by simp only; rw [← hxs]; exact hlm)
            rw [HWP.out] at hgo
            have HGO : Hid _ := hgo
            have hmono2 := wrP_mono nodes (wrM nodes names f) id most ((rows[id]).n.parts.drop (k + 1)) (k + 1) (sk ++ leadL nodes (some (id, k)) ++ (wrM nodes names f (rows[id]).n.parts[k] tk (most - ((sk ++ leadL nodes (some (id, k))).length : Int))).1, (wrM nodes names f (rows[id]).n.parts[k] tk (most - ((sk ++ leadL nodes (some (id, k))).length : Int))).2)
            simp only at hgo
            rw [← hgo] at hmono2
            simp only [List.length_append] at hmono2
            have hldl := leadL_len hW (p := id) (i := k) (by omega)
            have hrrb : (wrM nodes names f (rows[id]).n.parts[k] tk (most - ((sk ++ leadL nodes (some (id, k))).length : Int))).1.length ≤ 1000402100 := by simp only [List.length_append]; omega
            obtain ⟨pbk, cap', e4, _, _, hpcell⟩ := ownsInt_cell (n := (rows[id]).n.parts.length) (l := (rows[id]).n.parts) (hOk.rg.each rows[id] (List.getElem_mem hid)).2 (by omega)
            rw [HPV.out] at e4
            obtain ⟨rfl, rfl⟩ : pa = some ⟨pbk, 0, none⟩ ∧ pc = cap' := by simpa using e4
            have hck := hpcell k hkl
            have hpx := HPT.out _ (List.getElem_mem hkl)
            have hpx' : (rows[id]).n.parts[k] < rows.length := by omega
            have HIC : Hid (∀ m' tvx, m' = most - ((sk ++ leadL nodes (some (id, k))).length : Int) → tvx = tv → Calls Tryz.prog 55 #[.pointer (some ⟨b, 0, none⟩), .int .i64 ((rows[id]).n.parts[k] : Int), .slice (some ⟨ng, 0, none⟩) names.length nncap, tvx, .int .i64 m'] wr fun e w' => WrPost N tv wr (wrM nodes names f (rows[id]).n.parts[k] tk (most - ((sk ++ leadL nodes (some (id, k))).length : Int))) e w') := fun m' tvx hm' htvx => by
              rw [hm', htvx]
              exact IH.out (rows[id]).n.parts[k] tk _ wr hpx' (by omega) (by simp only [List.length_append]; omega) (by simp only [List.length_append]; omega) (fun q hq h0 => by rw [htk]; exact HNT.out q hq h0) hOk
            have hdm := HLD.out k
            have hkl2 := HND.out.keys
            rw [if_pos HKD.out] at hkl2
            obtain ⟨kbk, kcap, hkv2, _, _, hkcell⟩ := row1_cell (hOk.rg.each rows[id] (List.getElem_mem hid)).1 (by omega)
            rw [HKV.out] at hkv2
            obtain ⟨rfl, rfl⟩ : ka = some ⟨kbk, 0, none⟩ ∧ kc = kcap := by simpa using hkv2
            have hkey : wr.cell? ⟨kbk, k, none⟩ = some (.string ((rows[id]).n.keys.getD k ByteArray.empty)) := hkcell k _ (by
              have hik : k < (rows[id]).n.keys.length := by omega
              simp [List.getD, hik])
            have hkeys : ((rows[id]).n.keys.getD k ByteArray.empty).size ≤ 1000 := by have := (getD_tok HND.out.words k).1; omega
            have hik2 : k < (rows[id]).n.keys.length := by omega
            generalize (rows[id]).n.keys.getD k ByteArray.empty = key at *
            clear hkcell hkv2 hkl2
            have hrt := wr_told nodes names f (rows[id]).n.parts[k] tk (most - ((sk ++ leadL nodes (some (id, k))).length : Int))
            rw [hnml] at HIC
            generalize hrr : wrM nodes names f (rows[id]).n.parts[k] tk (most - ((sk ++ leadL nodes (some (id, k))).length : Int)) = rr at *
            generalize (rows[id]).n.parts[k] = p at *
            have HDM : Hid _ := hdm
            have HRT : Hid _ := hrt
            clear hgo hmono2 hpcell e4 hrr hdm hrt hwlo hmono
            by_cases hk0 : 0 < k
            · rw [if_pos hk0] at HDM
              have hsz1 : ([44, 32] : List UInt8).length = 2 := by rfl
              go_wp2_with (go_at_call 85; refine (rScalar_any _ _ hkeys).mono ?_; rintro e w' ⟨y, rfl, hww, HY, hys⟩; have hww2 := hww.symm; clear hww; subst hww2)
              refine Calls.mono (HIC.out _ _ ?_ rfl) ?_
              · rw [HDM.out]
                have hxs2 := HXS.out
                have hy2 : y.size = (textL key).length := by rw [HY.out, bS_size]
                simp only [List.length_append, List.length_cons, List.length_nil]
                first | omega | (push_cast; omega) | (simp [ByteArray.size_append, ByteArray.size]; omega)
              rintro e w3 ⟨t, rfl, ht, htd, hbt⟩
              have HT : Hid _ := ht
              have hts : t.size ≤ 1000402100 := by
                rw [ht, bS_size]
                exact hrrb
              clear ht
              go_wp2_with fail
              go_roundw
              case rel =>
                refine ⟨k + 1, sk ++ leadL nodes (some (id, k)) ++ rr.1, rr.2, _, Nat.succ_le_of_lt hkl, by go_num, rfl, ?_, HRT.out.trans htk, HGO.out.symm, HOK.out.step (by rw [HRT.out] at htd ⊢; exact htd) hbt, HBK.out.trans hbt (fun x hx => .inl hx)⟩
                rw [HDM.out, HX.out, HT.out]
                rw [HY.out]; apply ByteArray.ext; simp [ByteArray.data_append]
              case measure => simp [intOf]; omega
            · rw [if_neg hk0] at HDM
              have hsz1 : ([] : List UInt8).length = 0 := by rfl
              go_wp2_with (go_at_call 85; refine (rScalar_any _ _ hkeys).mono ?_; rintro e w' ⟨y, rfl, hww, HY, hys⟩; have hww2 := hww.symm; clear hww; subst hww2)
              refine Calls.mono (HIC.out _ _ ?_ rfl) ?_
              · rw [HDM.out]
                have hxs2 := HXS.out
                have hy2 : y.size = (textL key).length := by rw [HY.out, bS_size]
                simp only [List.length_append, List.length_cons, List.length_nil]
                first | omega | (push_cast; omega) | (simp [ByteArray.size_append, ByteArray.size]; omega)
              rintro e w3 ⟨t, rfl, ht, htd, hbt⟩
              have HT : Hid _ := ht
              have hts : t.size ≤ 1000402100 := by
                rw [ht, bS_size]
                exact hrrb
              clear ht
              go_wp2_with fail
              go_roundw
              case rel =>
                refine ⟨k + 1, sk ++ leadL nodes (some (id, k)) ++ rr.1, rr.2, _, Nat.succ_le_of_lt hkl, by go_num, rfl, ?_, HRT.out.trans htk, HGO.out.symm, HOK.out.step (by rw [HRT.out] at htd ⊢; exact htd) hbt, HBK.out.trans hbt (fun x hx => .inl hx)⟩
                rw [HDM.out, HX.out, HT.out]
                rw [HY.out]; apply ByteArray.ext; simp [ByteArray.data_append]
              case measure => simp [intOf]; omega
          · have hst := wrP_stop nodes (wrM nodes names f) id most (rows[id]).n.parts k (sk, tk) (by simp only; rw [← hxs]; exact hc)
            rw [HWP.out] at hst
            have HST : Hid _ := hst
            clear hst hwlo hmono
            by_cases hkl : k < (rows[id]).n.parts.length
            all_goals
              go_wp2_with fail
              go_ret
              rw [HTQ.out]
              refine ⟨_, rfl, ?_, ?_, ?_⟩
              · rw [HIN.out, HST.out, HX.out]; exact bS_app _ _
              · rw [HIN.out, HST.out]; exact HOK.out.td
              · exact HB1.out.trans HBK.out (fun x hx => .inl hx)

end Go.Proofs.YtkflkmmbakccoaaGreatDoor
