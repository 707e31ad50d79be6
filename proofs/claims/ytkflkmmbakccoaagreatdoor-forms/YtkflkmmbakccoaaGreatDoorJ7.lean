/- PARTS: W17. -/
import Derived.Test.YtkflkmmbakccoaaGreatDoorJ6
import Derived.Deep.RegionWith

/- WALKS: package parse: value. -/
namespace Go.Proofs.YtkflkmmbakccoaaGreatDoor
open Go.RowKit Go.Maps

theorem gEnd_plain (E : Env) (t : PS) (nv : Value) (rows : List Row) (w : World) (h : PInv E t nv rows w) (id : Nat) (hid : id < rows.length) (n : NodeV) (kv pv : Value) (hr : RowOk w E.base ⟨n, kv, pv⟩) (hp : ∀ x ∈ n.parts, x < rows.length) (hl : n.parts.length ≤ 1000) (hwf : WF E.s (endM id n t)) :
    Calls Tryz.prog 114 #[.pointer (some ⟨E.g, 0, none⟩), .int .i64 (id : Int), .agg #[.int .i64 (n.kind : Int), .string n.text, kv, pv, .int .i64 (n.high : Int), .int .i64 (n.heavy : Int)]] w fun e w' => e = .returned (.tuple #[]) ∧
      PInv E (endM id n t) nv (rows.set id ⟨measured t.nodes n, kv, pv⟩) w' ∧ But (own nv) w w' := gEnd_any E t nv rows w h id hid ⟨n, kv, pv⟩ hr hp hl hwf

set_option maxHeartbeats 1000000 in
theorem value_any (E : Env) (hE : EnvOk E) (t : PS) (nv : Value) (rows : List Row) (w : World) (h : PInv E t nv rows w) (id : Nat) (hid : id < rows.length) (lv : Int) (h0 : 0 ≤ lv) (h1 : lv ≤ E.B.depth) (fl : Int → PS → Res Nat) (hfs : FlowSaid E (lv + 1) (fl (lv + 1))) (hfo : FlowOk E.s E.B (lv + 1) (fl (lv + 1))) :
    Calls Tryz.prog 118 #[pp E, .int .i64 (id : Int), .int .i64 lv] w fun e w' => PostB E nv rows w (valueS E.s fl id lv t) e w' := by
  have hs := hE.s
  have hD := hE.d
  obtain ⟨hI0, hL0⟩ := LInv.made h NodeV.blank rfl rfl
  go_enter Tryz.func118, Tryz.ntmps118
  go_wp2_with fail
  refine (ppeek_any E hE t nv rows _ hI0).mono ?_
  rintro e w1 ⟨rfl, hI1, hb1⟩
  have hL1 := hL0.stays hI0 (hb1.mono (by simp)) (fun _ hx => .inl hx) (fun _ hx => .inl hx)
  have hb1' : But (E.p :: E.g :: E.m :: own nv) w w1 := ((alloc_but w _).mono (by simp)).trans (hb1.mono (S' := E.p :: E.g :: E.m :: own nv) (by simp)) (fun x hx => .inl hx)
  have hbz : w.heap.size < w1.heap.size := by have := hb1.size; simp at this; omega
  clear hI0 hL0 hb1
  by_cases hk : kindAt E.s (skipBl E.s t.k) = 2 ∨ kindAt E.s (skipBl E.s t.k) = 3
  · have hM0 : valueS E.s fl id lv t = (readM E.s { t with k := skipBl E.s t.k }).bind fun x t1 => .ok () (endM id { NodeV.blank with text := x } t1) := by unfold valueS; simp only; rw [if_pos hk]
    have HM0 : Hid _ := hM0
    have c0 : w1.cell? ⟨w.heap.size, 0, none⟩ = some (.int .i64 0) := hL1.blk.cell rfl
    have f0 : w1.frozen? ⟨w.heap.size, 0, none⟩ = false := hL1.blk.free 0
    obtain ⟨hI2, hL2⟩ : PInv E { t with k := skipBl E.s t.k } nv rows (w1.setCell ⟨w.heap.size, 0, none⟩ (.int .i64 0)) ∧ LInv E w.heap.size blankRow nv rows (w1.setCell ⟨w.heap.size, 0, none⟩ (.int .i64 0)) := hL1.setKind hI1 0
    have hb2' : But (E.p :: E.g :: E.m :: own nv) w (w1.setCell ⟨w.heap.size, 0, none⟩ (.int .i64 0)) := hb1'.setCell (.inr (Nat.le_refl _)) _
    clear hM0
    generalize hkq : kindAt E.s (skipBl E.s t.k) = kq at *
    clear hkq
    rcases hk with rfl | rfl
    all_goals
      go_wp2_with fail
      refine (pread_any E hE _ nv rows _ hI2).mono ?_
      intro e w3 hp3
      cases hm : readM E.s { t with k := skipBl E.s t.k } with
      | bad er pl =>
        rw [hm] at hp3
        obtain ⟨rfl, hbad⟩ := hp3
        have HM : Hid (valueS E.s fl id lv t = .bad er pl) := by unfold Hid; rw [HM0.out, hm]; rfl
        clear hm
        have hL3 : Blk w3 w.heap.size blankRow.cells.toArray 79 := hbad.1.blk hL2.blk (by
          have := (hL2.b_not hI2).1
          simp only [foot, List.mem_cons, List.mem_append, not_or] at this ⊢
          exact ⟨this.1, this.2.1, this.2.2.1, this.2.2.2.1⟩)
        have c1 : w3.cell? ⟨w.heap.size, 1, none⟩ = some (.string ByteArray.empty) := hL3.cell rfl
        have f1 : w3.frozen? ⟨w.heap.size, 1, none⟩ = false := hL3.free 1
        have hbad' : Bad E nv w er pl w3 := Bad.trans hb2' (fun _ hx => .inl hx) hbad
        clear hbad
        go_wp2_with fail
        go_ret
        rw [HM.out]
        refine ⟨rfl, hbad'.1.setCell (.inr (Nat.le_refl _)) _, ?_, ?_, hbad'.2.2.2⟩
        · rw [World.cell?_setCell_other _ _ _ _ (by simp)]; exact hbad'.2.1
        · rw [World.cell?_setCell_other _ _ _ _ (by simp)]; exact hbad'.2.2.1
      | ok x t1 =>
        rw [hm] at hp3
        obtain ⟨rfl, nv3, rows3, hI3, hb3, ho3, hq3⟩ := hp3
        have s1 := (readM_ok hI2.wf hm).1
        have HM : Hid (valueS E.s fl id lv t = .ok () (endM id { NodeV.blank with text := x } t1)) := by unfold Hid; rw [HM0.out, hm]; rfl
        clear hm HM0
        have hL3 := hL2.stays hI2 hb3 ho3 hq3
        have c1 : w3.cell? ⟨w.heap.size, 1, none⟩ = some (.string ByteArray.empty) := hL3.blk.cell rfl
        have f1 : w3.frozen? ⟨w.heap.size, 1, none⟩ = false := hL3.blk.free 1
        obtain ⟨hI4, hL4⟩ := hL3.setText hI3 x
        have hid3 : id < rows3.length := by have := s1.len; simp only at this; rw [← hI3.len]; rw [← h.len] at hid; omega
        have ho3' : ∀ y ∈ own nv3, y ∈ own nv ∨ w.heap.size ≤ y := fun y hy => (ho3 y hy).imp (fun h => h) (fun h1 => Nat.le_trans hb2'.size h1)
        have hq3' : ∀ y ∈ pub rows3, y ∈ pub rows ∨ w.heap.size ≤ y := fun y hy => (hq3 y hy).imp (fun h => h) (fun h1 => Nat.le_trans hb2'.size h1)
        have hb4 : But (E.p :: E.g :: E.m :: own nv) w (w3.setCell ⟨w.heap.size, 1, none⟩ (.string x)) := (hb2'.trans hb3 (fun y hy => .inl hy)).setCell (.inr (Nat.le_refl _)) _
        go_wp2_with fail
        obtain ⟨n, kv, pv, hrW, hLW, hwf, hps, hpl, HM⟩ : ∃ n kv pv, (∀ y ∈ Row.pub ⟨n, kv, pv⟩, w.heap.size ≤ y) ∧ LInv E w.heap.size ⟨n, kv, pv⟩ nv3 rows3 (w3.setCell ⟨w.heap.size, 1, none⟩ (.string x)) ∧ WF E.s (endM id n t1) ∧ (∀ y ∈ n.parts, y < rows3.length) ∧ n.parts.length ≤ 1000 ∧ Hid (valueS E.s fl id lv t = .ok () (endM id n t1)) :=
          ⟨{ NodeV.blank with text := x }, .slice none 0 0, .slice none 0 0, by simp [Row.pub, own], hL4, (endM_step (B := E.B) (lv := lv) hI3.wf (by rw [hI3.len]; exact hid3) h0 hD h1 (fun y hy => by cases hy)).1.wf, (fun y hy => by cases hy), by simp [NodeV.blank], HM⟩
        refine name_world fun W hW => ?_
        have hIW : PInv E t1 nv3 rows3 W := by rw [hW.out]; exact hI4
        have hbW : But (E.p :: E.g :: E.m :: own nv) w W := by rw [hW.out]; exact hb4
        rw [← hW.out] at hLW
        clear hL4 hI4 hb4 hW c1 f1 hL3 hI3 hb3 hL2 hI2 hb2' hL1 hI1 hb1' c0 f0
        have c6 : W.cell? ⟨E.p, 6, none⟩ = some (.pointer (some ⟨E.g, 0, none⟩)) := hIW.par.cell rfl
        have l0 : W.cell? ⟨w.heap.size, 0, none⟩ = some (.int .i64 (n.kind : Int)) := hLW.blk.cell rfl
        have l1 : W.cell? ⟨w.heap.size, 1, none⟩ = some (.string n.text) := hLW.blk.cell rfl
        have l2 : W.cell? ⟨w.heap.size, 2, none⟩ = some kv := hLW.blk.cell rfl
        have l3 : W.cell? ⟨w.heap.size, 3, none⟩ = some pv := hLW.blk.cell rfl
        have l4 : W.cell? ⟨w.heap.size, 4, none⟩ = some (.int .i64 (n.high : Int)) := hLW.blk.cell rfl
        have l5 : W.cell? ⟨w.heap.size, 5, none⟩ = some (.int .i64 (n.heavy : Int)) := hLW.blk.cell rfl
        go_region_with ((go_at_call 114; refine (gEnd_plain E t1 nv3 rows3 _ (hIW.frame (But.refl [] W).drew (by simp)) id hid3 n kv pv (RowOk.but hLW.ok (But.refl [] W).drew (by simp)) hps hpl hwf).mono ?_; rintro e wE ⟨rfl, hIE, hbE⟩))
        all_goals
          go_wp2_with fail
          go_ret
          rw [HM.out]
          exact ⟨rfl, Good.ended (t1 := t1) (r := ⟨measured t1.nodes n, kv, pv⟩) hbW ho3' hq3' hrW hIE ((But.refl [] W).drew.mono (S' := own nv3) (by simp) |>.trans hbE (fun x hx => .inl hx)) hIW⟩
  · by_cases hk9 : kindAt E.s (skipBl E.s t.k) = 9
    · have HM0 : Hid (valueS E.s fl id lv t = (bracketsM E.s (fl (lv + 1)) false 10 { t with k := skipBl E.s t.k }).bind fun p t1 => .ok () (endM id { NodeV.blank with kind := 1, keys := p.1, parts := p.2 } t1)) := by unfold Hid valueS; simp only; rw [if_neg hk, if_pos hk9]
      have hklt : skipBl E.s t.k < E.s.size := kindAt_lt (by omega)
      have c0 : w1.cell? ⟨w.heap.size, 0, none⟩ = some (.int .i64 0) := hL1.blk.cell rfl
      have f0 : w1.frozen? ⟨w.heap.size, 0, none⟩ = false := hL1.blk.free 0
      obtain ⟨hI2, hL2⟩ : PInv E { t with k := skipBl E.s t.k } nv rows (w1.setCell ⟨w.heap.size, 0, none⟩ (.int .i64 1)) ∧ LInv E w.heap.size ⟨{ NodeV.blank with kind := 1 }, .slice none 0 0, .slice none 0 0⟩ nv rows (w1.setCell ⟨w.heap.size, 0, none⟩ (.int .i64 1)) := hL1.setKind hI1 1
      have hb2' : But (E.p :: E.g :: E.m :: own nv) w (w1.setCell ⟨w.heap.size, 0, none⟩ (.int .i64 1)) := hb1'.setCell (.inr (Nat.le_refl _)) _
      rw [hk9]
      go_wp2_with fail
      refine (brackets_any E hE _ nv rows w.heap.size _ _ hI2 hL2 hklt lv h0 (by omega) (fl (lv + 1)) hfs hfo false 10 (by omega) rfl rfl rfl).mono ?_
      intro e w3 hp3
      cases hm : bracketsM E.s (fl (lv + 1)) false 10 { t with k := skipBl E.s t.k } with
      | bad er pl =>
        rw [hm] at hp3
        obtain ⟨rfl, hbad⟩ := hp3
        have HM : Hid (valueS E.s fl id lv t = .bad er pl) := by unfold Hid; rw [HM0.out, hm]; rfl
        clear hm
        go_wp2_with fail
        go_ret
        rw [HM.out]
        exact ⟨rfl, hb2'.trans hbad.1 (mayL_fresh (Nat.le_refl _) rfl), hbad.2⟩
      | ok pr t1 =>
        rw [hm] at hp3
        obtain ⟨rfl, nv3, rows3, kv3, pv3, hI3, hL3, hb3, ho3, hq3, hr3⟩ := hp3
        obtain ⟨s1, hph⟩ := bracketsM_ok (B := E.B) (lv := lv) (by omega) h0 hfo hI2.wf hklt hm
        have hpn := bracketsM_len (B := E.B) (lv := lv) (by omega) h0 hfo hI2.wf hklt hm
        have HM : Hid (valueS E.s fl id lv t = .ok () (endM id { NodeV.blank with kind := 1, keys := pr.1, parts := pr.2 } t1)) := by unfold Hid; rw [HM0.out, hm]; rfl
        clear hm HM0
        have hid3 : id < rows3.length := by have := s1.len; simp only at this; rw [← hI3.len]; rw [← h.len] at hid; omega
        have hszw : w.heap.size ≤ (w1.setCell ⟨w.heap.size, 0, none⟩ (.int .i64 1)).heap.size := hb2'.size
        have ho3' : ∀ y ∈ own nv3, y ∈ own nv ∨ w.heap.size ≤ y := fun y hy => (ho3 y hy).imp (fun h => h) (fun h1 => Nat.le_trans hszw h1)
        have hq3' : ∀ y ∈ pub rows3, y ∈ pub rows ∨ w.heap.size ≤ y := fun y hy => (hq3 y hy).imp (fun h => h) (fun h1 => Nat.le_trans hszw h1)
        have hb4 : But (E.p :: E.g :: E.m :: own nv) w w3 := hb2'.trans hb3 (mayL_fresh (Nat.le_refl _) rfl)
        have hk3 := hI3.wf.k
        obtain ⟨n, kv, pv, hrW, hLW, hwf, hps, hpl, HM⟩ : ∃ n kv pv, (∀ y ∈ Row.pub ⟨n, kv, pv⟩, w.heap.size ≤ y) ∧ LInv E w.heap.size ⟨n, kv, pv⟩ nv3 rows3 w3 ∧ WF E.s (endM id n t1) ∧ (∀ y ∈ n.parts, y < rows3.length) ∧ n.parts.length ≤ 1000 ∧ Hid (valueS E.s fl id lv t = .ok () (endM id n t1)) :=
          ⟨{ NodeV.blank with kind := 1, keys := pr.1, parts := pr.2 }, kv3, pv3, (fun y hy => (hr3 y hy).elim (fun h => by cases h) (fun h1 => Nat.le_trans hszw h1)), hL3, (endM_step (B := E.B) (lv := lv) (n := { NodeV.blank with kind := 1, keys := pr.1, parts := pr.2 }) hI3.wf (by rw [hI3.len]; exact hid3) h0 hD h1 (fun y hy => (hph y hy).2)).1.wf, (fun y hy => by rw [← hI3.len]; exact highOf_lt (hph y hy).1), by simp only; omega, HM⟩
        go_wp2_with fail
        refine name_world fun W hW => ?_
        have hIW : PInv E t1 nv3 rows3 W := by rw [hW.out]; exact hI3
        have hbW : But (E.p :: E.g :: E.m :: own nv) w W := by rw [hW.out]; exact hb4
        rw [← hW.out] at hLW
        clear hL3 hb4 hW hI3 hb3 hL2 hI2 hb2' hL1 hI1 hb1' c0 f0 hph hpn hr3
        have c6 : W.cell? ⟨E.p, 6, none⟩ = some (.pointer (some ⟨E.g, 0, none⟩)) := hIW.par.cell rfl
        have l0 : W.cell? ⟨w.heap.size, 0, none⟩ = some (.int .i64 (n.kind : Int)) := hLW.blk.cell rfl
        have l1 : W.cell? ⟨w.heap.size, 1, none⟩ = some (.string n.text) := hLW.blk.cell rfl
        have l2 : W.cell? ⟨w.heap.size, 2, none⟩ = some kv := hLW.blk.cell rfl
        have l3 : W.cell? ⟨w.heap.size, 3, none⟩ = some pv := hLW.blk.cell rfl
        have l4 : W.cell? ⟨w.heap.size, 4, none⟩ = some (.int .i64 (n.high : Int)) := hLW.blk.cell rfl
        have l5 : W.cell? ⟨w.heap.size, 5, none⟩ = some (.int .i64 (n.heavy : Int)) := hLW.blk.cell rfl
        go_region_with ((go_at_call 114; refine (gEnd_plain E t1 nv3 rows3 _ (hIW.frame (But.refl [] W).drew (by simp)) id hid3 n kv pv (RowOk.but hLW.ok (But.refl [] W).drew (by simp)) hps hpl hwf).mono ?_; rintro e wE ⟨rfl, hIE, hbE⟩))
        all_goals
          go_wp2_with fail
          go_ret
          rw [HM.out]
          exact ⟨rfl, Good.ended (t1 := t1) (r := ⟨measured t1.nodes n, kv, pv⟩) hbW ho3' hq3' hrW hIE ((But.refl [] W).drew.mono (S' := own nv3) (by simp) |>.trans hbE (fun x hx => .inl hx)) hIW⟩
    · by_cases hk11 : kindAt E.s (skipBl E.s t.k) = 11
      · have HM0 : Hid (valueS E.s fl id lv t = (bracketsM E.s (fl (lv + 1)) true 12 { t with k := skipBl E.s t.k }).bind fun p t1 => .ok () (endM id { NodeV.blank with kind := 2, keys := p.1, parts := p.2 } t1)) := by unfold Hid valueS; simp only; rw [if_neg hk, if_neg hk9, if_pos hk11]
        have hklt : skipBl E.s t.k < E.s.size := kindAt_lt (by omega)
        have c0 : w1.cell? ⟨w.heap.size, 0, none⟩ = some (.int .i64 0) := hL1.blk.cell rfl
        have f0 : w1.frozen? ⟨w.heap.size, 0, none⟩ = false := hL1.blk.free 0
        obtain ⟨hI2, hL2⟩ : PInv E { t with k := skipBl E.s t.k } nv rows (w1.setCell ⟨w.heap.size, 0, none⟩ (.int .i64 2)) ∧ LInv E w.heap.size ⟨{ NodeV.blank with kind := 2 }, .slice none 0 0, .slice none 0 0⟩ nv rows (w1.setCell ⟨w.heap.size, 0, none⟩ (.int .i64 2)) := hL1.setKind hI1 2
        have hb2' : But (E.p :: E.g :: E.m :: own nv) w (w1.setCell ⟨w.heap.size, 0, none⟩ (.int .i64 2)) := hb1'.setCell (.inr (Nat.le_refl _)) _
        rw [hk11]
        go_wp2_with fail
        refine (brackets_any E hE _ nv rows w.heap.size _ _ hI2 hL2 hklt lv h0 (by omega) (fl (lv + 1)) hfs hfo true 12 (by omega) rfl rfl rfl).mono ?_
        intro e w3 hp3
        cases hm : bracketsM E.s (fl (lv + 1)) true 12 { t with k := skipBl E.s t.k } with
        | bad er pl =>
          rw [hm] at hp3
          obtain ⟨rfl, hbad⟩ := hp3
          have HM : Hid (valueS E.s fl id lv t = .bad er pl) := by unfold Hid; rw [HM0.out, hm]; rfl
          clear hm
          go_wp2_with fail
          go_ret
          rw [HM.out]
          exact ⟨rfl, hb2'.trans hbad.1 (mayL_fresh (Nat.le_refl _) rfl), hbad.2⟩
        | ok pr t1 =>
          rw [hm] at hp3
          obtain ⟨rfl, nv3, rows3, kv3, pv3, hI3, hL3, hb3, ho3, hq3, hr3⟩ := hp3
          obtain ⟨s1, hph⟩ := bracketsM_ok (B := E.B) (lv := lv) (by omega) h0 hfo hI2.wf hklt hm
          have hpn := bracketsM_len (B := E.B) (lv := lv) (by omega) h0 hfo hI2.wf hklt hm
          have HM : Hid (valueS E.s fl id lv t = .ok () (endM id { NodeV.blank with kind := 2, keys := pr.1, parts := pr.2 } t1)) := by unfold Hid; rw [HM0.out, hm]; rfl
          clear hm HM0
          have hid3 : id < rows3.length := by have := s1.len; simp only at this; rw [← hI3.len]; rw [← h.len] at hid; omega
          have hszw : w.heap.size ≤ (w1.setCell ⟨w.heap.size, 0, none⟩ (.int .i64 2)).heap.size := hb2'.size
          have ho3' : ∀ y ∈ own nv3, y ∈ own nv ∨ w.heap.size ≤ y := fun y hy => (ho3 y hy).imp (fun h => h) (fun h1 => Nat.le_trans hszw h1)
          have hq3' : ∀ y ∈ pub rows3, y ∈ pub rows ∨ w.heap.size ≤ y := fun y hy => (hq3 y hy).imp (fun h => h) (fun h1 => Nat.le_trans hszw h1)
          have hb4 : But (E.p :: E.g :: E.m :: own nv) w w3 := hb2'.trans hb3 (mayL_fresh (Nat.le_refl _) rfl)
          have hk3 := hI3.wf.k
          obtain ⟨n, kv, pv, hrW, hLW, hwf, hps, hpl, HM⟩ : ∃ n kv pv, (∀ y ∈ Row.pub ⟨n, kv, pv⟩, w.heap.size ≤ y) ∧ LInv E w.heap.size ⟨n, kv, pv⟩ nv3 rows3 w3 ∧ WF E.s (endM id n t1) ∧ (∀ y ∈ n.parts, y < rows3.length) ∧ n.parts.length ≤ 1000 ∧ Hid (valueS E.s fl id lv t = .ok () (endM id n t1)) :=
            ⟨{ NodeV.blank with kind := 2, keys := pr.1, parts := pr.2 }, kv3, pv3, (fun y hy => (hr3 y hy).elim (fun h => by cases h) (fun h1 => Nat.le_trans hszw h1)), hL3, (endM_step (B := E.B) (lv := lv) (n := { NodeV.blank with kind := 2, keys := pr.1, parts := pr.2 }) hI3.wf (by rw [hI3.len]; exact hid3) h0 hD h1 (fun y hy => (hph y hy).2)).1.wf, (fun y hy => by rw [← hI3.len]; exact highOf_lt (hph y hy).1), by simp only; omega, HM⟩
          go_wp2_with fail
          refine name_world fun W hW => ?_
          have hIW : PInv E t1 nv3 rows3 W := by rw [hW.out]; exact hI3
          have hbW : But (E.p :: E.g :: E.m :: own nv) w W := by rw [hW.out]; exact hb4
          rw [← hW.out] at hLW
          clear hL3 hb4 hW hI3 hb3 hL2 hI2 hb2' hL1 hI1 hb1' c0 f0 hph hpn hr3
          have c6 : W.cell? ⟨E.p, 6, none⟩ = some (.pointer (some ⟨E.g, 0, none⟩)) := hIW.par.cell rfl
          have l0 : W.cell? ⟨w.heap.size, 0, none⟩ = some (.int .i64 (n.kind : Int)) := hLW.blk.cell rfl
          have l1 : W.cell? ⟨w.heap.size, 1, none⟩ = some (.string n.text) := hLW.blk.cell rfl
          have l2 : W.cell? ⟨w.heap.size, 2, none⟩ = some kv := hLW.blk.cell rfl
          have l3 : W.cell? ⟨w.heap.size, 3, none⟩ = some pv := hLW.blk.cell rfl
          have l4 : W.cell? ⟨w.heap.size, 4, none⟩ = some (.int .i64 (n.high : Int)) := hLW.blk.cell rfl
          have l5 : W.cell? ⟨w.heap.size, 5, none⟩ = some (.int .i64 (n.heavy : Int)) := hLW.blk.cell rfl
          go_region_with ((go_at_call 114; refine (gEnd_plain E t1 nv3 rows3 _ (hIW.frame (But.refl [] W).drew (by simp)) id hid3 n kv pv (RowOk.but hLW.ok (But.refl [] W).drew (by simp)) hps hpl hwf).mono ?_; rintro e wE ⟨rfl, hIE, hbE⟩))
          all_goals
            go_wp2_with fail
            go_ret
            rw [HM.out]
            exact ⟨rfl, Good.ended (t1 := t1) (r := ⟨measured t1.nodes n, kv, pv⟩) hbW ho3' hq3' hrW hIE ((But.refl [] W).drew.mono (S' := own nv3) (by simp) |>.trans hbE (fun x hx => .inl hx)) hIW⟩
      · have HM : Hid (valueS E.s fl id lv t = .bad 3 (skipBl E.s t.k)) := by unfold Hid valueS; simp only; rw [if_neg hk, if_neg hk9, if_neg hk11]
        have b2 : (kindAt E.s (skipBl E.s t.k) == 2) = false := by simp; omega
        have b3 : (kindAt E.s (skipBl E.s t.k) == 3) = false := by simp; omega
        have b9 : (kindAt E.s (skipBl E.s t.k) == 9) = false := by simp [hk9]
        have b11 : (kindAt E.s (skipBl E.s t.k) == 11) = false := by simp [hk11]
        generalize kindAt E.s (skipBl E.s t.k) = kq at *
        clear hk hk9 hk11
        go_wp2_with fail
        refine (wrongByte_any E _ nv rows w1 hI1).mono ?_
        rintro e w2 ⟨rfl, hb2⟩
        go_wp2_with fail
        go_ret
        rw [HM.out]
        exact ⟨rfl, Bad.trans hb1' (fun _ hx => .inl hx) hb2⟩

end Go.Proofs.YtkflkmmbakccoaaGreatDoor
