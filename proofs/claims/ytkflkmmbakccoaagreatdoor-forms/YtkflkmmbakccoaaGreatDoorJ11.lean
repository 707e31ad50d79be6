/- PARTS: W22. -/
import Derived.Test.YtkflkmmbakccoaaGreatDoorJ10

/- WALKS: package parse: blockAhead, topNode, text. -/
namespace Go.Proofs.YtkflkmmbakccoaaGreatDoor
open Go.RowKit Go.Maps

set_option maxHeartbeats 800000 in
theorem blockAhead_any (E : Env) (hE : EnvOk E) (t : PS) (nv : Value) (rows : List Row) (w : World) (h : PInv E t nv rows w) :
    Calls Tryz.prog 88 #[pp E] w fun e w' => e = .returned (.bool (aheadM E.s t.k)) ∧ But [] w w' := by
  have c0 : w.cell? ⟨E.p, 0, none⟩ = some (.string E.s) := h.par.cell rfl
  have c1 : w.cell? ⟨E.p, 1, none⟩ = some (.int .i64 (t.k : Int)) := h.par.cell rfl
  have hs := hE.s
  have hk := h.wf.k
  go_enter Tryz.func88, Tryz.ntmps88
  go_wp2_with fail
  have hB : Blk (w.alloc (.cells #[.string E.s, .int .i64 (t.k : Int)] 86)) w.heap.size #[.string E.s, .int .i64 (t.k : Int)] 86 := blk_new w _ _
  have hb0 : But [] w (w.alloc (.cells #[.string E.s, .int .i64 (t.k : Int)] 86)) := alloc_but _ _
  refine (peek_any w.heap.size _ _ E.s t.k _ hB rfl rfl hk hs).mono ?_
  rintro e w1 ⟨rfl, hB1, hb1, _⟩
  have hb1' : But [] w w1 := hb0.trans hb1 (by simp)
  have hq := skipBl_le E.s t.k hk
  by_cases h4 : kindAt E.s (skipBl E.s t.k) = 4
  · have HM : Hid (aheadM E.s t.k = true) := by unfold Hid aheadM; simp only; rw [if_pos h4]
    have b4 : (kindAt E.s (skipBl E.s t.k) == 4) = true := by simp [h4]
    generalize kindAt E.s (skipBl E.s t.k) = kq at *
    clear h4
    go_wp2_with fail
    go_ret
    exact ⟨ret_bool HM.out.symm, hb1'⟩
  · have b4 : (kindAt E.s (skipBl E.s t.k) == 4) = false := by simp [h4]
    by_cases h23 : kindAt E.s (skipBl E.s t.k) = 2 ∨ kindAt E.s (skipBl E.s t.k) = 3
    · have HM : Hid (aheadM E.s t.k = ((rdAny E.s (skipBl E.s t.k)).2.1 && decide (kindAt E.s (skipBl E.s (rdAny E.s (skipBl E.s t.k)).2.2) = 5))) := by unfold Hid aheadM; simp only; rw [if_neg h4, if_pos h23]
      have hcall := read_any w.heap.size _ _ E.s (skipBl E.s t.k) w1 hB1 (by simp) (by simp) hq hs
      rw [skipBl_idem] at hcall
      have hle := (rdAny_le E.s (skipBl E.s t.k) hq).2
      generalize hkq : kindAt E.s (skipBl E.s t.k) = kq at *
      clear h4 hkq
      generalize rdAny E.s (skipBl E.s t.k) = rr at *
      obtain ⟨x, ok, k2⟩ := rr
      simp only at *
      rcases h23 with rfl | rfl
      all_goals
        go_wp2_with fail
        refine hcall.mono ?_
        rintro e w2 ⟨rfl, hB2, hb2, _⟩
        have hb2' : But [] w w2 := hb1'.trans hb2 (by simp)
        cases ok with
        | false =>
          go_wp2_with fail
          go_ret
          exact ⟨ret_bool HM.out.symm, hb2'⟩
        | true =>
          go_wp2_with fail
          refine (peek_any w.heap.size _ _ E.s k2 w2 hB2 (by simp) (by simp) hle hs).mono ?_
          rintro e w3 ⟨rfl, hB3, hb3, _⟩
          go_wp2_with fail
          go_ret
          refine ⟨ret_bool ?_, hb2'.trans hb3 (by simp)⟩
          rw [HM.out, Bool.eq_iff_iff]
          simp
    · have HM : Hid (aheadM E.s t.k = false) := by unfold Hid aheadM; simp only; rw [if_neg h4, if_neg h23]
      have b2 : (kindAt E.s (skipBl E.s t.k) == 2) = false := by simp; omega
      have b3 : (kindAt E.s (skipBl E.s t.k) == 3) = false := by simp; omega
      generalize kindAt E.s (skipBl E.s t.k) = kq at *
      clear h4 h23
      go_wp2_with fail
      go_ret
      exact ⟨ret_bool HM.out.symm, hb1'⟩

set_option maxHeartbeats 800000 in
theorem topNode_any (E : Env) (hE : EnvOk E) (t : PS) (nv : Value) (rows : List Row) (w : World) (h : PInv E t nv rows w) :
    Calls Tryz.prog 58 #[pp E] w fun e w' => PostB E nv rows w (topM E.s E.B t) e w' := by
  have hD := hE.d
  go_enter Tryz.func58, Tryz.ntmps58
  go_wp2_with fail
  refine (blockAhead_any E hE t nv rows w h).mono ?_
  rintro e w1 ⟨rfl, hb1⟩
  have hI1 := h.frame hb1 (by simp)
  have hb1' : But (E.p :: E.g :: E.m :: own nv) w w1 := hb1.mono (by simp)
  by_cases ha : aheadM E.s t.k = true
  · have HM0 : Hid (topM E.s E.B t = (beginM E.B 1 t).bind fun id t1 => blockM E.s E.B 21 id 0 t1) := by unfold Hid topM; rw [if_pos ha]
    go_wp2_with fail
    refine (begin_any E hE t nv rows w1 hI1 1).mono ?_
    rintro e w2 ⟨z, hp⟩
    cases hm : beginM E.B 1 t with
    | bad er pl =>
      rw [hm] at hp
      obtain ⟨rfl, hbad⟩ := hp
      have HM : Hid (topM E.s E.B t = .bad er pl) := by unfold Hid; rw [HM0.out, hm]; rfl
      clear hm
      go_wp2_with fail
      go_ret
      rw [HM.out]
      exact ⟨rfl, Bad.trans hb1' (fun _ hx => .inl hx) hbad⟩
    | ok id t1 =>
      rw [hm] at hp
      obtain ⟨rfl, nv2, rows2, hI2, hb2, ho2, hq2⟩ := hp
      obtain ⟨hlv, hide, hte, hz, hid, s1⟩ := beginM_ok hE.n hI1.wf hm
      have HM1 : Hid (topM E.s E.B t = blockM E.s E.B 21 id 0 t1) := by unfold Hid; rw [HM0.out, hm]; rfl
      clear hm hide hte hz
      have hb2' : But (E.p :: E.g :: E.m :: own nv) w w2 := hb1'.trans hb2 (fun x hx => .inl hx)
      have ho2' : ∀ y ∈ own nv2, y ∈ own nv ∨ w.heap.size ≤ y := fun y hy => (ho2 y hy).imp (fun h => h) (fun h1 => Nat.le_trans hb1'.size h1)
      have hq2' : ∀ y ∈ pub rows2, y ∈ pub rows ∨ w.heap.size ≤ y := fun y hy => (hq2 y hy).imp (fun h => h) (fun h1 => Nat.le_trans hb1'.size h1)
      go_wp2_with fail
      refine (block_any E hE 21 0 (by omega) (by omega) t1 nv2 rows2 w2 id 0 (by simp) hI2 (by rw [← hI2.len]; exact hid) (by simpa using hlv)).mono ?_
      intro e w3 hp3
      have hp3' := Post.trans hb2' ho2' hq2' hp3
      clear hp3
      cases hm : blockM E.s E.B 21 id 0 t1 with
      | ok u t2 =>
        simp only [hm] at hp3'
        obtain ⟨rfl, hg⟩ := hp3'
        have HM : Hid (topM E.s E.B t = .ok u t2) := by unfold Hid; rw [HM1.out, hm]
        clear hm
        go_wp2_with fail
        go_ret
        rw [HM.out]
        exact ⟨rfl, hg⟩
      | bad er pl =>
        simp only [hm] at hp3'
        obtain ⟨rfl, hg⟩ := hp3'
        have HM : Hid (topM E.s E.B t = .bad er pl) := by unfold Hid; rw [HM1.out, hm]
        clear hm
        go_wp2_with fail
        go_ret
        rw [HM.out]
        exact ⟨rfl, hg⟩
  · have ha' : aheadM E.s t.k = false := by simpa using ha
    have HM0 : Hid (topM E.s E.B t = (flowM E.s E.B 21 1 t).bind fun _ t1 => endLineM E.s t1) := by unfold Hid topM; rw [if_neg ha]
    clear ha
    go_wp2_with fail
    refine (flow_any E hE 21 1 (by omega) (by omega) (by omega) t nv rows w1 hI1).mono ?_
    rintro e w2 ⟨z, hp⟩
    cases hm : flowM E.s E.B 21 1 t with
    | bad er pl =>
      rw [hm] at hp
      obtain ⟨rfl, hbad⟩ := hp
      have HM : Hid (topM E.s E.B t = .bad er pl) := by unfold Hid; rw [HM0.out, hm]; rfl
      clear hm
      go_wp2_with fail
      go_ret
      rw [HM.out]
      exact ⟨rfl, Bad.trans hb1' (fun _ hx => .inl hx) hbad⟩
    | ok x t1 =>
      rw [hm] at hp
      obtain ⟨rfl, nv2, rows2, hI2, hb2, ho2, hq2⟩ := hp
      have HM1 : Hid (topM E.s E.B t = endLineM E.s t1) := by unfold Hid; rw [HM0.out, hm]; rfl
      clear hm
      have hb2' : But (E.p :: E.g :: E.m :: own nv) w w2 := hb1'.trans hb2 (fun x hx => .inl hx)
      have ho2' : ∀ y ∈ own nv2, y ∈ own nv ∨ w.heap.size ≤ y := fun y hy => (ho2 y hy).imp (fun h => h) (fun h1 => Nat.le_trans hb1'.size h1)
      have hq2' : ∀ y ∈ pub rows2, y ∈ pub rows ∨ w.heap.size ≤ y := fun y hy => (hq2 y hy).imp (fun h => h) (fun h1 => Nat.le_trans hb1'.size h1)
      go_wp2_with fail
      refine (endLine_any E hE t1 nv2 rows2 w2 hI2).mono ?_
      intro e w3 hp3
      have hp3' := Post.trans hb2' ho2' hq2' hp3
      clear hp3
      cases hm : endLineM E.s t1 with
      | ok u t2 =>
        rw [hm] at hp3'
        obtain ⟨rfl, hg⟩ := hp3'
        have HM : Hid (topM E.s E.B t = .ok u t2) := by unfold Hid; rw [HM1.out, hm]
        clear hm
        go_wp2_with fail
        go_ret
        rw [HM.out]
        exact ⟨rfl, hg⟩
      | bad er pl =>
        rw [hm] at hp3'
        obtain ⟨rfl, hg⟩ := hp3'
        have HM : Hid (topM E.s E.B t = .bad er pl) := by unfold Hid; rw [HM1.out, hm]
        clear hm
        go_wp2_with fail
        go_ret
        rw [HM.out]
        exact ⟨rfl, hg⟩

set_option maxHeartbeats 800000 in
theorem ptext_any (E : Env) (hE : EnvOk E) (t : PS) (nv : Value) (rows : List Row) (w : World) (h : PInv E t nv rows w) :
    Calls Tryz.prog 43 #[pp E] w fun e w' => PostB E nv rows w (textM E.s E.B t) e w' := by
  go_enter Tryz.func43, Tryz.ntmps43
  go_wp2_with fail
  refine (pnext_any E hE _ nv rows w h).mono ?_
  rintro e w1 ⟨rfl, hI1, hb1⟩
  have c8 : w1.cell? ⟨E.p, 8, none⟩ = some (.int .i64 (t.ind : Int)) := hI1.par.cell rfl
  have f8 : w1.frozen? ⟨E.p, 8, none⟩ = false := hI1.par.free 8
  have hI2 := hI1.setInd (nlGo E.s t.k t.k).1
  have hb2 : But [E.p] w (w1.setCell ⟨E.p, 8, none⟩ (.int .i64 ((nlGo E.s t.k t.k).1 : Int))) := hb1.setCell (by simp) _
  have hM0 : textM E.s E.B t = if (nlGo E.s t.k t.k).1 ≠ 0 then .bad 3 (nlGo E.s t.k t.k).2 else (topM E.s E.B (nextM E.s t)).bind fun _ t1 => if kindAt E.s (skipBl E.s t1.k) = 0 then .ok () { t1 with k := skipBl E.s t1.k } else .bad 3 (skipBl E.s t1.k) := rfl
  have HM0 : Hid _ := hM0
  have HN : Hid (nextM E.s t = { t with ind := (nlGo E.s t.k t.k).1, k := (nlGo E.s t.k t.k).2 }) := rfl
  clear hM0 hI1 hb1
  generalize nlGo E.s t.k t.k = nl at *
  obtain ⟨i, k⟩ := nl
  simp only at *
  by_cases hi0 : i = 0
  · have HM1 : Hid _ := HM0.out.trans (if_neg (by simp [hi0]))
    have hi0' : (i : Int) = 0 := by omega
    have hne : ((i : Int) != 0) = false := by simp [hi0]
    clear hi0 hi0' HM0
    go_wp2_with fail
    refine (topNode_any E hE _ nv rows _ hI2).mono ?_
    intro e w3 hp
    have hp' := Post.moved hb2 hp
    rw [← HN.out] at hp'
    clear hp
    cases hm : topM E.s E.B (nextM E.s t) with
    | bad er pl =>
      rw [hm] at hp'
      obtain ⟨rfl, hg⟩ := hp'
      have HM : Hid (textM E.s E.B t = .bad er pl) := by unfold Hid; rw [HM1.out, hm]; rfl
      clear hm
      go_wp2_with fail
      go_ret
      rw [HM.out]
      exact ⟨rfl, hg⟩
    | ok u t1 =>
      rw [hm] at hp'
      obtain ⟨rfl, nv3, rows3, hI3, hb3, ho3, hq3⟩ := hp'
      have HM2 : Hid (textM E.s E.B t = if kindAt E.s (skipBl E.s t1.k) = 0 then .ok () { t1 with k := skipBl E.s t1.k } else .bad 3 (skipBl E.s t1.k)) := by unfold Hid; rw [HM1.out, hm]; rfl
      clear hm HM1
      go_wp2_with fail
      refine (ppeek_any E hE t1 nv3 rows3 w3 hI3).mono ?_
      rintro e w4 ⟨rfl, hI4, hb4⟩
      by_cases hk : kindAt E.s (skipBl E.s t1.k) = 0
      · have HM : Hid _ := HM2.out.trans (if_pos hk)
        have hne4 : (kindAt E.s (skipBl E.s t1.k) != 0) = false := by simp [hk]
        generalize kindAt E.s (skipBl E.s t1.k) = kq at *
        clear hk HM2
        go_wp2_with fail
        go_ret
        rw [HM.out]
        exact ⟨rfl, nv3, rows3, hI4, hb3.trans (hb4.mono (S' := E.p :: E.g :: E.m :: own nv) (by simp)) (fun x hx => .inl hx), ho3, hq3⟩
      · have HM : Hid _ := HM2.out.trans (if_neg hk)
        have hne4 : (kindAt E.s (skipBl E.s t1.k) != 0) = true := by simp [hk]
        generalize kindAt E.s (skipBl E.s t1.k) = kq at *
        clear hk HM2
        go_wp2_with fail
        refine (wrongByte_any E _ nv3 rows3 w4 hI4).mono ?_
        rintro e w5 ⟨rfl, hb5⟩
        go_wp2_with fail
        go_ret
        rw [HM.out]
        exact ⟨rfl, Bad.trans (hb3.trans (hb4.mono (S' := E.p :: E.g :: E.m :: own nv) (by simp)) (fun x hx => .inl hx)) ho3 hb5⟩
  · have HM : Hid _ := HM0.out.trans (if_pos hi0)
    have hne : ((i : Int) != 0) = true := by simp; omega
    clear HM0
    go_wp2_with fail
    refine (wrongByte_any E _ nv rows _ hI2).mono ?_
    rintro e w3 ⟨rfl, hb3⟩
    go_wp2_with fail
    go_ret
    rw [HM.out]
    exact ⟨rfl, Bad.trans (hb2.mono (by simp)) (fun _ hx => .inl hx) hb3⟩

end Go.Proofs.YtkflkmmbakccoaaGreatDoor
