/- PARTS: W21. -/
import Derived.Test.YtkflkmmbakccoaaGreatDoorJ9

/- WALKS: package parse: block. -/
namespace Go.Proofs.YtkflkmmbakccoaaGreatDoor
open Go.RowKit Go.Maps

theorem leadM_ok {s : ByteArray} {isMap : Bool} {t t' : PS} {ks ks' : List ByteArray} (hw : WF s t) (h : leadM s isMap ks t = .ok ks' t') : Step s none t t' ∧ t.k < t'.k ∧ ks'.length ≤ ks.length + 1 := by
  cases isMap with
  | true =>
    have h1 : keyM s ks t = .ok ks' t' := h
    have := keyM_ok hw h1
    have := keyM_len h1
    exact ⟨(keyM_ok hw h1).1, (keyM_ok hw h1).2, by omega⟩
  | false =>
    have h1 : (expectM s 4 t).bind (fun _ t1 => .ok ks t1) = .ok ks' t' := h
    obtain ⟨_, t1, h2, h3⟩ := Res.bind_ok_iff h1
    cases h3
    have := expectM_ok (by omega) hw h2
    exact ⟨this.1, this.2, by omega⟩

/-- What is done behind an item. -/
def blkTail (s : ByteArray) (it : PS → Res Nat) (id d : Nat) (isMap : Bool) (n : Nat) (keys : List ByteArray) (parts : List Nat) (t : PS) : Res Unit :=
  if kindAt s (skipBl s t.k) = 0 ∨ t.ind < 2 * d then .ok () (endM id { NodeV.blank with kind := if isMap then 2 else 1, keys := keys, parts := parts } { t with k := skipBl s t.k })
  else if 2 * d < t.ind then .bad 3 (skipBl s t.k)
  else blockLoop s it id d isMap n keys parts { t with k := skipBl s t.k }

theorem blockLoop_lead (s : ByteArray) (it : PS → Res Nat) (id d : Nat) (isMap : Bool) (n : Nat) (keys : List ByteArray) (parts : List Nat) (t : PS) :
    blockLoop s it id d isMap (n + 1) keys parts t = (leadM s isMap keys t).bind fun keys1 t1 => (it t1).bind fun x t2 => blkTail s it id d isMap n keys1 (parts ++ [x]) t2 := by
  conv => lhs; unfold blockLoop
  unfold leadM
  cases isMap <;> rfl

theorem mayL_own {E : Env} {nv nv1 : Value} {r : Row} {w : World} (ho : ∀ x ∈ own nv1, x ∈ own nv ∨ w.heap.size ≤ x) (hr : ∀ x ∈ r.pub, w.heap.size ≤ x) : ∀ x ∈ mayL E w.heap.size r nv1, x ∈ E.p :: E.g :: E.m :: own nv ∨ w.heap.size ≤ x := by
  intro x hx
  rw [mayL_mem] at hx
  simp only [List.mem_cons]
  rcases hx with hx | hx | hx | hx | hx | hx
  · exact .inl (.inl hx)
  · exact .inl (.inr (.inl hx))
  · exact .inl (.inr (.inr (.inl hx)))
  · right; omega
  · rcases ho x hx with h1 | h1
    · exact .inl (.inr (.inr (.inr h1)))
    · exact .inr h1
  · exact .inr (hr x hx)

set_option maxRecDepth 20000 in
set_option maxHeartbeats 2000000 in
theorem blockS_any (E : Env) (hE : EnvOk E) (t : PS) (nv : Value) (rows : List Row) (w : World) (h : PInv E t nv rows w) (id : Nat) (hid : id < rows.length) (d : Nat) (hd : d ≤ 25) (hlv : (d : Int) + 1 ≤ E.B.depth) (it : PS → Res Nat)
    (hits : ∀ t nv rows w, PInv E t nv rows w → Calls Tryz.prog 113 #[pp E, .int .i64 (d : Int)] w fun e w' => PostN E nv rows w (it t) e w') (hito : FlowOk E.s E.B ((d : Int) + 2) it) (res : Res Unit)
    (hres : Hid (res = blockLoop E.s it id d (decide (kindAt E.s (skipBl E.s t.k) ≠ 4)) (E.s.size + 1) [] [] { t with k := skipBl E.s t.k })) :
    Calls Tryz.prog 90 #[pp E, .int .i64 (id : Int), .int .i64 (d : Int)] w fun e w' => PostB E nv rows w res e w' := by
  obtain ⟨i0, hi, hz0, hz1, hz2⟩ := info_parts infoInt
  have hs := hE.s
  have hD := hE.d
  obtain ⟨hI0, hL0⟩ : PInv E t nv rows (w.alloc (.cells #[.int .i64 2, .string ⟨#[]⟩, .slice none 0 0, .slice none 0 0, .int .i64 0, .int .i64 0] 79)) ∧ LInv E w.heap.size ⟨{ NodeV.blank with kind := 2 }, .slice none 0 0, .slice none 0 0⟩ nv rows (w.alloc (.cells #[.int .i64 2, .string ⟨#[]⟩, .slice none 0 0, .slice none 0 0, .int .i64 0, .int .i64 0] 79)) :=
    LInv.made h { NodeV.blank with kind := 2 } rfl rfl
  go_enter Tryz.func90, Tryz.ntmps90
  go_wp2_with fail
  refine (ppeek_any E hE t nv rows _ hI0).mono ?_
  rintro e w1 ⟨rfl, hI1, hb1⟩
  have hL1 := hL0.stays hI0 (hb1.mono (by simp)) (fun _ hx => .inl hx) (fun _ hx => .inl hx)
  have hb1' : But (E.p :: E.g :: E.m :: own nv) w w1 := ((alloc_but w _).mono (by simp)).trans (hb1.mono (S' := E.p :: E.g :: E.m :: own nv) (by simp)) (fun x hx => .inl hx)
  have hbz : w.heap.size < w1.heap.size := by have := hb1.size; simp at this; omega
  clear hI0 hL0 hb1
  have c0 : w1.cell? ⟨w.heap.size, 0, none⟩ = some (.int .i64 2) := hL1.blk.cell rfl
  have f0 : w1.frozen? ⟨w.heap.size, 0, none⟩ = false := hL1.blk.free 0
  by_cases hk4 : kindAt E.s (skipBl E.s t.k) = 4
  case' pos =>
    obtain ⟨isMap, hI2, hL2, hb2, HM⟩ : ∃ isMap : Bool, PInv E { t with k := skipBl E.s t.k } nv rows (w1.setCell ⟨w.heap.size, 0, none⟩ (.int .i64 1)) ∧ LInv E w.heap.size ⟨{ NodeV.blank with kind := if isMap = true then 2 else 1 }, .slice none 0 0, .slice none 0 0⟩ nv rows (w1.setCell ⟨w.heap.size, 0, none⟩ (.int .i64 1)) ∧
        But (E.p :: E.g :: E.m :: own nv) w (w1.setCell ⟨w.heap.size, 0, none⟩ (.int .i64 1)) ∧ Hid (res = blockLoop E.s it id d isMap (E.s.size + 1) [] [] { t with k := skipBl E.s t.k }) :=
      ⟨false, (hL1.setKind hI1 1).1, (hL1.setKind hI1 1).2, hb1'.setCell (.inr (Nat.le_refl _)) _, by unfold Hid; rw [hres.out, decide_eq_false (by simp [hk4])]⟩
    have b4 : (kindAt E.s (skipBl E.s t.k) == 4) = true := by simp [hk4]
    generalize kindAt E.s (skipBl E.s t.k) = kq at *
    clear hk4 hres
    go_wp2_with fail
  case' neg =>
    obtain ⟨isMap, hI2, hL2, hb2, HM⟩ : ∃ isMap : Bool, PInv E { t with k := skipBl E.s t.k } nv rows w1 ∧ LInv E w.heap.size ⟨{ NodeV.blank with kind := if isMap = true then 2 else 1 }, .slice none 0 0, .slice none 0 0⟩ nv rows w1 ∧
        But (E.p :: E.g :: E.m :: own nv) w w1 ∧ Hid (res = blockLoop E.s it id d isMap (E.s.size + 1) [] [] { t with k := skipBl E.s t.k }) :=
      ⟨true, hI1, hL1, hb1', by unfold Hid; rw [hres.out, decide_eq_true (by simpa using hk4)]⟩
    have b4 : (kindAt E.s (skipBl E.s t.k) == 4) = false := by simp [hk4]
    generalize kindAt E.s (skipBl E.s t.k) = kq at *
    clear hk4 hres
    go_wp2_with fail
  all_goals
    refine name_world fun W0 hW0 => ?_
    rw [← hW0.out] at hI2 hL2 hb2
    clear hW0 hI1 hL1 hb1' c0 f0
    go_loopg [] (E.s.size + 1) (fun gk wr => ∃ t1 nv1 rows1 kv1 pv1 keys parts, res = blockLoop E.s it id d isMap gk keys parts t1 ∧ E.s.size < gk + t1.k ∧ PInv E t1 nv1 rows1 wr ∧
      LInv E w.heap.size ⟨{ NodeV.blank with kind := if isMap then 2 else 1, keys := keys, parts := parts }, kv1, pv1⟩ nv1 rows1 wr ∧ But (E.p :: E.g :: E.m :: own nv) w wr ∧ (∀ x ∈ own nv1, x ∈ own nv ∨ w.heap.size ≤ x) ∧ (∀ x ∈ pub rows1, x ∈ pub rows ∨ w.heap.size ≤ x) ∧ (∀ x ∈ own kv1 ++ own pv1, w.heap.size ≤ x) ∧
      keys.length ≤ t1.k ∧ parts.length ≤ t1.k ∧ (∀ x ∈ parts, highOf t1.nodes x ≠ 0 ∧ (highOf t1.nodes x : Int) + ((d : Int) + 1) ≤ E.B.depth) ∧ id < t1.nodes.length ∧ w.heap.size < wr.heap.size)
    case atStart => exact ⟨_, nv, rows, .slice none 0 0, .slice none 0 0, [], [], HM.out, by simp only; omega, hI2, hL2, hb2, fun _ hx => .inl hx, fun _ hx => .inl hx, by simp [own], by simp, by simp, by simp, by rw [← h.len] at hid; exact hid, hL2.blk.lt⟩
    case round =>
      obtain ⟨t1, nv1, rows1, kv1, pv1, keys, parts, hm, hgk, hI, hLL, hb, ho, hq, hr, hkl, hpl, hph, hid1, hsz⟩ := hrel
      obtain ⟨m, rfl⟩ : ∃ m, gk = m + 1 := ⟨gk - 1, by have := hI.wf.k; omega⟩
      have HM1 : Hid _ := hm.trans (blockLoop_lead E.s it id d isMap m keys parts t1)
      have HG : Hid (E.s.size < m + 1 + t1.k) := hgk
      have HPH : Hid _ := hph
      clear hm HM hL2 hI2 hb2 hgk hph
      go_wp2_with fail
      refine (lead_any E hE t1 nv1 rows1 w.heap.size _ wr hI hLL hkl isMap rfl).mono ?_
      intro e w2 hp2
      cases hm : leadM E.s isMap keys t1 with
      | bad er pl =>
        simp only [hm] at hp2
        obtain ⟨rfl, hbad⟩ := hp2
        have HM : Hid (res = .bad er pl) := by unfold Hid; rw [HM1.out, hm]; rfl
        clear hm
        go_wp2_with fail
        go_ret
        rw [HM.out]
        exact ⟨rfl, hb.trans hbad.1 (mayL_own ho hr), hbad.2⟩
      | ok keys2 t2 =>
        simp only [hm] at hp2
        obtain ⟨rfl, nv2, rows2, kv2, pv2, hI2, hL2, hb2, ho2, hq2, hr2⟩ := hp2
        obtain ⟨s2, hk2, hl2⟩ := leadM_ok hI.wf hm
        have HM2 : Hid (res = (it t2).bind fun x t3 => blkTail E.s it id d isMap m keys2 (parts ++ [x]) t3) := by unfold Hid; rw [HM1.out, hm]; rfl
        have hb2' : But (E.p :: E.g :: E.m :: own nv) w w2 := hb.trans hb2 (mayL_own ho hr)
        have ho2' : ∀ y ∈ own nv2, y ∈ own nv ∨ w.heap.size ≤ y := fun y hy => (ho2 y hy).elim (fun h => ho y h) (fun h1 => .inr (Nat.le_trans hb.size h1))
        have hq2' : ∀ y ∈ pub rows2, y ∈ pub rows ∨ w.heap.size ≤ y := fun y hy => (hq2 y hy).elim (fun h => hq y h) (fun h1 => .inr (Nat.le_trans hb.size h1))
        have hr2' : ∀ y ∈ own kv2 ++ own pv2, w.heap.size ≤ y := fun y hy => (hr2 y hy).elim (fun h => hr y h) (fun h1 => Nat.le_trans hb.size h1)
        have HPH2 : Hid (∀ x ∈ parts, highOf t2.nodes x ≠ 0 ∧ (highOf t2.nodes x : Int) + ((d : Int) + 1) ≤ E.B.depth) := fun y hy => by
          obtain ⟨a, b⟩ := HPH.out y hy
          rw [s2.highKeep (highOf_lt a) (by simp)]; exact ⟨a, b⟩
        have hid2 : id < t2.nodes.length := Nat.lt_of_lt_of_le hid1 s2.len
        clear hm HM1 hb2 ho2 hq2 hr2 hb ho hq hr hLL HPH
        go_wp2_with fail
        refine (hits t2 nv2 rows2 w2 hI2).mono ?_
        rintro e w3 ⟨z, hp3⟩
        cases hm : it t2 with
        | bad er pl =>
          rw [hm] at hp3
          obtain ⟨rfl, hbad⟩ := hp3
          have HM : Hid (res = .bad er pl) := by unfold Hid; rw [HM2.out, hm]; rfl
          clear hm
          go_wp2_with fail
          go_ret
          rw [HM.out]
          exact ⟨rfl, Bad.trans hb2' ho2' hbad⟩
        | ok x t3 =>
          rw [hm] at hp3
          obtain ⟨rfl, nv3, rows3, hI3, hb3, ho3, hq3⟩ := hp3
          obtain ⟨s3, n3, b3⟩ := hito t2 t3 x hI2.wf (by omega) hm
          have hL3 := hL2.stays hI2 hb3 ho3 hq3
          have HM3 : Hid (res = blkTail E.s it id d isMap m keys2 (parts ++ [x]) t3) := by unfold Hid; rw [HM2.out, hm]; rfl
          have hk3 := s3.k
          have hb3' : But (E.p :: E.g :: E.m :: own nv) w w3 := hb2'.trans hb3 (fun y hy => by
            simp only [List.mem_cons] at hy ⊢
            rcases hy with hy | hy | hy | hy
            · exact .inl (.inl hy)
            · exact .inl (.inr (.inl hy))
            · exact .inl (.inr (.inr (.inl hy)))
            · rcases ho2' y hy with h1 | h1
              · exact .inl (.inr (.inr (.inr h1)))
              · exact .inr h1)
          have ho3' : ∀ y ∈ own nv3, y ∈ own nv ∨ w.heap.size ≤ y := fun y hy => (ho3 y hy).elim (fun h => ho2' y h) (fun h1 => .inr (Nat.le_trans hb2'.size h1))
          have hq3' : ∀ y ∈ pub rows3, y ∈ pub rows ∨ w.heap.size ≤ y := fun y hy => (hq3 y hy).elim (fun h => hq2' y h) (fun h1 => .inr (Nat.le_trans hb2'.size h1))
          have HPH3 : Hid (∀ y ∈ parts ++ [x], highOf t3.nodes y ≠ 0 ∧ (highOf t3.nodes y : Int) + ((d : Int) + 1) ≤ E.B.depth) := fun y hy => by
            rcases List.mem_append.1 hy with hy | hy
            · obtain ⟨a, b⟩ := HPH2.out y hy
              rw [s3.highKeep (highOf_lt a) (by simp)]; exact ⟨a, b⟩
            · have := List.mem_singleton.1 hy
              subst this
              exact ⟨n3, by omega⟩
          have hid3 : id < t3.nodes.length := Nat.lt_of_lt_of_le hid2 s3.len
          clear hm HM2 hb3 ho3 hq3 hI2 hL2 hb2' ho2' hq2' HPH2
          have cp : w3.cell? ⟨w.heap.size, 3, none⟩ = some pv2 := hL3.blk.cell rfl
          have hbase := hI3.base
          have hw3 := hI3.wf.k
          go_wp2_with (at_builtin; refine wpList_append_own_at _ rfl _ _ 42 rfl E.base 3 i0 (.int .i64 0) 1 8 undInts hi hz0 hz1 hz2 rfl (by decide) _ _ _ rfl (hL3.ok.2.alloc _) ⟨w3.heap.size, 0, none⟩ 1 1 [.int .i64 (x : Int)] rfl rfl (cells_new w3 _ _ _ rfl) (fun u hu => by simp at hu; subst hu; rfl) (by unfold maxLen; simp only; omega) (by simp only; omega) (by simp; omega) ?_)
          intro v' w4 hown hgrow _ hloc
          obtain ⟨hB4, hI5, hL5, hb5, hv5⟩ := hL3.pushPart hI3 hown hgrow (hloc.imp Eq.symm (fun e => by rw [e]; simp))
          have hshape : ∃ a n c, v' = .slice a n c := by
            rcases hown.2 with ⟨e, _⟩ | ⟨g, cap, cur, e, _⟩
            · exact ⟨_, _, _, e⟩
            · exact ⟨_, _, _, e⟩
          obtain ⟨a, n, c, rfl⟩ := hshape
          have ck4 : w4.cell? ⟨w.heap.size, 3, none⟩ = some pv2 := hB4.cell rfl
          have fk4 : w4.frozen? ⟨w.heap.size, 3, none⟩ = false := hB4.free 3
          clear hown hgrow hloc hB4 cp
          go_wp2_with fail
          refine (ppeek_any E hE t3 nv3 rows3 _ hI5).mono ?_
          rintro e w6 ⟨rfl, hI6, hb6⟩
          have hL6 := hL5.stays hI5 (hb6.mono (by simp)) (fun _ hx => .inl hx) (fun _ hx => .inl hx)
          have hr5 : ∀ y ∈ own kv2 ++ own (Value.slice a n c), w.heap.size ≤ y := fun y hy => by
            rcases List.mem_append.1 hy with hy | hy
            · exact hr2' y (List.mem_append.2 (.inl hy))
            · rcases hv5 y hy with h1 | h1
              · exact hr2' y (List.mem_append.2 (.inr h1))
              · exact Nat.le_trans hb3'.size h1
          have hb6' : But (E.p :: E.g :: E.m :: own nv) w w6 := (hb3'.trans hb5 (fun y hy => by
            rcases List.mem_cons.1 hy with rfl | hy
            · exact .inr (Nat.le_refl _)
            · exact .inr (hr2' y (List.mem_append.2 (.inr hy))))).trans (hb6.mono (S' := E.p :: E.g :: E.m :: own nv) (by simp)) (fun y hy => .inl hy)
          clear hI5 hL5 hb5 hb6 hb3' hv5
          have hsk := skipBl_ge E.s t3.k
          have c8 : w6.cell? ⟨E.p, 8, none⟩ = some (.int .i64 (t3.ind : Int)) := hI6.par.cell rfl
          have hsz6 : w.heap.size < w6.heap.size := hL6.blk.lt
          by_cases he : kindAt E.s (skipBl E.s t3.k) = 0 ∨ t3.ind < 2 * d
          · have hid4 : id < rows3.length := by rw [← hI3.len]; exact hid3
            obtain ⟨n', kv, pv, u3, hIW0, hrW, hLW, hwf, hps, hpl', HM⟩ : ∃ n kv pv u3, PInv E u3 nv3 rows3 w6 ∧ (∀ y ∈ Row.pub ⟨n, kv, pv⟩, w.heap.size ≤ y) ∧ LInv E w.heap.size ⟨n, kv, pv⟩ nv3 rows3 w6 ∧ WF E.s (endM id n u3) ∧ (∀ y ∈ n.parts, y < rows3.length) ∧ n.parts.length ≤ 1000 ∧ Hid (res = .ok () (endM id n u3)) :=
              ⟨{ NodeV.blank with kind := if isMap then 2 else 1, keys := keys2, parts := parts ++ [x] }, kv2, .slice a n c, { t3 with k := skipBl E.s t3.k }, hI6, hr5, hL6, (endM_step (B := E.B) (lv := (d : Int) + 1) (n := { NodeV.blank with kind := if isMap then 2 else 1, keys := keys2, parts := parts ++ [x] }) hI6.wf hid3 (by omega) hD hlv (fun y hy => (HPH3.out y hy).2)).1.wf, (fun y hy => by rw [← hI3.len]; exact highOf_lt (HPH3.out y hy).1), by simp; omega, by unfold Hid; rw [HM3.out]; unfold blkTail; rw [if_pos he]⟩
            clear HM3 HPH3 hL6 hI3 hL3
            have hE0 : (kindAt E.s (skipBl E.s t3.k) == 0 || decide ((t3.ind : Int) < 2 * (d : Int))) = true := by simp; omega
            rcases (show (kindAt E.s (skipBl E.s t3.k) == 0) = true ∨ ((kindAt E.s (skipBl E.s t3.k) == 0) = false ∧ decide ((t3.ind : Int) < 2 * (d : Int)) = true) from by simp; omega) with q0 | ⟨q0, q1⟩
            all_goals
              generalize kindAt E.s (skipBl E.s t3.k) = kq6 at *
              clear he hE0
              go_wp2_with fail
              refine name_world fun W hW => ?_
              have hIW : PInv E u3 nv3 rows3 W := by rw [hW.out]; exact hIW0
              have hbW : But (E.p :: E.g :: E.m :: own nv) w W := by rw [hW.out]; exact hb6'
              rw [← hW.out] at hLW
              clear hW hIW0 hI6 hb6' c8
              have c6 : W.cell? ⟨E.p, 6, none⟩ = some (.pointer (some ⟨E.g, 0, none⟩)) := hIW.par.cell rfl
              have l0 : W.cell? ⟨w.heap.size, 0, none⟩ = some (.int .i64 (n'.kind : Int)) := hLW.blk.cell rfl
              have l1 : W.cell? ⟨w.heap.size, 1, none⟩ = some (.string n'.text) := hLW.blk.cell rfl
              have l2 : W.cell? ⟨w.heap.size, 2, none⟩ = some kv := hLW.blk.cell rfl
              have l3 : W.cell? ⟨w.heap.size, 3, none⟩ = some pv := hLW.blk.cell rfl
              have l4 : W.cell? ⟨w.heap.size, 4, none⟩ = some (.int .i64 (n'.high : Int)) := hLW.blk.cell rfl
              have l5 : W.cell? ⟨w.heap.size, 5, none⟩ = some (.int .i64 (n'.heavy : Int)) := hLW.blk.cell rfl
              go_region_with ((go_at_call 114; refine (gEnd_plain E u3 nv3 rows3 _ (hIW.frame (But.refl [] W).drew (by simp)) id hid4 n' kv pv (RowOk.but hLW.ok (But.refl [] W).drew (by simp)) hps hpl' hwf).mono ?_; rintro e wE ⟨rfl, hIE, hbE⟩))
              all_goals
                go_wp2_with fail
                go_ret
                rw [HM.out]
                exact ⟨rfl, Good.ended (t1 := u3) (r := ⟨measured u3.nodes n', kv, pv⟩) hbW ho3' hq3' hrW hIE ((But.refl [] W).drew.mono (S' := own nv3) (by simp) |>.trans hbE (fun x hx => .inl hx)) hIW⟩
          · by_cases hg : 2 * d < t3.ind
            · have HM : Hid (res = .bad 3 (skipBl E.s t3.k)) := by unfold Hid; rw [HM3.out]; unfold blkTail; rw [if_neg he, if_pos hg]
              have q0 : (kindAt E.s (skipBl E.s t3.k) == 0) = false := by simp; omega
              have q1 : 2 * (d : Int) < (t3.ind : Int) := by omega
              generalize kindAt E.s (skipBl E.s t3.k) = kq6 at *
              clear he hg
              go_wp2_with fail
              refine (wrongByte_any E _ nv3 rows3 w6 hI6).mono ?_
              rintro e w7 ⟨rfl, hb7⟩
              go_wp2_with fail
              go_ret
              rw [HM.out]
              exact ⟨rfl, Bad.trans hb6' ho3' hb7⟩
            · have HM : Hid (res = blockLoop E.s it id d isMap m keys2 (parts ++ [x]) { t3 with k := skipBl E.s t3.k }) := by unfold Hid; rw [HM3.out]; unfold blkTail; rw [if_neg he, if_neg hg]
              have q0 : (kindAt E.s (skipBl E.s t3.k) == 0) = false := by simp; omega
              have q1 : 2 * (d : Int) ≤ (t3.ind : Int) := by omega
              have q2 : (t3.ind : Int) ≤ 2 * (d : Int) := by omega
              generalize kindAt E.s (skipBl E.s t3.k) = kq6 at *
              clear he hg
              go_wp2_with fail
              go_roundg m
              case measure => omega
              case rel => exact ⟨_, nv3, rows3, kv2, _, keys2, parts ++ [x], HM.out, by have := HG.out; simp only; omega, hI6, hL6, hb6', ho3', hq3', hr5, by simp only; omega, by simp; omega, HPH3.out, hid3, hsz6⟩

/-- A block that has begun, with as many levels to come as there may be. -/
theorem block_any (E : Env) (hE : EnvOk E) (f : Nat) : ∀ d : Nat, d ≤ 25 → E.B.depth ≤ (d : Int) + f → BlockSaid E d (fun id => blockM E.s E.B f id d) := by
  have hD := hE.d
  induction f with
  | zero =>
    intro d _ hf t nv rows w id di _ _ _ hlv
    exact absurd hlv (by push_cast at hf; omega)
  | succ f ih =>
    intro d hd hf t nv rows w id di hdi h hid hlv
    subst hdi
    refine blockS_any E hE t nv rows w h id hid d hd hlv (itemS E.s E.B (blockM E.s E.B f) d) ?_ (itemS_ok hD hE.n hE.a (blockM_ok hD hE.n hE.a f)) _ rfl
    intro t' nv' rows' w' h'
    exact item_any E hE t' nv' rows' w' h' d hd (blockM E.s E.B f) (fun hq => ih (d + 1) (by omega) (by push_cast at hf ⊢; omega)) (blockM_ok hD hE.n hE.a f)

end Go.Proofs.YtkflkmmbakccoaaGreatDoor
