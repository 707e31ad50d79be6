/- PARTS: W14, Mod4, W16, Inv6. -/
import Derived.Test.YtkflkmmbakccoaaGreatDoorJ5
import Derived.Test.YtkflkmmbakccoaaGreatDoorJ1
import Derived.Deep.LoopGhost

/- WALKS: package graph: End. -/
namespace Go.Proofs.YtkflkmmbakccoaaGreatDoor
open Go.RowKit Go.Maps

def highTo (t : PS) (l : List Nat) : Nat := l.foldl (fun a i => max a (highOf t.nodes i)) 0
def heavyTo (t : PS) (l : List Nat) : Nat := l.foldl (fun a i => min (a + heavyOf t.nodes i) 1000000000001) 1

theorem highTo_snoc (t : PS) (l : List Nat) (x : Nat) : highTo t (l ++ [x]) = max (highTo t l) (highOf t.nodes x) := by simp [highTo]
theorem heavyTo_snoc (t : PS) (l : List Nat) (x : Nat) : heavyTo t (l ++ [x]) = min (heavyTo t l + heavyOf t.nodes x) 1000000000001 := by simp [heavyTo]
theorem highTo_le (t : PS) (l : List Nat) (h : ∀ i, highOf t.nodes i ≤ 100) : highTo t l ≤ 100 := by
  have := foldl_max_le (highOf t.nodes) l 0 100 (by omega) (fun x _ => by have := h x; omega)
  unfold highTo; omega
theorem heavyTo_le (t : PS) (l : List Nat) : heavyTo t l ≤ 1000000000001 := foldl_min_le _ _ _ _ (by omega)

theorem ownsInt_cell {w : World} {base n : Nat} {v : Value} {l : List Nat} (h : w.ownsRow base 3 1 v n (l.map fun (i : Nat) => Value.int .i64 (i : Int))) (hn : 0 < n) :
    ∃ b cap, v = .slice (some ⟨b, 0, none⟩) n cap ∧ n ≤ cap ∧ l.length = n ∧ ∀ i (hi : i < l.length), w.cell? ⟨b, i, none⟩ = some (.int .i64 (l[i] : Int)) := by
  have hl : l.length = n := by have := h.1; simpa using this
  rcases h.2 with ⟨_, h0⟩ | ⟨g, cap, cur, e, hb, hg, hc, hm, hs, ht⟩
  · omega
  · refine ⟨g, cap, e, hc, hl, fun i hi => ?_⟩
    have h1 : (l.map fun (i : Nat) => Value.int .i64 (i : Int))[i]? = some (.int .i64 (l[i] : Int)) := by simp [hi]
    rw [← ht, List.getElem?_take, if_pos (by omega)] at h1
    simp only [World.cell?, hg]
    simpa using h1

theorem own_shape {w : World} {base e sz n : Nat} {v : Value} {xs : List Value} (h : w.ownsRow base e sz v n xs) : ∃ a cap, v = .slice a n cap ∧ n ≤ cap := by
  rcases h.2 with ⟨e, h0⟩ | ⟨g, cap, cur, e, _, _, hc, _⟩
  · exact ⟨_, _, by rw [e, h0], by omega⟩
  · exact ⟨_, _, e, hc⟩

set_option maxHeartbeats 1000000 in
theorem gEnd_any (E : Env) (t : PS) (nv : Value) (rows : List Row) (w : World) (h : PInv E t nv rows w) (id : Nat) (hid : id < rows.length) (r : Row) (hr : RowOk w E.base r) (hp : ∀ x ∈ r.n.parts, x < rows.length) (hl : r.n.parts.length ≤ 1000) (hwf : WF E.s (endM id r.n t)) :
    Calls Tryz.prog 114 #[.pointer (some ⟨E.g, 0, none⟩), .int .i64 (id : Int), .agg r.cells.toArray] w fun e w' => e = .returned (.tuple #[]) ∧
      PInv E (endM id r.n t) nv (rows.set id ⟨measured t.nodes r.n, r.kv, r.pv⟩) w' ∧ But (own nv) w w' := by
  obtain ⟨pa, pcap, hpv, hpc⟩ := own_shape hr.2
  obtain ⟨ka, kcap, hkv, hkc⟩ := own_shape hr.1
  obtain ⟨n, kv, pv⟩ := r
  simp only at *
  subst hpv hkv
  simp only [Row.cells]
  go_enter Tryz.func114, Tryz.ntmps114
  go_wp2_with fail
  go_loopw [13] (fun i wr => ∃ k : Nat, k ≤ n.parts.length ∧ i = .int .i64 k ∧ But [] w wr ∧ Blk wr w.heap.size #[.int .i64 (n.kind : Int), .string n.text, .slice ka n.keys.length kcap, .slice pa n.parts.length pcap, .int .i64 (highTo t (n.parts.take k) : Int), .int .i64 (heavyTo t (n.parts.take k) : Int)] 79) (fun i _ => n.parts.length - (intOf i).toNat)
  case atStart => exact ⟨0, Nat.zero_le _, rfl, alloc_but _ _, heap_alloc_new w _⟩
  case round =>
    obtain ⟨k, hk, rfl, hb, hB⟩ := hrel
    have hbd1 := highTo_le t (n.parts.take k) h.wf.high
    have hbd2 := heavyTo_le t (n.parts.take k)
    have hI := h.frame hb (by simp)
    have c4 := hB.cell (i := 4) rfl
    have c5 := hB.cell (i := 5) rfl
    have f4 := hB.free 4
    have f5 := hB.free 5
    by_cases hlt : k < n.parts.length
    · obtain ⟨pb, cap', e, _, _, hcell⟩ := ownsInt_cell (n := n.parts.length) (l := n.parts) (ownsRow_but hr.2 hb (by simp)) (by omega)
      obtain ⟨rfl, rfl⟩ : pa = some ⟨pb, 0, none⟩ ∧ pcap = cap' := by simpa using e
      have hc := hcell k hlt
      have hx := hp n.parts[k] (List.getElem_mem hlt)
      obtain ⟨nb, cap, rfl, hcap, hcn⟩ := hI.node n.parts[k] hx
      have cn4 := (hcn 4 (by omega)).1
      have cn5 := (hcn 5 (by omega)).1
      simp only [Row.cells, List.getElem?_cons_succ, List.getElem?_cons_zero] at cn4 cn5
      rw [← hI.highAt _ hx] at cn4
      rw [← hI.heavyAt _ hx] at cn5
      have g0 : wr.cell? ⟨E.g, 0, none⟩ = some (.slice (some ⟨nb, 0, none⟩) rows.length cap) := hI.gr.cell rfl
      have hh1 := h.wf.high n.parts[k]
      have hh2 := h.wf.heavy n.parts[k]
      have HE1 : Hid (highTo t (n.parts.take (k + 1)) = max (highTo t (n.parts.take k)) (highOf t.nodes n.parts[k])) := by unfold Hid; rw [← highTo_snoc]; simp
      have HE2 : Hid (heavyTo t (n.parts.take (k + 1)) = min (heavyTo t (n.parts.take k) + heavyOf t.nodes n.parts[k]) 1000000000001) := by unfold Hid; rw [← heavyTo_snoc]; simp
      generalize n.parts[k] = x at *
      generalize highTo t (n.parts.take k) = H at *
      generalize heavyTo t (n.parts.take k) = V at *
      generalize highOf t.nodes x = H1 at *
      generalize heavyOf t.nodes x = V1 at *
      clear hcell hcn
      go_wp2_with fail
      go_region
      go_wp2_with fail
      go_region
      go_wp2_with fail
      go_roundw
      case rel =>
        refine ⟨k + 1, by omega, by go_num, ?_, ?_⟩
        · repeat (first | exact hb | refine But.drew ?_ | refine But.drewN ?_ _ | refine But.setCell ?_ (by simp) _)
        · have := (hB.set 4 (.int .i64 (max (H : Int) (H1 : Int)))).set 5 (.int .i64 (min ((V : Int) + (V1 : Int)) 1000000000001))
          have e1 : ((max H H1 : Nat) : Int) = max (H : Int) (H1 : Int) := by omega
          have e2 : ((min (V + V1) 1000000000001 : Nat) : Int) = min ((V : Int) + (V1 : Int)) 1000000000001 := by omega
          rw [HE1.out, HE2.out, e1, e2]
          refine Blk.drew (Blk.drew ?_)
          simpa using this
      case measure => simp [intOf]; omega
    · have hfull : n.parts.take k = n.parts := List.take_of_length_le (by omega)
      rw [hfull] at hB c4 c5 hbd1 hbd2
      have HM : Hid (measured t.nodes n = { n with high := highTo t n.parts + 1, heavy := heavyTo t n.parts }) := rfl
      obtain ⟨nb, cap, rfl, hcap, hcn⟩ := h.node id hid
      clear hfull
      generalize highTo t n.parts = H at *
      generalize heavyTo t n.parts = V at *
      go_wp2_with fail
      refine name_world fun W hW => ?_
      have hbW : But [] w W := by rw [hW.out]; exact hb.setCell (by simp) _
      have hBW : Blk W w.heap.size #[.int .i64 (n.kind : Int), .string n.text, .slice ka n.keys.length kcap, .slice pa n.parts.length pcap, .int .i64 ((H + 1 : Nat) : Int), .int .i64 (V : Int)] 79 := by
        rw [hW.out]
        have := hB.set 4 (.int .i64 ((H : Int) + 1))
        simpa using this
      have hIW := h.frame hbW (by simp)
      obtain ⟨nb', cap', e, _, hcn⟩ := hIW.node id hid
      obtain ⟨rfl, rfl⟩ : nb = nb' ∧ cap = cap' := by simpa using e
      have g0 : W.cell? ⟨E.g, 0, none⟩ = some (.slice (some ⟨nb, 0, none⟩) rows.length cap) := hIW.gr.cell rfl
      have l0 := hBW.cell (i := 0) rfl
      have l1 := hBW.cell (i := 1) rfl
      have l2 := hBW.cell (i := 2) rfl
      have l3 := hBW.cell (i := 3) rfl
      have l4 := hBW.cell (i := 4) rfl
      have l5 := hBW.cell (i := 5) rfl
      obtain ⟨d0, e0⟩ := hcn 0 (by omega)
      obtain ⟨d1, e1⟩ := hcn 1 (by omega)
      obtain ⟨d2, e2⟩ := hcn 2 (by omega)
      obtain ⟨d3, e3⟩ := hcn 3 (by omega)
      obtain ⟨d4, e4⟩ := hcn 4 (by omega)
      obtain ⟨d5, e5⟩ := hcn 5 (by omega)
      simp only [Row.cells, List.getElem?_cons_succ, List.getElem?_cons_zero, Nat.add_zero] at d0 d1 d2 d3 d4 d5 e0
      clear hcn e c4 c5 f4 f5 hB hb hI
      go_region
      all_goals
        go_end0
        rw [HM.out]
        have hrW : RowOk W E.base ⟨{ n with high := H + 1, heavy := V }, .slice ka n.keys.length kcap, .slice pa n.parts.length pcap⟩ := RowOk.but (r := ⟨{ n with high := H + 1, heavy := V }, .slice ka n.keys.length kcap, .slice pa n.parts.length pcap⟩) hr hbW (by simp)
        have hEnd := PInv.ended hIW hid hrW HM.out.symm hwf
        refine ⟨rfl, hEnd.frame ((But.refl [] _).drewN 1) (by simp), ?_⟩
        have hb6 : But [nb] W _ := setSix_but (o := id * 6) (r := ⟨{ n with high := H + 1, heavy := V }, .slice ka n.keys.length kcap, .slice pa n.parts.length pcap⟩)
        exact ((hbW.mono (by simp)).trans (hb6.drewN 1) (by simp [own]))

end Go.Proofs.YtkflkmmbakccoaaGreatDoor

/- THE PLAIN FUNCTIONS: how many keys and parts there are at most. No program is named here. -/
namespace Go.Proofs.YtkflkmmbakccoaaGreatDoor

theorem keyM_len {s : ByteArray} {t t' : PS} {ks ks' : List ByteArray} (h : keyM s ks t = .ok ks' t') : ks'.length = ks.length + 1 := by
  unfold keyM at h
  split at h
  · obtain ⟨x, t1, h1, h2⟩ := Res.bind_ok_iff h
    split at h2
    · cases h2
    · obtain ⟨_, t2, h3, h4⟩ := Res.bind_ok_iff h2
      cases h4
      simp
  · cases h

theorem inLoop_len {s : ByteArray} {B : Bud} {lv : Int} {fl : PS → Res Nat} {isMap : Bool} {closing : Int} (hc : closing ≠ 0) (h0 : 0 ≤ lv) (hf : FlowOk s B (lv + 1) fl) (n : Nat) :
    ∀ keys parts t r t', WF s t → keys.length ≤ t.k → parts.length ≤ t.k → inLoop s fl isMap closing n keys parts t = .ok r t' → r.1.length ≤ t'.k ∧ r.2.length ≤ t'.k := by
  induction n with
  | zero => intro keys parts t r t' _ _ _ h; cases h
  | succ n ih =>
    intro keys parts t r t' hw hk hp h
    unfold inLoop at h
    obtain ⟨keys1, t1, h1, h2⟩ := Res.bind_ok_iff h
    have s1 : Step s none t t1 ∧ keys1.length ≤ t1.k := by
      cases isMap with
      | false => cases h1; exact ⟨Step.refl _ hw, hk⟩
      | true => have a := keyM_ok hw h1; have b := keyM_len h1; exact ⟨a.1, by omega⟩
    obtain ⟨x, t2, h3, h4⟩ := Res.bind_ok_iff h2
    obtain ⟨s2, n2, b2⟩ := hf t1 t2 x s1.1.wf (by omega) h3
    have s3 := Step.skipTo s2.wf
    have k1 := s1.1.k
    have k2 := s2.k
    have k3 := s3.k
    simp only at k3
    split at h4
    · rename_i h6
      have hl := kindAt_lt (s := s) (q := skipBl s t2.k) (by omega)
      have s4 : Step s none t2 { t2 with k := skipBl s t2.k + 1 } := Step.move s2.wf (by omega) (by omega)
      exact ih _ _ _ r t' s4.wf (by simp only; omega) (by simp; omega) h4
    · obtain ⟨_, t3, h5, h6⟩ := Res.bind_ok_iff h4
      have s5 := expectM_ok hc s3.wf h5
      have k5 := s5.2
      simp only at k5
      cases h6
      exact ⟨by simp only; omega, by simp; omega⟩

theorem bracketsM_len {s : ByteArray} {B : Bud} {lv : Int} {fl : PS → Res Nat} {isMap : Bool} {closing : Int} (hc : closing ≠ 0) (h0 : 0 ≤ lv) (hf : FlowOk s B (lv + 1) fl) {t t' : PS} {r : List ByteArray × List Nat} (hw : WF s t) (hk : t.k < s.size)
    (h : bracketsM s fl isMap closing t = .ok r t') : r.1.length ≤ t'.k ∧ r.2.length ≤ t'.k := by
  unfold bracketsM at h
  simp only at h
  have s0 : Step s none t { t with k := t.k + 1 } := Step.move hw (by omega) (by omega)
  have s1 := s0.andThen (Step.skipTo s0.wf)
  split at h
  · cases h; simp
  · exact inLoop_len hc h0 hf _ _ _ _ r t' s1.wf (by simp) (by simp) h

end Go.Proofs.YtkflkmmbakccoaaGreatDoor

/- WALKS: package parse: brackets. -/
namespace Go.Proofs.YtkflkmmbakccoaaGreatDoor
open Go.RowKit Go.Maps

/-- A way to read a flow of a level, as a call. -/
def FlowSaid (E : Env) (lv : Int) (fl : PS → Res Nat) : Prop :=
  ∀ t nv rows w, PInv E t nv rows w → Calls Tryz.prog 91 #[pp E, .int .i64 lv] w fun e w' => PostN E nv rows w (fl t) e w'

set_option maxHeartbeats 1000000 in
theorem brackets_any (E : Env) (hE : EnvOk E) (t : PS) (nv : Value) (rows : List Row) (b : Nat) (r : Row) (w : World) (h : PInv E t nv rows w) (hL : LInv E b r nv rows w) (hk : t.k < E.s.size) (lv : Int) (h0 : 0 ≤ lv) (h1 : lv ≤ 100) (fl : PS → Res Nat) (hfs : FlowSaid E (lv + 1) fl)
    (hfo : FlowOk E.s E.B (lv + 1) fl) (isMap : Bool) (closing : Int) (hc : closing ≠ 0) (hkind : r.n.kind = if isMap then 2 else 1) (hrk : r.n.keys = []) (hrp : r.n.parts = []) :
    Calls Tryz.prog 152 #[pp E, bp b, .int .i64 closing, .int .i64 lv] w fun e w' => PostL E nv rows b r w (fun p => { r.n with keys := p.1, parts := p.2 }) (bracketsM E.s fl isMap closing t) e w' := by
  obtain ⟨i0, hi, hz0, hz1, hz2⟩ := info_parts infoInt
  have hs := hE.s
  go_enter Tryz.func152, Tryz.ntmps152
  go_wp2_with fail
  refine (pskip_any E hE t nv rows w h hk).mono ?_
  rintro e w1 ⟨rfl, hI1, hb1⟩
  go_wp2_with fail
  refine (ppeek_any E hE _ nv rows w1 hI1).mono ?_
  rintro e w2 ⟨rfl, hI2, hb2⟩
  have hb2' : But [E.p] w w2 := hb1.trans hb2 (by simp)
  have hL2 := hL.stays h (hb2'.mono (by simp)) (fun _ hx => .inl hx) (fun _ hx => .inl hx)
  have hb2L : But (mayL E b r nv) w w2 := But.toL (hb2'.mono (by simp))
  clear hb1 hb2 hI1
  simp only at hI2 ⊢
  by_cases hcl : kindAt E.s (skipBl E.s (t.k + 1)) = closing
  · have HM : Hid (bracketsM E.s fl isMap closing t = .ok ([], []) { t with k := skipBl E.s (t.k + 1) + 1 }) := by unfold Hid bracketsM; simp only; rw [if_pos hcl]
    have hlt : skipBl E.s (t.k + 1) < E.s.size := kindAt_lt (by omega)
    have hbq : (kindAt E.s (skipBl E.s (t.k + 1)) == closing) = true := by simp [hcl]
    generalize kindAt E.s (skipBl E.s (t.k + 1)) = kq at *
    clear hcl
    go_wp2_with fail
    refine (pskip_any E hE _ nv rows w2 hI2 hlt).mono ?_
    rintro e w3 ⟨rfl, hI3, hb3⟩
    go_wp2_with fail
    go_ret
    rw [HM.out]
    refine ⟨rfl, nv, rows, r.kv, r.pv, hI3, ?_, ?_, fun _ hx => .inl hx, fun _ hx => .inl hx, fun _ hx => .inl hx⟩
    · have hL3 := hL2.stays hI2 (hb3.mono (by simp)) (fun _ hx => .inl hx) (fun _ hx => .inl hx)
      obtain ⟨⟨kd, tx, ks, ps, hi, he⟩, kv, pv⟩ := r
      simp only at hrk hrp
      subst hrk hrp
      exact hL3
    · exact hb2L.transL (r1 := r) (But.toL (hb3.mono (by simp))) (fun _ hx => .inl hx) (fun _ hx => .inl hx)
  · have HM : Hid (bracketsM E.s fl isMap closing t = inLoop E.s fl isMap closing (E.s.size + 1) [] [] { t with k := skipBl E.s (t.k + 1) }) := by unfold Hid bracketsM; simp only; rw [if_neg hcl]
    have hbq : (kindAt E.s (skipBl E.s (t.k + 1)) == closing) = false := by simp [hcl]
    generalize kindAt E.s (skipBl E.s (t.k + 1)) = kq at *
    clear hcl
    go_wp2_with fail
    go_loopg [] (E.s.size + 1) (fun gk wr => ∃ t1 nv1 rows1 kv1 pv1 keys parts, bracketsM E.s fl isMap closing t = inLoop E.s fl isMap closing gk keys parts t1 ∧ E.s.size < gk + t1.k ∧ PInv E t1 nv1 rows1 wr ∧
      LInv E b ⟨{ r.n with keys := keys, parts := parts }, kv1, pv1⟩ nv1 rows1 wr ∧ But (mayL E b r nv) w wr ∧ (∀ x ∈ own nv1, x ∈ own nv ∨ w.heap.size ≤ x) ∧ (∀ x ∈ pub rows1, x ∈ pub rows ∨ w.heap.size ≤ x) ∧ (∀ x ∈ own kv1 ++ own pv1, x ∈ r.pub ∨ w.heap.size ≤ x) ∧
      keys.length ≤ t1.k ∧ parts.length ≤ t1.k)
    case atStart =>
      refine ⟨_, nv, rows, r.kv, r.pv, [], [], HM.out, by simp only; omega, hI2, ?_, hb2L, fun _ hx => .inl hx, fun _ hx => .inl hx, fun _ hx => .inl hx, by simp, by simp⟩
      obtain ⟨⟨kd, tx, ks, ps, hi, he⟩, kv, pv⟩ := r
      simp only at hrk hrp
      subst hrk hrp
      exact hL2
    case round =>
      obtain ⟨t1, nv1, rows1, kv1, pv1, keys, parts, hm, hgk, hI, hLL, hb, ho, hq, hr, hkl, hpl⟩ := hrel
      obtain ⟨m, rfl⟩ : ∃ m, gk = m + 1 := ⟨gk - 1, by have := hI.wf.k; omega⟩
      have HM1 : Hid _ := hm
      clear hm HM hL hL2 hI2 hb2L hb2' h
      have ck : wr.cell? ⟨b, 0, none⟩ = some (.int .i64 (r.n.kind : Int)) := hLL.blk.cell rfl
      rw [hkind] at ck
      cases isMap with
      | true =>
        have hdk : ((2 : Int) == 2) = true := rfl
        go_wp2_with fail
        refine (key_any E hE t1 nv1 rows1 b _ wr hI hLL hkl).mono ?_
        intro e w2 hp2
        cases hm : keyM E.s keys t1 with
        | bad er pl =>
          rw [hm] at hp2
          obtain ⟨rfl, hbad⟩ := hp2
          have HM : Hid (bracketsM E.s fl true closing t = .bad er pl) := by unfold Hid; rw [HM1.out]; unfold inLoop; simp only [if_true]; rw [hm]; rfl
          clear hm
          go_wp2_with fail
          go_ret
          rw [HM.out]
          exact ⟨rfl, BadL.trans (r1 := ⟨{ r.n with keys := keys, parts := parts }, kv1, pv1⟩) hb ho hr hbad⟩
        | ok keys2 t2 =>
          rw [hm] at hp2
          obtain ⟨rfl, hg2⟩ := hp2
          have s2 := keyM_ok hI.wf hm
          have l2 := keyM_len hm
          have HM2 : Hid (bracketsM E.s fl true closing t = (fl t2).bind fun x t3 => if kindAt E.s (skipBl E.s t3.k) = 6 then inLoop E.s fl true closing m keys2 (parts ++ [x]) { t3 with k := skipBl E.s t3.k + 1 } else (expectM E.s closing { t3 with k := skipBl E.s t3.k }).bind fun _ t4 => .ok (keys2, parts ++ [x]) t4) := by
            unfold Hid; rw [HM1.out]; conv => lhs; unfold inLoop
            simp only [if_true]; rw [hm]; rfl
          obtain ⟨nv2, rows2, kv2, pv2, hI2, hL2, hb2, ho2, hq2, hr2⟩ := GoodL.trans (r1 := ⟨{ r.n with keys := keys, parts := parts }, kv1, pv1⟩) hb ho hq hr hg2
          have hk2 : keys2.length ≤ t2.k := by have := s2.2; omega
          have hp2 : parts.length ≤ t2.k := by have := s2.2; omega
          have hkm : t1.k ≤ t2.k := s2.1.k
          have HG : Hid (E.s.size < m + 1 + t1.k) := hgk
          clear hm hg2 HM1 hb ho hq hr hI hLL hkl hpl s2 l2 hgk ck
          go_wp2_with fail
          clear hdk
          refine (hfs t2 nv2 rows2 w2 hI2).mono ?_
          rintro e w3 ⟨z, hp3⟩
          cases hm : fl t2 with
          | bad er pl =>
            rw [hm] at hp3
            obtain ⟨rfl, hbad⟩ := hp3
            have HM : Hid (bracketsM E.s fl true closing t = .bad er pl) := by unfold Hid; rw [HM2.out, hm]; rfl
            clear hm
            go_wp2_with fail
            go_ret
            rw [HM.out]
            exact ⟨rfl, BadL.trans (r1 := ⟨{ r.n with keys := keys2, parts := parts }, kv2, pv2⟩) hb2 ho2 hr2 hbad.toL⟩
          | ok x t3 =>
            rw [hm] at hp3
            obtain ⟨rfl, nv3, rows3, hI3, hb3, ho3, hq3⟩ := hp3
            obtain ⟨s3, n3, _⟩ := hfo t2 t3 x hI2.wf (by omega) hm
            have hL3 := hL2.stays hI2 hb3 ho3 hq3
            have HM3 : Hid (bracketsM E.s fl true closing t = if kindAt E.s (skipBl E.s t3.k) = 6 then inLoop E.s fl true closing m keys2 (parts ++ [x]) { t3 with k := skipBl E.s t3.k + 1 } else (expectM E.s closing { t3 with k := skipBl E.s t3.k }).bind fun _ t4 => .ok (keys2, parts ++ [x]) t4) := by unfold Hid; rw [HM2.out, hm]; rfl
            have hk3 := s3.k
            have hb3L : But (mayL E b r nv) w w3 := hb2.transL (r1 := ⟨{ r.n with keys := keys2, parts := parts }, kv2, pv2⟩) hb3.toL ho2 hr2
            have ho3' : ∀ y ∈ own nv3, y ∈ own nv ∨ w.heap.size ≤ y := fun y hy => by
              rcases ho3 y hy with h1 | h1
              · exact ho2 y h1
              · exact .inr (Nat.le_trans hb2.size h1)
            have hq3' : ∀ y ∈ pub rows3, y ∈ pub rows ∨ w.heap.size ≤ y := fun y hy => by
              rcases hq3 y hy with h1 | h1
              · exact hq2 y h1
              · exact .inr (Nat.le_trans hb2.size h1)
            clear hm HM2 hb3 ho3 hq3 hI2 hL2 hb2 ho2 hq2
            have cp : w3.cell? ⟨b, 3, none⟩ = some pv2 := hL3.blk.cell rfl
            have hbase := hI3.base
            have hw3 := hI3.wf.k
            go_wp2_with (at_builtin; refine wpList_append_own_at _ rfl _ _ 42 rfl E.base 3 i0 (.int .i64 0) 1 8 undInts hi hz0 hz1 hz2 rfl (by decide) _ _ _ rfl (hL3.ok.2.alloc _) ⟨w3.heap.size, 0, none⟩ 1 1 [.int .i64 (x : Int)] rfl rfl (cells_new w3 _ _ _ rfl) (fun u hu => by simp at hu; subst hu; rfl) (by unfold maxLen; simp only; omega) (by simp only; omega) (by simp; omega) ?_)
            intro v' w4 hown hgrow _ hloc
            obtain ⟨hB4, hI5, hL5, hb5, hv5⟩ := hL3.pushPart hI3 hown hgrow (hloc.imp Eq.symm (fun e => by rw [e]; simp))
            have hshape : ∃ a n c, v' = .slice a n c := by
              rcases hown.2 with ⟨e, _⟩ | ⟨g, cap, cur, e, _⟩
              · exact ⟨_, _, _, e⟩
              · exact ⟨_, _, _, e⟩
            obtain ⟨a, n, c, rfl⟩ := hshape
            have ck4 : w4.cell? ⟨b, 3, none⟩ = some pv2 := hB4.cell rfl
            have fk4 : w4.frozen? ⟨b, 3, none⟩ = false := hB4.free 3
            clear hown hgrow hloc hB4 cp
            go_wp2_with fail
            refine (ppeek_any E hE t3 nv3 rows3 _ hI5).mono ?_
            rintro e w6 ⟨rfl, hI6, hb6⟩
            have hL6 := hL5.stays hI5 (hb6.mono (by simp)) (fun _ hx => .inl hx) (fun _ hx => .inl hx)
            have hr5 : ∀ y ∈ own kv2 ++ own (Value.slice a n c), y ∈ r.pub ∨ w.heap.size ≤ y := fun y hy => by
              rcases List.mem_append.1 hy with hy | hy
              · exact hr2 y (List.mem_append.2 (.inl hy))
              · rcases hv5 y hy with h1 | h1
                · exact hr2 y (List.mem_append.2 (.inr h1))
                · exact .inr (Nat.le_trans hb3L.size h1)
            have hb6L : But (mayL E b r nv) w w6 := (hb3L.trans hb5 (fun y hy => by
              rw [mayL_mem]
              rcases List.mem_cons.1 hy with hy | hy
              · exact .inl (.inr (.inr (.inr (.inl hy))))
              · rcases hr2 y (List.mem_append.2 (.inr hy)) with h1 | h1
                · exact .inl (.inr (.inr (.inr (.inr (.inr h1)))))
                · exact .inr h1)).transL (r1 := r) (But.toL (hb6.mono (by simp))) (fun _ hx => .inl hx) (fun _ hx => .inl hx)
            clear hI5 hL5 hb5 hb6 hb3L hv5
            have hsk := skipBl_ge E.s t3.k
            by_cases h6 : kindAt E.s (skipBl E.s t3.k) = 6
            · have HM : Hid _ := HM3.out.trans (if_pos h6)
              have hlt : skipBl E.s t3.k < E.s.size := kindAt_lt (by omega)
              have hbq : (kindAt E.s (skipBl E.s t3.k) != 6) = false := by simp [h6]
              generalize kindAt E.s (skipBl E.s t3.k) = kq3 at *
              clear h6 HM3
              go_wp2_with fail
              refine (pskip_any E hE _ nv3 rows3 w6 hI6 hlt).mono ?_
              rintro e w7 ⟨rfl, hI7, hb7⟩
              have hL7 := hL6.stays hI6 (hb7.mono (by simp)) (fun _ hx => .inl hx) (fun _ hx => .inl hx)
              go_wp2_with fail
              go_roundg m
              case measure => omega
              case rel => exact ⟨_, nv3, rows3, kv2, _, keys2, parts ++ [x], HM.out, by have := HG.out; simp only; omega, hI7, hL7, hb6L.transL (r1 := r) (But.toL (hb7.mono (by simp))) (fun _ hx => .inl hx) (fun _ hx => .inl hx), ho3', hq3', hr5, by simp only; omega, by simp; omega⟩
            · have HM4 : Hid _ := HM3.out.trans (if_neg h6)
              have hbq : (kindAt E.s (skipBl E.s t3.k) != 6) = true := by simp [h6]
              generalize kindAt E.s (skipBl E.s t3.k) = kq3 at *
              clear h6 HM3
              go_wp2_with fail
              refine (expect_any E hE _ nv3 rows3 w6 hI6 closing hc).mono ?_
              intro e w7 hp7
              cases hx : expectM E.s closing { t3 with k := skipBl E.s t3.k } with
              | bad er pl =>
                rw [hx] at hp7
                obtain ⟨rfl, hbad⟩ := hp7
                have HM : Hid (bracketsM E.s fl true closing t = .bad er pl) := by unfold Hid; rw [HM4.out, hx]; rfl
                clear hx
                go_wp2_with fail
                go_ret
                rw [HM.out]
                exact ⟨rfl, BadL.trans (r1 := ⟨{ r.n with keys := keys2, parts := parts ++ [x] }, kv2, .slice a n c⟩) hb6L ho3' hr5 hbad.toL⟩
              | ok u t4 =>
                rw [hx] at hp7
                obtain ⟨rfl, nv7, rows7, hI7, hb7, ho7, hq7⟩ := hp7
                have HM : Hid (bracketsM E.s fl true closing t = .ok (keys2, parts ++ [x]) t4) := by unfold Hid; rw [HM4.out, hx]; rfl
                clear hx
                have hL7 := hL6.stays hI6 hb7 ho7 hq7
                go_wp2_with fail
                go_ret
                rw [HM.out]
                exact ⟨rfl, GoodL.trans (r1 := ⟨{ r.n with keys := keys2, parts := parts ++ [x] }, kv2, .slice a n c⟩) hb6L ho3' hq3' hr5 ⟨nv7, rows7, _, _, hI7, hL7, hb7.toL, ho7, hq7, fun y hy => .inl hy⟩⟩

      | false =>
        have hdk : ((1 : Int) == 2) = false := rfl
        obtain ⟨t2, nv2, rows2, kv2, pv2, keys2, w2, hI2, hL2, hb2, ho2, hq2, hr2, hk2, hp2, hkm, HM2, e2⟩ : ∃ t2 nv2 rows2 kv2 pv2 keys2 w2, PInv E t2 nv2 rows2 w2 ∧ LInv E b ⟨{ r.n with keys := keys2, parts := parts }, kv2, pv2⟩ nv2 rows2 w2 ∧ But (mayL E b r nv) w w2 ∧ (∀ x ∈ own nv2, x ∈ own nv ∨ w.heap.size ≤ x) ∧ (∀ x ∈ pub rows2, x ∈ pub rows ∨ w.heap.size ≤ x) ∧
            (∀ x ∈ own kv2 ++ own pv2, x ∈ r.pub ∨ w.heap.size ≤ x) ∧ keys2.length ≤ t2.k ∧ parts.length ≤ t2.k ∧ t1.k ≤ t2.k ∧
            Hid (bracketsM E.s fl false closing t = (fl t2).bind fun x t3 => if kindAt E.s (skipBl E.s t3.k) = 6 then inLoop E.s fl false closing m keys2 (parts ++ [x]) { t3 with k := skipBl E.s t3.k + 1 } else (expectM E.s closing { t3 with k := skipBl E.s t3.k }).bind fun _ t4 => .ok (keys2, parts ++ [x]) t4) ∧ Hid (w2 = wr) := by
          refine ⟨t1, nv1, rows1, kv1, pv1, keys, wr, hI, hLL, hb, ho, hq, hr, hkl, hpl, Nat.le_refl _, ?_, rfl⟩
          unfold Hid; rw [HM1.out]; conv => lhs; unfold inLoop
          rfl
        have HG : Hid (E.s.size < m + 1 + t1.k) := hgk
        have ck2 : w2.cell? ⟨b, 0, none⟩ = some (.int .i64 1) := by rw [e2.out]; exact ck
        rw [← e2.out] at *
        clear HM1 hb ho hq hr hI hLL hkl hpl hgk ck e2
        go_wp2_with fail
        refine (hfs t2 nv2 rows2 w2 hI2).mono ?_
        rintro e w3 ⟨z, hp3⟩
        cases hm : fl t2 with
        | bad er pl =>
          rw [hm] at hp3
          obtain ⟨rfl, hbad⟩ := hp3
          have HM : Hid (bracketsM E.s fl false closing t = .bad er pl) := by unfold Hid; rw [HM2.out, hm]; rfl
          clear hm
          go_wp2_with fail
          go_ret
          rw [HM.out]
          exact ⟨rfl, BadL.trans (r1 := ⟨{ r.n with keys := keys2, parts := parts }, kv2, pv2⟩) hb2 ho2 hr2 hbad.toL⟩
        | ok x t3 =>
          rw [hm] at hp3
          obtain ⟨rfl, nv3, rows3, hI3, hb3, ho3, hq3⟩ := hp3
          obtain ⟨s3, n3, _⟩ := hfo t2 t3 x hI2.wf (by omega) hm
          have hL3 := hL2.stays hI2 hb3 ho3 hq3
          have HM3 : Hid (bracketsM E.s fl false closing t = if kindAt E.s (skipBl E.s t3.k) = 6 then inLoop E.s fl false closing m keys2 (parts ++ [x]) { t3 with k := skipBl E.s t3.k + 1 } else (expectM E.s closing { t3 with k := skipBl E.s t3.k }).bind fun _ t4 => .ok (keys2, parts ++ [x]) t4) := by unfold Hid; rw [HM2.out, hm]; rfl
          have hk3 := s3.k
          have hb3L : But (mayL E b r nv) w w3 := hb2.transL (r1 := ⟨{ r.n with keys := keys2, parts := parts }, kv2, pv2⟩) hb3.toL ho2 hr2
          have ho3' : ∀ y ∈ own nv3, y ∈ own nv ∨ w.heap.size ≤ y := fun y hy => by
            rcases ho3 y hy with h1 | h1
            · exact ho2 y h1
            · exact .inr (Nat.le_trans hb2.size h1)
          have hq3' : ∀ y ∈ pub rows3, y ∈ pub rows ∨ w.heap.size ≤ y := fun y hy => by
            rcases hq3 y hy with h1 | h1
            · exact hq2 y h1
            · exact .inr (Nat.le_trans hb2.size h1)
          clear hm HM2 hb3 ho3 hq3 hI2 hL2 hb2 ho2 hq2
          have cp : w3.cell? ⟨b, 3, none⟩ = some pv2 := hL3.blk.cell rfl
          have hbase := hI3.base
          have hw3 := hI3.wf.k
          go_wp2_with (at_builtin; refine wpList_append_own_at _ rfl _ _ 42 rfl E.base 3 i0 (.int .i64 0) 1 8 undInts hi hz0 hz1 hz2 rfl (by decide) _ _ _ rfl (hL3.ok.2.alloc _) ⟨w3.heap.size, 0, none⟩ 1 1 [.int .i64 (x : Int)] rfl rfl (cells_new w3 _ _ _ rfl) (fun u hu => by simp at hu; subst hu; rfl) (by unfold maxLen; simp only; omega) (by simp only; omega) (by simp; omega) ?_)
          intro v' w4 hown hgrow _ hloc
          obtain ⟨hB4, hI5, hL5, hb5, hv5⟩ := hL3.pushPart hI3 hown hgrow (hloc.imp Eq.symm (fun e => by rw [e]; simp))
          have hshape : ∃ a n c, v' = .slice a n c := by
            rcases hown.2 with ⟨e, _⟩ | ⟨g, cap, cur, e, _⟩
            · exact ⟨_, _, _, e⟩
            · exact ⟨_, _, _, e⟩
          obtain ⟨a, n, c, rfl⟩ := hshape
          have ck4 : w4.cell? ⟨b, 3, none⟩ = some pv2 := hB4.cell rfl
          have fk4 : w4.frozen? ⟨b, 3, none⟩ = false := hB4.free 3
          clear hown hgrow hloc hB4 cp
          go_wp2_with fail
          refine (ppeek_any E hE t3 nv3 rows3 _ hI5).mono ?_
          rintro e w6 ⟨rfl, hI6, hb6⟩
          have hL6 := hL5.stays hI5 (hb6.mono (by simp)) (fun _ hx => .inl hx) (fun _ hx => .inl hx)
          have hr5 : ∀ y ∈ own kv2 ++ own (Value.slice a n c), y ∈ r.pub ∨ w.heap.size ≤ y := fun y hy => by
            rcases List.mem_append.1 hy with hy | hy
            · exact hr2 y (List.mem_append.2 (.inl hy))
            · rcases hv5 y hy with h1 | h1
              · exact hr2 y (List.mem_append.2 (.inr h1))
              · exact .inr (Nat.le_trans hb3L.size h1)
          have hb6L : But (mayL E b r nv) w w6 := (hb3L.trans hb5 (fun y hy => by
            rw [mayL_mem]
            rcases List.mem_cons.1 hy with hy | hy
            · exact .inl (.inr (.inr (.inr (.inl hy))))
            · rcases hr2 y (List.mem_append.2 (.inr hy)) with h1 | h1
              · exact .inl (.inr (.inr (.inr (.inr (.inr h1)))))
              · exact .inr h1)).transL (r1 := r) (But.toL (hb6.mono (by simp))) (fun _ hx => .inl hx) (fun _ hx => .inl hx)
          clear hI5 hL5 hb5 hb6 hb3L hv5
          have hsk := skipBl_ge E.s t3.k
          by_cases h6 : kindAt E.s (skipBl E.s t3.k) = 6
          · have HM : Hid _ := HM3.out.trans (if_pos h6)
            have hlt : skipBl E.s t3.k < E.s.size := kindAt_lt (by omega)
            have hbq : (kindAt E.s (skipBl E.s t3.k) != 6) = false := by simp [h6]
            generalize kindAt E.s (skipBl E.s t3.k) = kq3 at *
            clear h6 HM3
            go_wp2_with fail
            refine (pskip_any E hE _ nv3 rows3 w6 hI6 hlt).mono ?_
            rintro e w7 ⟨rfl, hI7, hb7⟩
            have hL7 := hL6.stays hI6 (hb7.mono (by simp)) (fun _ hx => .inl hx) (fun _ hx => .inl hx)
            go_wp2_with fail
            go_roundg m
            case measure => omega
            case rel => exact ⟨_, nv3, rows3, kv2, _, keys2, parts ++ [x], HM.out, by have := HG.out; simp only; omega, hI7, hL7, hb6L.transL (r1 := r) (But.toL (hb7.mono (by simp))) (fun _ hx => .inl hx) (fun _ hx => .inl hx), ho3', hq3', hr5, by simp only; omega, by simp; omega⟩
          · have HM4 : Hid _ := HM3.out.trans (if_neg h6)
            have hbq : (kindAt E.s (skipBl E.s t3.k) != 6) = true := by simp [h6]
            generalize kindAt E.s (skipBl E.s t3.k) = kq3 at *
            clear h6 HM3
            go_wp2_with fail
            refine (expect_any E hE _ nv3 rows3 w6 hI6 closing hc).mono ?_
            intro e w7 hp7
            cases hx : expectM E.s closing { t3 with k := skipBl E.s t3.k } with
            | bad er pl =>
              rw [hx] at hp7
              obtain ⟨rfl, hbad⟩ := hp7
              have HM : Hid (bracketsM E.s fl false closing t = .bad er pl) := by unfold Hid; rw [HM4.out, hx]; rfl
              clear hx
              go_wp2_with fail
              go_ret
              rw [HM.out]
              exact ⟨rfl, BadL.trans (r1 := ⟨{ r.n with keys := keys2, parts := parts ++ [x] }, kv2, .slice a n c⟩) hb6L ho3' hr5 hbad.toL⟩
            | ok u t4 =>
              rw [hx] at hp7
              obtain ⟨rfl, nv7, rows7, hI7, hb7, ho7, hq7⟩ := hp7
              have HM : Hid (bracketsM E.s fl false closing t = .ok (keys2, parts ++ [x]) t4) := by unfold Hid; rw [HM4.out, hx]; rfl
              clear hx
              have hL7 := hL6.stays hI6 hb7 ho7 hq7
              go_wp2_with fail
              go_ret
              rw [HM.out]
              exact ⟨rfl, GoodL.trans (r1 := ⟨{ r.n with keys := keys2, parts := parts ++ [x] }, kv2, .slice a n c⟩) hb6L ho3' hq3' hr5 ⟨nv7, rows7, _, _, hI7, hL7, hb7.toL, ho7, hq7, fun y hy => .inl hy⟩⟩



end Go.Proofs.YtkflkmmbakccoaaGreatDoor

/- THE PARSER IN MEMORY: a node of one's own: made, its kind, its text; handed over. -/
namespace Go.Proofs.YtkflkmmbakccoaaGreatDoor
open Go.RowKit Go.Maps

theorem LInv.made {E : Env} {t : PS} {nv : Value} {rows : List Row} {w : World} (h : PInv E t nv rows w) (n : NodeV) (hk : n.keys = []) (hp : n.parts = []) :
    PInv E t nv rows (w.alloc (.cells (Row.cells ⟨n, .slice none 0 0, .slice none 0 0⟩).toArray 79)) ∧ LInv E w.heap.size ⟨n, .slice none 0 0, .slice none 0 0⟩ nv rows (w.alloc (.cells (Row.cells ⟨n, .slice none 0 0, .slice none 0 0⟩).toArray 79)) := by
  refine ⟨h.frame (alloc_but _ _) (by simp), ⟨heap_alloc_new w _, ⟨⟨by simp [hk], .inl ⟨rfl, by simp [hk]⟩⟩, ⟨by simp [hp], .inl ⟨rfl, by simp [hp]⟩⟩⟩, fun hx => ?_, fun x hx => by simp [Row.pub, own] at hx⟩⟩
  have := h.foot_lt (x := w.heap.size) (by simp only [foot, List.mem_cons, List.mem_append]; exact .inr (.inr (.inr (.inl hx))))
  omega

theorem LInv.setKind {E : Env} {t : PS} {nv : Value} {rows : List Row} {b : Nat} {r : Row} {w : World} (hL : LInv E b r nv rows w) (h : PInv E t nv rows w) (k : Nat) :
    PInv E t nv rows (w.setCell ⟨b, 0, none⟩ (.int .i64 (k : Int))) ∧ LInv E b ⟨{ r.n with kind := k }, r.kv, r.pv⟩ nv rows (w.setCell ⟨b, 0, none⟩ (.int .i64 (k : Int))) := by
  have hb : But [b] w (w.setCell ⟨b, 0, none⟩ (.int .i64 (k : Int))) := (But.refl _ _).setCell (by simp) _
  have hn := hL.b_not h
  refine ⟨h.frame hb (fun x hx => by have := List.mem_singleton.1 hx; subst this; exact hn.1), ⟨?_, ?_, hL.nb, hL.apart⟩⟩
  · have := hL.blk.set 0 (.int .i64 (k : Int))
    simpa [Row.cells] using this
  · exact RowOk.but (r := ⟨{ r.n with kind := k }, r.kv, r.pv⟩) hL.ok hb (fun x hx hy => by have := List.mem_singleton.1 hy; subst this; exact hn.2 hx)

theorem LInv.setText {E : Env} {t : PS} {nv : Value} {rows : List Row} {b : Nat} {r : Row} {w : World} (hL : LInv E b r nv rows w) (h : PInv E t nv rows w) (x : ByteArray) :
    PInv E t nv rows (w.setCell ⟨b, 1, none⟩ (.string x)) ∧ LInv E b ⟨{ r.n with text := x }, r.kv, r.pv⟩ nv rows (w.setCell ⟨b, 1, none⟩ (.string x)) := by
  have hb : But [b] w (w.setCell ⟨b, 1, none⟩ (.string x)) := (But.refl _ _).setCell (by simp) _
  have hn := hL.b_not h
  refine ⟨h.frame hb (fun y hx => by have := List.mem_singleton.1 hx; subst this; exact hn.1), ⟨?_, ?_, hL.nb, hL.apart⟩⟩
  · have := hL.blk.set 1 (.string x)
    simpa [Row.cells] using this
  · exact RowOk.but (r := ⟨{ r.n with text := x }, r.kv, r.pv⟩) hL.ok hb (fun y hx hy => by have := List.mem_singleton.1 hy; subst this; exact hn.2 hx)

theorem pub_set {rows : List Row} {id : Nat} {r : Row} {x : Nat} (h : x ∈ pub (rows.set id r)) : x ∈ pub rows ∨ x ∈ r.pub := by
  simp only [pub, List.mem_flatMap] at h ⊢
  obtain ⟨q, hq, hx⟩ := h
  rcases List.mem_or_eq_of_mem_set hq with hq | rfl
  · exact .inl ⟨q, hq, hx⟩
  · exact .inr hx

/-- What was done with a node of one's own (made at w's end), seen from ahead of its making. -/
theorem mayL_fresh {E : Env} {nv : Value} {r : Row} {w : World} {b : Nat} (hbz : w.heap.size ≤ b) (hr : r.pub = []) : ∀ x ∈ mayL E b r nv, x ∈ E.p :: E.g :: E.m :: own nv ∨ w.heap.size ≤ x := by
  intro x hx
  rw [mayL_mem] at hx
  simp only [List.mem_cons]
  rcases hx with hx | hx | hx | hx | hx | hx
  · exact .inl (.inl hx)
  · exact .inl (.inr (.inl hx))
  · exact .inl (.inr (.inr (.inl hx)))
  · right; omega
  · exact .inl (.inr (.inr (.inr hx)))
  · rw [hr] at hx; cases hx

/-- A node's end, seen from ahead of the making of the node of one's own. -/
theorem Good.ended {E : Env} {nv nv1 : Value} {rows rows1 : List Row} {w w1 w2 : World} {t1 t2 : PS} {id : Nat} {r : Row} (hb : But (E.p :: E.g :: E.m :: own nv) w w1) (ho : ∀ x ∈ own nv1, x ∈ own nv ∨ w.heap.size ≤ x) (hp : ∀ x ∈ pub rows1, x ∈ pub rows ∨ w.heap.size ≤ x)
    (hr : ∀ x ∈ r.pub, w.heap.size ≤ x) (hI : PInv E t2 nv1 (rows1.set id r) w2) (hb2 : But (own nv1) w1 w2) (_h1 : PInv E t1 nv1 rows1 w1) : Good E nv rows w t2 w2 := by
  refine ⟨nv1, _, hI, hb.trans hb2 (fun x hx => ?_), ho, fun x hx => ?_⟩
  · rcases ho x hx with h1 | h1
    · exact .inl (by simp [h1])
    · exact .inr h1
  · rcases pub_set hx with h1 | h1
    · exact hp x h1
    · exact .inr (hr x h1)

end Go.Proofs.YtkflkmmbakccoaaGreatDoor
