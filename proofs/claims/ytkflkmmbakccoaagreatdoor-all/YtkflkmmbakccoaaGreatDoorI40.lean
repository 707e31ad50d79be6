/- PARTS: T4, T5, T7. -/
import Derived.Test.YtkflkmmbakccoaaGreatDoorI29
import Derived.Test.YtkflkmmbakccoaaGreatDoorI39
import Derived.Test.YtkflkmmbakccoaaGreatDoorI33
import Derived.Stop.LaidErr
import Derived.Lib.LaidTab
import Derived.MakeChecks

/- WALKS: package grafterlaw: plays, Tells. -/
namespace Go.Proofs.YtkflkmmbakccoaaGreatDoor
open Go.RowKit Go.Maps

/-- What the walk asks of a script whose paths are read too. -/
structure ScriptT (w : World) (v : Value) (steps : List StepC) : Prop where
  s : Script w v steps
  p : ∀ c ∈ steps, ∃ path, PathOk w (.slice c.pa c.pn c.pc) path

theorem lstep4_any {w0 : World} {wb : Nat} {ps : List (Nat × Nat)} {lv : Value} {w : World} (hW : WOk w0 wb ps lv w) (kd e n : Int) (hkd : kd ≤ 4) (he : -9223372036854775808 ≤ e) (he2 : e ≤ 9223372036854775807) (s : ByteArray) (hs : s.size ≤ 9223372036854775807) (B : Bud) (pa : Option Addr) (pn pc : Nat)
    (N0 : Nat) (hT : Tabs N0 w0) (hN0 : N0 ≤ w0.heap.size) (path : List ByteArray) (hP : PathOk w (.slice pa pn pc) path) (hn : ps.length + 1 ≤ 8000000000000) :
    Calls Tryz.prog 25 #[.pointer (some ⟨wb, 0, none⟩), stepV kd e n s B (.slice pa pn pc)] w fun r w' => LPost w0 wb (ps.length + stepN kd s B) r w' := by
  by_cases h2 : kd ≤ 2
  · exact lstep_any hW kd e n h2 he he2 s hs B pa pn pc hn
  · have hz : stepN kd s B = 0 := by unfold stepN; rw [if_neg (by omega)]
    rw [hz]
    exact lstepT_of hW kd e n (by omega) (fun h => by omega) he he2 s B pa pn pc N0 (hT.below (hW.but.below hN0 (by simp))) (Nat.le_trans hN0 hW.but.size) path hP hn

/-- A path of one word, as it is laid. -/
theorem path_one (w : World) (x : ByteArray) (hx : x.size ≤ 281474976710656) : PathOk (w.alloc (.cells #[.string x] 9)) (.slice (some ⟨w.heap.size, 0, none⟩) 1 1) [x] := by
  refine ⟨⟨_, _, rfl, Nat.le_refl _, fun _ => ⟨_, 0, rfl, by simp, fun i hi => ?_⟩⟩, fun y hy => by rw [List.mem_singleton.1 hy]; exact hx, by simp⟩
  have h0 : i = 0 := by simp at hi; omega
  subst h0
  exact (blk_new w _ _).cell rfl

theorem path_none (w : World) : PathOk w (.slice none 0 0) [] := ⟨⟨_, _, rfl, Nat.le_refl _, (fun h => by simp at h)⟩, (fun y hy => by cases hy), (by simp)⟩

set_option maxRecDepth 20000 in
set_option maxHeartbeats 8000000 in
theorem lplaysT_any {w : World} {v : Value} {steps : List StepC} (hST : ScriptT w v steps) (N0 : Nat) (hT : Tabs N0 w) (hN0 : N0 ≤ w.heap.size) :
    Calls Tryz.prog 12 #[v, .int .i64 4] w fun e w' => e = .returned (.bool true) ∧ But [] w w' := by
  have hS := hST.s
  have HTB : Hid (Tabs N0 w) := hT
  have HPP : Hid (∀ c ∈ steps, ∃ path, PathOk w (.slice c.pa c.pn c.pc) path) := hST.p
  have hW0 : WOk w w.heap.size [] (.slice none 0 0) (w.alloc (.cells #[.slice none 0 0] 53)) := ⟨blk_new _ _ _, ⟨rfl, .inl ⟨rfl, rfl⟩⟩, (fun p hp => by cases hp), alloc_but _ _, Nat.le_refl _⟩
  have HS0 : Hid _ := lstep4_any hW0 1 0 0 (by omega) (by omega) (by omega) text0 (by decide +kernel) bud0 none 0 0 N0 hT hN0 [] (path_none _) (by simp)
  have HN0 : Hid (stepN 1 text0 bud0 = 1) := by unfold Hid stepN; rw [if_pos rfl]; exact load0
  obtain ⟨va, vcap, hv, hvc, _⟩ := hS.shape
  subst hv
  have hlen := hS.len
  have HSC : Hid _ := hS
  clear hS hST hT
  go_enter Tryz.func12, Tryz.ntmps12
  go_wp2_with fail
  refine Calls.mono HS0.out ?_
  rintro e w1 ⟨rfl, ps1, lv1, hW1, hl1⟩
  rw [HN0.out] at hl1
  obtain ⟨la, lcap, hlv, hlc⟩ := own_shape hW1.row
  subst hlv
  have c0 : w1.cell? ⟨w.heap.size, 0, none⟩ = some (.slice la ps1.length lcap) := hW1.blk.cell rfl
  have hne : ((ps1.length : Int) != 1) = false := by simp at hl1; simp [hl1]
  have hle1 : ps1.length ≤ 1 := by simp at hl1; omega
  clear HS0 hW0 hl1
  go_wp2_with fail
  go_loopg [6, 7] (steps.length + 1) (fun gk okv iv wr => ∃ (i : Nat) (ps : List (Nat × Nat)) (lv : Value), gk = steps.length + 1 - i ∧ i ≤ steps.length ∧ okv = .bool true ∧ iv = .int .i64 (i : Int) ∧ WOk w w.heap.size ps lv wr ∧ ps.length ≤ i + 1)
  case atStart => exact ⟨0, ps1, _, rfl, Nat.zero_le _, rfl, rfl, hW1, by omega⟩
  case round =>
    obtain ⟨i, ps, lv, rfl, hi, rfl, rfl, hW2, hpl⟩ := hrel
    clear c0 hne
    by_cases hlt : i < steps.length
    · obtain ⟨sb, off, cap', ev, _, hcell⟩ := HSC.out.cell hlt
      obtain ⟨rfl, rfl⟩ : va = some ⟨sb, off, none⟩ ∧ vcap = cap' := by simpa using ev
      have hc := hcell wr hW2.but
      have k0 := hc 0 (by omega)
      have k1 := hc 1 (by omega)
      have k2 := hc 2 (by omega)
      have k3 := hc 3 (by omega)
      have k4 := hc 4 (by omega)
      have k5 := hc 5 (by omega)
      have k6 := hc 6 (by omega)
      have k7 := hc 7 (by omega)
      have k8 := hc 8 (by omega)
      have hmem : steps[i] ∈ steps := List.getElem_mem hlt
      have hce := HSC.out.e _ hmem
      have hcs := HSC.out.s _ hmem
      obtain ⟨pth, hpth⟩ := HPP.out _ hmem
      have hpth2 := hpth.still hW2.but
      clear hc hcell ev
      generalize steps[i] = c at *
      obtain ⟨kd, e, n, s, B, pa, pn, pc⟩ := c
      simp only [StepC.cells, List.getElem?_cons_succ, List.getElem?_cons_zero, Nat.add_zero] at k0 k1 k2 k3 k4 k5 k6 k7 k8 hce hcs hpth2
      by_cases hk : kd ≤ 4
      · have HST : Hid _ := lstep4_any hW2 kd e n hk hce.1 hce.2 s hcs B pa pn pc N0 HTB.out hN0 pth hpth2 (by omega)
        have HNN : Hid (stepN kd s B ≤ 1) := by
          unfold Hid stepN loadN
          split
          · split <;> omega
          · omega
        clear hpth hpth2
        go_wp2_with fail
        refine Calls.mono HST.out ?_
        rintro r w2 ⟨rfl, ps', lv', hW3, hl3⟩
        go_wp2_with fail
        go_roundg (steps.length + 1 - (i + 1))
        case measure => omega
        case rel => exact ⟨i + 1, ps', lv', rfl, by omega, rfl, by go_num, hW3, by have := HNN.out; omega⟩
      · clear hpth hpth2
        go_wp2_with fail
        go_roundg (steps.length + 1 - (i + 1))
        case measure => omega
        case rel => exact ⟨i + 1, ps, lv, rfl, by omega, rfl, by go_num, hW2, by omega⟩
    · have HW2 : Hid _ := hW2
      have hpl2 : ps.length ≤ steps.length + 1 := by omega
      clear hW2
      go_wp2_with fail
      go_loopg [6, 8, 9] (ps.length + 1) (fun gk okv iv _ wr2 => ∃ (j : Nat) (lv : Value) (ps2 : List (Nat × Nat)), gk = ps.length + 1 - j ∧ j ≤ ps.length ∧ okv = .bool true ∧ iv = .int .i64 (j : Int) ∧ WOk w w.heap.size ps2 lv wr2 ∧ ps2.length = ps.length)
      case atStart => exact ⟨0, lv, ps, rfl, Nat.zero_le _, rfl, rfl, HW2.out, rfl⟩
      case round =>
        obtain ⟨j, lv2, ps2, rfl, hj, rfl, rfl, hW3, hl3⟩ := hrel
        obtain ⟨la2, lcap2, hlv2, hlc2⟩ := own_shape hW3.row
        subst hlv2
        have c2 : wr.cell? ⟨w.heap.size, 0, none⟩ = some (.slice la2 ps2.length lcap2) := hW3.blk.cell rfl
        have HW3 : Hid _ := hW3
        clear hW3
        by_cases hlt2 : j < ps2.length
        · go_wp2_with fail
          go_loopg [6, 9] 4 (fun gk okv kv wr3 => ∃ (q : Nat) (lv : Value) (ps3 : List (Nat × Nat)), gk = 4 - q ∧ q ≤ 3 ∧ okv = .bool true ∧ kv = .int .i64 (2 + (q : Int)) ∧ WOk w w.heap.size ps3 lv wr3 ∧ ps3.length = ps.length)
          case atStart => exact ⟨0, _, ps2, rfl, by omega, rfl, rfl, HW3.out, hl3⟩
          case round =>
            obtain ⟨q, lv3, ps3, rfl, hq, rfl, rfl, hW4, hl4⟩ := hrel
            obtain rfl | rfl | rfl | rfl : q = 0 ∨ q = 1 ∨ q = 2 ∨ q = 3 := by omega
            · have hbs : But [] wr (wr.alloc (.cells #[.string ⟨#[50]⟩] 9)) := alloc_but _ _
              have HST : Hid _ := lstep4_any (hW4.still hbs) 2 (j : Int) 500 (by omega) (by omega) (by omega) ⟨#[]⟩ (by decide) ⟨0, 0, 0, 0⟩ (some ⟨wr.heap.size, 0, none⟩) 1 1 N0 HTB.out hN0 [⟨#[50]⟩] (path_one _ _ (by decide)) (by omega)
              have HNN : Hid (stepN 2 ⟨#[]⟩ ⟨0, 0, 0, 0⟩ = 0) := by unfold Hid stepN; rw [if_neg (by omega)]
              have hz : (2 : Int) + ((0 : Nat) : Int) = 2 := by omega
              rw [hz]
              clear hz
              go_wp2_with fail
              refine Calls.mono HST.out ?_
              rintro r w5 ⟨rfl, ps', lv', hW5, hl5⟩
              rw [HNN.out] at hl5
              go_wp2_with fail
              go_roundg 3
              case measure => omega
              case rel => exact ⟨1, lv', ps', rfl, by omega, rfl, by go_num, hW5, by omega⟩
            · have hbs : But [] wr (wr.alloc (.cells #[.string ⟨#[50]⟩] 9)) := alloc_but _ _
              have HST : Hid _ := lstep4_any (hW4.still hbs) 3 (j : Int) 500 (by omega) (by omega) (by omega) ⟨#[]⟩ (by decide) ⟨0, 0, 0, 0⟩ (some ⟨wr.heap.size, 0, none⟩) 1 1 N0 HTB.out hN0 [⟨#[50]⟩] (path_one _ _ (by decide)) (by omega)
              have HNN : Hid (stepN 3 ⟨#[]⟩ ⟨0, 0, 0, 0⟩ = 0) := by unfold Hid stepN; rw [if_neg (by omega)]
              have hz : (2 : Int) + ((1 : Nat) : Int) = 3 := by omega
              rw [hz]
              clear hz
              go_wp2_with fail
              refine Calls.mono HST.out ?_
              rintro r w5 ⟨rfl, ps', lv', hW5, hl5⟩
              rw [HNN.out] at hl5
              go_wp2_with fail
              go_roundg 2
              case measure => omega
              case rel => exact ⟨2, lv', ps', rfl, by omega, rfl, by go_num, hW5, by omega⟩
            · have hbs : But [] wr (wr.alloc (.cells #[.string ⟨#[50]⟩] 9)) := alloc_but _ _
              have HST : Hid _ := lstep4_any (hW4.still hbs) 4 (j : Int) 500 (by omega) (by omega) (by omega) ⟨#[]⟩ (by decide) ⟨0, 0, 0, 0⟩ (some ⟨wr.heap.size, 0, none⟩) 1 1 N0 HTB.out hN0 [⟨#[50]⟩] (path_one _ _ (by decide)) (by omega)
              have HNN : Hid (stepN 4 ⟨#[]⟩ ⟨0, 0, 0, 0⟩ = 0) := by unfold Hid stepN; rw [if_neg (by omega)]
              have hz : (2 : Int) + ((2 : Nat) : Int) = 4 := by omega
              rw [hz]
              clear hz
              go_wp2_with fail
              refine Calls.mono HST.out ?_
              rintro r w5 ⟨rfl, ps', lv', hW5, hl5⟩
              rw [HNN.out] at hl5
              go_wp2_with fail
              go_roundg 1
              case measure => omega
              case rel => exact ⟨3, lv', ps', rfl, by omega, rfl, by go_num, hW5, by omega⟩
            · have hz : (2 : Int) + ((3 : Nat) : Int) = 5 := by omega
              rw [hz]
              clear hz
              go_wp2_with fail
              go_roundg (ps.length + 1 - (j + 1))
              case measure => omega
              case rel => exact ⟨j + 1, lv3, ps3, rfl, by omega, rfl, by go_num, hW4, hl4⟩
        · go_wp2_with fail
          go_ret
          exact ⟨rfl, HW3.out.but⟩

set_option maxHeartbeats 400000 in
theorem lTells_any {w : World} {v : Value} {steps : List StepC} (hS : ScriptT w v steps) (N0 : Nat) (hT : Tabs N0 w) (hN0 : N0 ≤ w.heap.size) :
    Calls Tryz.prog 4 #[v] w fun e w' => e = .returned (.bool true) ∧ But [] w w' := by
  have HP : Hid _ := lplaysT_any hS N0 hT hN0
  clear hS hT
  go_enter Tryz.func4, Tryz.ntmps4
  go_wp2_with fail
  refine Calls.mono HP.out ?_
  rintro e w1 ⟨rfl, hb⟩
  go_wp2_with fail
  go_ret
  exact ⟨rfl, hb⟩

end Go.Proofs.YtkflkmmbakccoaaGreatDoor

/- THE STATEMENT's GROUND: the laid tables; a script whose paths are read. -/
namespace Go.Proofs.YtkflkmmbakccoaaGreatDoor
open Go.ChangeShapes Go.WideShapes Go.ChangeAt Go.WideElems Go.RowKit Go.Deep

theorem star_err : "*" ++ "errors.errorString" = "*errors.errorString" := by decide
theorem row_err (u : TypeId) (h : Tryz.prog.typeName? 3 u = some "*errors.errorString") : u = 223 :=
  typeName_ptr_named (nm := "errors.errorString") (by rw [star_err]; kernel_rfl) (by kernel_rfl) (by decide) u (by rw [star_err]; exact h)

theorem pow_data : (Rows.laid_internal_strconv_uint64pow10 : DataW Unit) = Lib.tabData .u64 Lib.pow10Tab := by rfl

theorem var_lt {W : World} {name : String} {g : Nat} {cs : Array Value} (hg : Tryz.prog.globalNamed name = some g) (h : W.var? Tryz.prog name = some cs) : g < W.heap.size := by
  unfold World.var? at h
  rw [hg] at h
  simp only [Option.bind_some] at h
  by_cases hx : g < W.heap.size
  · exact hx
  · rw [Array.getElem?_eq_none (by omega)] at h
    simp at h

set_option maxRecDepth 100000 in
theorem tabs_of_laid {W : World} (h : laidMetH Tryz.prog Rows.tellsRow.laid W) : Tabs W.heap.size W := by
  have h0 : laidMet Tryz.prog Rows.tellsRow.laid W := by
    rw [MakeChecks.laidMetH_plain _ _ _ (by kernel_rfl)] at h
    exact h
  have h1 : laidMet Tryz.prog [("internal/strconv.uint64pow10", Lib.tabData .u64 Lib.pow10Tab), ("strconv.ErrRange", Rows.laid_strconv_ErrRange), ("strconv.ErrSyntax", Rows.laid_strconv_ErrSyntax)] W := by
    rw [← pow_data]
    exact h0.tail.tail
  have p1 : Lib.TabIs Tryz.prog W "internal/strconv.uint64pow10" .u64 Lib.pow10Tab := Lib.tabIs_of_head g_pow (t := 220) (e := 191) (n := 20) (by kernel_rfl) (by kernel_rfl) (by kernel_rfl) (by kernel_rfl) (by kernel_rfl) h1
  obtain ⟨a1, s1, v1, _⟩ := laid_sentinel (ti := 135) (tp := 223) (te := 225) (ts := 9) h1.tail g_rng (by kernel_rfl) Tryz.underlying135 row_err Tryz.underlying223 Tryz.underlying225 rfl rfl Tryz.underlying9 (by kernel_rfl) (by kernel_rfl)
  obtain ⟨a2, s2, v2, _⟩ := laid_sentinel (ti := 135) (tp := 223) (te := 225) (ts := 9) h1.tail.tail g_syn (by kernel_rfl) Tryz.underlying135 row_err Tryz.underlying223 Tryz.underlying225 rfl rfl Tryz.underlying9 (by kernel_rfl) (by kernel_rfl)
  exact ⟨p1, ⟨_, _, v2⟩, ⟨_, _, v1⟩, var_lt g_pow p1, var_lt g_syn v2, var_lt g_rng v1⟩

/-! ### weights: what lies within a datum -/
theorem weights_all_mem {H : Type} {e : TypeId} : ∀ {l : List (DataW H)} {d : DataW H}, d ∈ l → ∀ n ∈ d.weights Tryz.prog e, n ∈ DataW.weightsAll Tryz.prog e l
  | [], _, h, _, _ => by cases h
  | x :: l, d, h, n, hn => by
    simp only [DataW.weightsAll, List.mem_append]
    rcases List.mem_cons.1 h with rfl | h
    · exact .inl hn
    · exact .inr (weights_all_mem h n hn)

theorem weights_elem {H : Type} {t e : TypeId} {elems spare : List (DataW H)} {d : DataW H} (ht : Tryz.prog.underlying t = some (.slice e)) (hd : d ∈ elems) : ∀ n ∈ d.weights Tryz.prog e, n ∈ (DataW.slice elems spare).weights Tryz.prog t := fun n hn => by
  simp only [DataW.weights, ht, List.mem_cons, List.mem_append]
  exact .inr (.inl (weights_all_mem hd n hn))

theorem weights_part {H : Type} {t f : TypeId} {fs : Array Field} {parts : List (DataW H)} {d : DataW H} (j : Nat) (ht : Tryz.prog.underlying t = some (.struct fs)) (hf : (fs.toList.map (·.type))[j]? = some f) (hd : parts[j]? = some d) : ∀ n ∈ d.weights Tryz.prog f, n ∈ (DataW.agg parts).weights Tryz.prog t := fun n hn => by
  simp only [DataW.weights, ht]
  exact DataW.weights_mem_each hf hd n hn

theorem bStr : Tryz.prog.bytesOf 9 = 16 := by kernel_rfl

/-- A path that is read. -/
theorem path_of_trod {H : Type} {enc : TypeId × Value → H} {W : World} {held : Bool} {fuel : Nat} {c : Value} {x : DataW H × List MemPlace} (h : DataW.trod enc Tryz.prog W 0 (fun _ => true) held fuel 46 [c] = some x)
    (hz : ∀ n ∈ x.1.weights Tryz.prog 46, n ≤ reachBytes) : ∃ path, PathOk W c path := by
  rcases open_slice1 Tryz.underlying46 cStr h with ⟨hcs, hx⟩ | ⟨a, len, cap, m, n, V, D, Pl, hcs, _, hl, hm, hmm, hx, hel⟩
  · simp at hcs
    subst hcs
    exact ⟨[], ⟨⟨_, _, rfl, Nat.le_refl _, (fun h => by simp at h)⟩, (fun y hy => by cases hy), (by simp)⟩⟩
  · simp at hcs
    subst hcs
    simp only [if_true] at hmm
    subst hmm
    rw [hx] at hz
    simp only at hz
    have hrb : reachBytes ≤ 140737488355328 := by decide
    have h1 := hz ((((List.range len).map D).length + ((List.range (m - len)).map fun j => D (len + j)).length) * Tryz.prog.bytesOf 9) (by simp [DataW.weights, Tryz.underlying46])
    rw [bStr] at h1
    simp only [List.length_map, List.length_range] at h1
    have each : ∀ i, i < len → ∃ y : ByteArray, W.cell? (a.add i) = some (.string y) ∧ y.size ≤ 281474976710656 := fun i hi => by
      obtain ⟨g1, g2⟩ := hel i (by omega)
      obtain ⟨y, e1, e2, _⟩ := DataW.trod_string Tryz.underlying9 g2
      simp at e1
      refine ⟨y, by rw [g1, e1], ?_⟩
      have e3 : D i = .lit (.string y.data.toList) := by
        have := congrArg Prod.fst e2
        simpa using this
      have h2 := hz y.data.toList.length (weights_elem Tryz.underlying46 (d := D i) (List.mem_map.2 ⟨i, List.mem_range.2 hi, rfl⟩) _ (by rw [e3]; simp [DataW.weights]))
      have h3 : y.size = y.data.toList.length := Lib.size_eq y
      omega
    let f : Nat → ByteArray := fun i => if hi : i < len then (each i hi).choose else ⟨#[]⟩
    have hfs : ∀ i, i < len → W.cell? (a.add i) = some (.string (f i)) ∧ (f i).size ≤ 281474976710656 := fun i hi => by
      have := (each i hi).choose_spec
      simp only [f, dif_pos hi]
      exact this
    obtain ⟨b, off, spot⟩ := a
    refine ⟨(List.range len).map f, ⟨⟨_, _, (by rw [List.length_map, List.length_range]), (by simpa using hl), fun h0 => ?_⟩, fun c hc => ?_, (by simp; omega)⟩⟩
    · simp only [List.length_map, List.length_range] at h0
      have hspot : spot = none := by
        have := (hfs 0 h0).1
        simpa [Addr.add] using World.cell?_spot this
      subst hspot
      refine ⟨b, off, rfl, ?_, fun i hi => ?_⟩
      · have hc0 := (hfs 0 h0).1
        by_cases hx : b < W.heap.size
        · exact hx
        · simp [World.cell?, Addr.add, Array.getElem?_eq_none (by omega : W.heap.size ≤ b)] at hc0
      · have hi' : i < len := by simpa using hi
        have := (hfs i hi').1
        rw [addr_none] at this
        rw [this]
        simp
    · obtain ⟨i, hi, rfl⟩ := List.mem_map.1 hc
      exact (hfs i (by simpa using hi)).2

end Go.Proofs.YtkflkmmbakccoaaGreatDoor

/- WALKS: package grafterlaw: plays, All. -/
namespace Go.Proofs.YtkflkmmbakccoaaGreatDoor
open Go.RowKit Go.Maps

/-- What the walk asks of a script whose numbers are read too. -/
structure ScriptA (w : World) (v : Value) (steps : List StepC) : Prop where
  t : ScriptT w v steps
  n : ∀ c ∈ steps, -9223372036854775808 ≤ c.n ∧ c.n ≤ 9223372036854775807

theorem lstep5_any {w0 : World} {wb : Nat} {ps : List (Nat × Nat)} {lv : Value} {w : World} (hW : WOk w0 wb ps lv w) (kd e n : Int) (hkd : kd ≤ 5) (hn1 : -9223372036854775808 ≤ n) (hn2 : n ≤ 9223372036854775807) (he : -9223372036854775808 ≤ e) (he2 : e ≤ 9223372036854775807) (s : ByteArray) (hs : s.size ≤ 9223372036854775807) (B : Bud) (pa : Option Addr) (pn pc : Nat)
    (N0 : Nat) (hT : Tabs N0 w0) (hN0 : N0 ≤ w0.heap.size) (path : List ByteArray) (hP : PathOk w (.slice pa pn pc) path) (hn : ps.length + 1 ≤ 8000000000000) :
    Calls Tryz.prog 25 #[.pointer (some ⟨wb, 0, none⟩), stepV kd e n s B (.slice pa pn pc)] w fun r w' => LPost w0 wb (ps.length + stepN kd s B) r w' := by
  by_cases h2 : kd ≤ 4
  · exact lstep4_any hW kd e n h2 he he2 s hs B pa pn pc N0 hT hN0 path hP hn
  · have hz : stepN kd s B = 0 := by unfold stepN; rw [if_neg (by omega)]
    rw [hz]
    exact lstepT_of hW kd e n (by omega) (fun _ => ⟨hn1, hn2⟩) he he2 s B pa pn pc N0 (hT.below (hW.but.below hN0 (by simp))) (Nat.le_trans hN0 hW.but.size) path hP hn

set_option maxRecDepth 20000 in
set_option maxHeartbeats 8000000 in
theorem lplaysA_any {w : World} {v : Value} {steps : List StepC} (hSA : ScriptA w v steps) (N0 : Nat) (hT : Tabs N0 w) (hN0 : N0 ≤ w.heap.size) :
    Calls Tryz.prog 12 #[v, .int .i64 5] w fun e w' => e = .returned (.bool true) ∧ But [] w w' := by
  have hST := hSA.t
  have HNN0 : Hid (∀ c ∈ steps, -9223372036854775808 ≤ c.n ∧ c.n ≤ 9223372036854775807) := hSA.n
  have hS := hST.s
  have HTB : Hid (Tabs N0 w) := hT
  have HPP : Hid (∀ c ∈ steps, ∃ path, PathOk w (.slice c.pa c.pn c.pc) path) := hST.p
  have hW0 : WOk w w.heap.size [] (.slice none 0 0) (w.alloc (.cells #[.slice none 0 0] 53)) := ⟨blk_new _ _ _, ⟨rfl, .inl ⟨rfl, rfl⟩⟩, (fun p hp => by cases hp), alloc_but _ _, Nat.le_refl _⟩
  have HS0 : Hid _ := lstep5_any hW0 1 0 0 (by omega) (by omega) (by omega) (by omega) (by omega) text0 (by decide +kernel) bud0 none 0 0 N0 hT hN0 [] (path_none _) (by simp)
  have HN0 : Hid (stepN 1 text0 bud0 = 1) := by unfold Hid stepN; rw [if_pos rfl]; exact load0
  obtain ⟨va, vcap, hv, hvc, _⟩ := hS.shape
  subst hv
  have hlen := hS.len
  have HSC : Hid _ := hS
  clear hS hST hSA hT
  go_enter Tryz.func12, Tryz.ntmps12
  go_wp2_with fail
  refine Calls.mono HS0.out ?_
  rintro e w1 ⟨rfl, ps1, lv1, hW1, hl1⟩
  rw [HN0.out] at hl1
  obtain ⟨la, lcap, hlv, hlc⟩ := own_shape hW1.row
  subst hlv
  have c0 : w1.cell? ⟨w.heap.size, 0, none⟩ = some (.slice la ps1.length lcap) := hW1.blk.cell rfl
  have hne : ((ps1.length : Int) != 1) = false := by simp at hl1; simp [hl1]
  have hle1 : ps1.length ≤ 1 := by simp at hl1; omega
  clear HS0 hW0 hl1
  go_wp2_with fail
  go_loopg [6, 7] (steps.length + 1) (fun gk okv iv wr => ∃ (i : Nat) (ps : List (Nat × Nat)) (lv : Value), gk = steps.length + 1 - i ∧ i ≤ steps.length ∧ okv = .bool true ∧ iv = .int .i64 (i : Int) ∧ WOk w w.heap.size ps lv wr ∧ ps.length ≤ i + 1)
  case atStart => exact ⟨0, ps1, _, rfl, Nat.zero_le _, rfl, rfl, hW1, by omega⟩
  case round =>
    obtain ⟨i, ps, lv, rfl, hi, rfl, rfl, hW2, hpl⟩ := hrel
    clear c0 hne
    by_cases hlt : i < steps.length
    · obtain ⟨sb, off, cap', ev, _, hcell⟩ := HSC.out.cell hlt
      obtain ⟨rfl, rfl⟩ : va = some ⟨sb, off, none⟩ ∧ vcap = cap' := by simpa using ev
      have hc := hcell wr hW2.but
      have k0 := hc 0 (by omega)
      have k1 := hc 1 (by omega)
      have k2 := hc 2 (by omega)
      have k3 := hc 3 (by omega)
      have k4 := hc 4 (by omega)
      have k5 := hc 5 (by omega)
      have k6 := hc 6 (by omega)
      have k7 := hc 7 (by omega)
      have k8 := hc 8 (by omega)
      have hmem : steps[i] ∈ steps := List.getElem_mem hlt
      have hce := HSC.out.e _ hmem
      have hcs := HSC.out.s _ hmem
      have hcn := HNN0.out _ hmem
      obtain ⟨pth, hpth⟩ := HPP.out _ hmem
      have hpth2 := hpth.still hW2.but
      clear hc hcell ev
      generalize steps[i] = c at *
      obtain ⟨kd, e, n, s, B, pa, pn, pc⟩ := c
      simp only [StepC.cells, List.getElem?_cons_succ, List.getElem?_cons_zero, Nat.add_zero] at k0 k1 k2 k3 k4 k5 k6 k7 k8 hce hcs hpth2 hcn
      by_cases hk : kd ≤ 5
      · have HST : Hid _ := lstep5_any hW2 kd e n hk hcn.1 hcn.2 hce.1 hce.2 s hcs B pa pn pc N0 HTB.out hN0 pth hpth2 (by omega)
        have HNN : Hid (stepN kd s B ≤ 1) := by
          unfold Hid stepN loadN
          split
          · split <;> omega
          · omega
        clear hpth hpth2 hcn
        go_wp2_with fail
        refine Calls.mono HST.out ?_
        rintro r w2 ⟨rfl, ps', lv', hW3, hl3⟩
        go_wp2_with fail
        go_roundg (steps.length + 1 - (i + 1))
        case measure => omega
        case rel => exact ⟨i + 1, ps', lv', rfl, by omega, rfl, by go_num, hW3, by have := HNN.out; omega⟩
      · clear hpth hpth2 hcn
        go_wp2_with fail
        go_roundg (steps.length + 1 - (i + 1))
        case measure => omega
        case rel => exact ⟨i + 1, ps, lv, rfl, by omega, rfl, by go_num, hW2, by omega⟩
    · have HW2 : Hid _ := hW2
      have hpl2 : ps.length ≤ steps.length + 1 := by omega
      clear hW2
      go_wp2_with fail
      go_loopg [6, 8, 9] (ps.length + 1) (fun gk okv iv _ wr2 => ∃ (j : Nat) (lv : Value) (ps2 : List (Nat × Nat)), gk = ps.length + 1 - j ∧ j ≤ ps.length ∧ okv = .bool true ∧ iv = .int .i64 (j : Int) ∧ WOk w w.heap.size ps2 lv wr2 ∧ ps2.length = ps.length)
      case atStart => exact ⟨0, lv, ps, rfl, Nat.zero_le _, rfl, rfl, HW2.out, rfl⟩
      case round =>
        obtain ⟨j, lv2, ps2, rfl, hj, rfl, rfl, hW3, hl3⟩ := hrel
        obtain ⟨la2, lcap2, hlv2, hlc2⟩ := own_shape hW3.row
        subst hlv2
        have c2 : wr.cell? ⟨w.heap.size, 0, none⟩ = some (.slice la2 ps2.length lcap2) := hW3.blk.cell rfl
        have HW3 : Hid _ := hW3
        clear hW3
        by_cases hlt2 : j < ps2.length
        · go_wp2_with fail
          go_loopg [6, 9] 5 (fun gk okv kv wr3 => ∃ (q : Nat) (lv : Value) (ps3 : List (Nat × Nat)), gk = 5 - q ∧ q ≤ 4 ∧ okv = .bool true ∧ kv = .int .i64 (2 + (q : Int)) ∧ WOk w w.heap.size ps3 lv wr3 ∧ ps3.length = ps.length)
          case atStart => exact ⟨0, _, ps2, rfl, by omega, rfl, rfl, HW3.out, hl3⟩
          case round =>
            obtain ⟨q, lv3, ps3, rfl, hq, rfl, rfl, hW4, hl4⟩ := hrel
            obtain rfl | rfl | rfl | rfl | rfl : q = 0 ∨ q = 1 ∨ q = 2 ∨ q = 3 ∨ q = 4 := by omega
            · have hbs : But [] wr (wr.alloc (.cells #[.string ⟨#[50]⟩] 9)) := alloc_but _ _
              have HST : Hid _ := lstep5_any (hW4.still hbs) 2 (j : Int) 500 (by omega) (by omega) (by omega) (by omega) (by omega) ⟨#[]⟩ (by decide) ⟨0, 0, 0, 0⟩ (some ⟨wr.heap.size, 0, none⟩) 1 1 N0 HTB.out hN0 [⟨#[50]⟩] (path_one _ _ (by decide)) (by omega)
              have HNN : Hid (stepN 2 ⟨#[]⟩ ⟨0, 0, 0, 0⟩ = 0) := by unfold Hid stepN; rw [if_neg (by omega)]
              have hz : (2 : Int) + ((0 : Nat) : Int) = 2 := by omega
              rw [hz]
              clear hz
              go_wp2_with fail
              refine Calls.mono HST.out ?_
              rintro r w5 ⟨rfl, ps', lv', hW5, hl5⟩
              rw [HNN.out] at hl5
              go_wp2_with fail
              go_roundg 4
              case measure => omega
              case rel => exact ⟨1, lv', ps', rfl, by omega, rfl, by go_num, hW5, by omega⟩
            · have hbs : But [] wr (wr.alloc (.cells #[.string ⟨#[50]⟩] 9)) := alloc_but _ _
              have HST : Hid _ := lstep5_any (hW4.still hbs) 3 (j : Int) 500 (by omega) (by omega) (by omega) (by omega) (by omega) ⟨#[]⟩ (by decide) ⟨0, 0, 0, 0⟩ (some ⟨wr.heap.size, 0, none⟩) 1 1 N0 HTB.out hN0 [⟨#[50]⟩] (path_one _ _ (by decide)) (by omega)
              have HNN : Hid (stepN 3 ⟨#[]⟩ ⟨0, 0, 0, 0⟩ = 0) := by unfold Hid stepN; rw [if_neg (by omega)]
              have hz : (2 : Int) + ((1 : Nat) : Int) = 3 := by omega
              rw [hz]
              clear hz
              go_wp2_with fail
              refine Calls.mono HST.out ?_
              rintro r w5 ⟨rfl, ps', lv', hW5, hl5⟩
              rw [HNN.out] at hl5
              go_wp2_with fail
              go_roundg 3
              case measure => omega
              case rel => exact ⟨2, lv', ps', rfl, by omega, rfl, by go_num, hW5, by omega⟩
            · have hbs : But [] wr (wr.alloc (.cells #[.string ⟨#[50]⟩] 9)) := alloc_but _ _
              have HST : Hid _ := lstep5_any (hW4.still hbs) 4 (j : Int) 500 (by omega) (by omega) (by omega) (by omega) (by omega) ⟨#[]⟩ (by decide) ⟨0, 0, 0, 0⟩ (some ⟨wr.heap.size, 0, none⟩) 1 1 N0 HTB.out hN0 [⟨#[50]⟩] (path_one _ _ (by decide)) (by omega)
              have HNN : Hid (stepN 4 ⟨#[]⟩ ⟨0, 0, 0, 0⟩ = 0) := by unfold Hid stepN; rw [if_neg (by omega)]
              have hz : (2 : Int) + ((2 : Nat) : Int) = 4 := by omega
              rw [hz]
              clear hz
              go_wp2_with fail
              refine Calls.mono HST.out ?_
              rintro r w5 ⟨rfl, ps', lv', hW5, hl5⟩
              rw [HNN.out] at hl5
              go_wp2_with fail
              go_roundg 2
              case measure => omega
              case rel => exact ⟨3, lv', ps', rfl, by omega, rfl, by go_num, hW5, by omega⟩
            · have hbs : But [] wr (wr.alloc (.cells #[.string ⟨#[50]⟩] 9)) := alloc_but _ _
              have HST : Hid _ := lstep5_any (hW4.still hbs) 5 (j : Int) 500 (by omega) (by omega) (by omega) (by omega) (by omega) ⟨#[]⟩ (by decide) ⟨0, 0, 0, 0⟩ (some ⟨wr.heap.size, 0, none⟩) 1 1 N0 HTB.out hN0 [⟨#[50]⟩] (path_one _ _ (by decide)) (by omega)
              have HNN : Hid (stepN 5 ⟨#[]⟩ ⟨0, 0, 0, 0⟩ = 0) := by unfold Hid stepN; rw [if_neg (by omega)]
              have hz : (2 : Int) + ((3 : Nat) : Int) = 5 := by omega
              rw [hz]
              clear hz
              go_wp2_with fail
              refine Calls.mono HST.out ?_
              rintro r w5 ⟨rfl, ps', lv', hW5, hl5⟩
              rw [HNN.out] at hl5
              go_wp2_with fail
              go_roundg 1
              case measure => omega
              case rel => exact ⟨4, lv', ps', rfl, by omega, rfl, by go_num, hW5, by omega⟩
            · have hz : (2 : Int) + ((4 : Nat) : Int) = 6 := by omega
              rw [hz]
              clear hz
              go_wp2_with fail
              go_roundg (ps.length + 1 - (j + 1))
              case measure => omega
              case rel => exact ⟨j + 1, lv3, ps3, rfl, by omega, rfl, by go_num, hW4, hl4⟩
        · go_wp2_with fail
          go_ret
          exact ⟨rfl, HW3.out.but⟩

set_option maxHeartbeats 400000 in
theorem lAll_any {w : World} {v : Value} {steps : List StepC} (hS : ScriptA w v steps) (N0 : Nat) (hT : Tabs N0 w) (hN0 : N0 ≤ w.heap.size) :
    Calls Tryz.prog 5 #[v] w fun e w' => e = .returned (.bool true) ∧ But [] w w' := by
  have HP : Hid _ := lplaysA_any hS N0 hT hN0
  clear hS hT
  go_enter Tryz.func5, Tryz.ntmps5
  go_wp2_with fail
  refine Calls.mono HP.out ?_
  rintro e w1 ⟨rfl, hb⟩
  go_wp2_with fail
  go_ret
  exact ⟨rfl, hb⟩

end Go.Proofs.YtkflkmmbakccoaaGreatDoor
