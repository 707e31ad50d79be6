/- PARTS: W23. -/
import Derived.Test.YtkflkmmbakccoaaGreatDoorJ11
import Derived.Deep.Cut
import Derived.Deep.CutRange
import Derived.Deep.DeepCutAuto

/- WALKS: package parse: Text. -/
namespace Go.Proofs.YtkflkmmbakccoaaGreatDoor
open Go.RowKit Go.Maps

theorem blk_at {w : World} {cs : Array Value} {T : TypeId} {i : Nat} (h : i = w.heap.size) : Blk (w.alloc (.cells cs T)) i cs T := by subst h; exact blk_new w cs T
theorem blk_old {w : World} {cs : Array Value} {T : TypeId} {i : Nat} {o : Obj} (h : Blk w i cs T) : Blk (w.alloc o) i cs T := (alloc_but w o).blk h (by simp)
theorem map_at {w : World} {o : Obj} {i : Nat} (h : i = w.heap.size) : (w.alloc o).heap[i]? = some o := by subst h; exact heap_alloc_new w o
theorem map_old {w : World} {o o' : Obj} {i : Nat} (h : w.heap[i]? = some o) : (w.alloc o').heap[i]? = some o := by
  rw [Below.heap_alloc _ _ _ (Array.getElem?_eq_some_iff.1 h).1]; exact h
theorem map_drew {w : World} {o : Obj} {i : Nat} (h : w.heap[i]? = some o) : w.drew.heap[i]? = some o := h

set_option maxHeartbeats 400000 in
theorem new_any (s : ByteArray) (w : World) :
    Calls Tryz.prog 42 #[.string s] w fun e w' => e = .returned (.agg #[.string s, .int .i64 0]) ∧ w' = w.alloc (.cells #[.string s, .int .i64 0] 86) := by
  go_enter Tryz.func42, Tryz.ntmps42
  go_wp2_with fail
  exact bodyPost_ret (v := .agg #[.string s, .int .i64 0]) (by simp [results, Tryz.results42, go_sem]) rfl ⟨rfl, rfl⟩

def ps0 : PS := ⟨0, 0, [], 0, []⟩

/-- The parser at its start. -/
theorem PInv.start {E : Env} {w : World} (hp : Blk w E.p #[.string E.s, .int .i64 0, .int .i64 E.B.depth, .int .i64 E.B.nodes, .int .i64 E.B.anchors, .int .i64 E.B.weight, .pointer (some ⟨E.g, 0, none⟩), .map (some E.m), .int .i64 0, .int .i64 0, .int .i64 0] 90)
    (hg : Blk w E.g #[.slice none 0 0, .int .i64 0] 82) (hm : w.heap[E.m]? = some (.map #[] 0)) (hb : E.base ≤ w.heap.size) : PInv E ps0 (.slice none 0 0) [] w := by
  refine ⟨hp, hg, ⟨rfl, .inl ⟨rfl, rfl⟩⟩, rfl, (fun r hr => by cases hr), ?_, ⟨by simp [ps0], by simp [ps0], by simp [ps0], by simp [ps0], (fun p hp => by cases hp), (fun i => by simp [ps0, heavyOf, NodeV.blank]), (fun i => by simp [ps0, highOf, NodeV.blank])⟩, hb⟩
  obtain ⟨es, clock, h1, h2⟩ := World.ownsMap_made (H := Unit) w Tryz.prog 9 (plainElem Tryz.prog 3)
  have : (w.alloc (Obj.map #[] 0)).heap[w.heap.size]? = some (.map #[] 0) := heap_alloc_new w _
  rw [this] at h1
  simp at h1
  obtain ⟨rfl, rfl⟩ := h1
  refine ⟨.map [], ⟨_, _, hm, h2⟩, ⟨_, rfl⟩, fun x _ => rfl, fun x i hx => by simp [lookM, ps0] at hx⟩

structure BudOk (s : ByteArray) (B : Bud) : Prop where
  s : s.size ≤ 1000
  d0 : 0 ≤ B.depth
  d : B.depth ≤ 20
  n0 : 0 ≤ B.nodes
  n : B.nodes ≤ 500
  a0 : 0 ≤ B.anchors
  a : B.anchors ≤ 100

theorem start_rel {w W : World} {s : ByteArray} {B : Bud} {p g m : Nat} (hok : BudOk s B) (hp : Blk W p #[.string s, .int .i64 0, .int .i64 B.depth, .int .i64 B.nodes, .int .i64 B.anchors, .int .i64 B.weight, .pointer (some ⟨g, 0, none⟩), .map (some m), .int .i64 0, .int .i64 0, .int .i64 0] 90)
    (hg : Blk W g #[.slice none 0 0, .int .i64 0] 82) (hm : W.heap[m]? = some (.map #[] 0)) (hb : But [] w W) (h1 : w.heap.size ≤ p) (h2 : w.heap.size ≤ g) (h3 : w.heap.size ≤ m) :
    ∃ E : Env, Value.pointer (some ⟨p, 0, none⟩) = pp E ∧ E.s = s ∧ E.B = B ∧ EnvOk E ∧ E.base = w.heap.size ∧ PInv E ps0 (.slice none 0 0) [] W ∧ But [] w W :=
  ⟨⟨s, B, p, g, m, w.heap.size⟩, rfl, rfl, rfl, ⟨hok.s, hok.d0, hok.d, hok.n0, hok.n, hok.a0, hok.a, h1, h2, h3⟩, rfl, PInv.start hp hg hm hb.size, hb⟩

/-- What the reading of a whole text leaves. -/
def TextPost (s : ByteArray) (B : Bud) (w : World) (r : Res Unit) (e : Ending) (w' : World) : Prop :=
  match r with
  | .ok _ t => ∃ E nv rows, e = .returned (.tuple #[.pointer (some ⟨E.g, 0, none⟩), .int .i64 0, .int .i64 0]) ∧ E.s = s ∧ E.B = B ∧ EnvOk E ∧ E.base = w.heap.size ∧ PInv E t nv rows w' ∧ But [] w w'
  | .bad er pl => e = .returned (.tuple #[.pointer none, .int .i64 (er : Int), .int .i64 (pl : Int)]) ∧ But [] w w' ∧ er ≠ 0

set_option maxHeartbeats 8000000 in
theorem text_any (s : ByteArray) (B : Bud) (hs : s.size ≤ 1000) (hd0 : 0 ≤ B.depth) (hd : B.depth ≤ 20) (hn0 : 0 ≤ B.nodes) (hn : B.nodes ≤ 500) (ha0 : 0 ≤ B.anchors) (ha : B.anchors ≤ 100) (w : World) :
    Calls Tryz.prog 29 #[.string s, .agg #[.int .i64 B.depth, .int .i64 B.nodes, .int .i64 B.anchors, .int .i64 B.weight]] w fun e w' => TextPost s B w (textM s B ps0) e w' := by
  have hmm : ∀ W : World, (Instr.makeMap 88 none).run Tryz.prog W = .ok (.map (some W.heap.size)) (W.alloc (.map #[] 0)) := fun W => run_makeMap _ W
  go_enter Tryz.func29, Tryz.ntmps29
  go_upto_region 1 with fail
  go_cut [7] from 8 to 30 (fun s7 wx => ∃ E : Env, s7 = pp E ∧ E.s = s ∧ E.B = B ∧ EnvOk E ∧ E.base = w.heap.size ∧ PInv E ps0 (.slice none 0 0) [] wx ∧ But [] w wx)
  case first =>
    go_region_with (go_at_call 42; refine (new_any s _).mono ?_; rintro e w' ⟨rfl, rfl⟩)
    all_goals
      go_wp2_with fail
      go_meet
      case rel =>
        apply start_rel ⟨hs, hd0, hd, hn0, hn, ha0, ha⟩
        · repeat (first | exact blk_at (by simp) | apply blk_old | apply Blk.drew)
        · repeat (first | exact blk_at (by simp) | apply blk_old | apply Blk.drew)
        · repeat (first | exact map_at (by simp) | apply map_old | apply map_drew)
        · repeat (first | exact But.refl _ _ | refine But.alloc ?_ _ | refine But.drew ?_)
        · omega
        · omega
        · omega
  case rest =>
    obtain ⟨E, rfl, hEs, hEB, hEok, hbase, hI, hb⟩ := hcut
    subst hEs hEB
    have HB : Hid (E.base = w.heap.size) := hbase
    clear hbase hmm
    go_wp2_with fail
    refine (ptext_any E hEok ps0 _ [] wc hI).mono ?_
    intro e w2 hp
    have hbf : ∀ x ∈ E.p :: E.g :: E.m :: own (.slice none 0 0), w.heap.size ≤ x := fun x hx => by
      have h1 := hEok.p
      have h2 := hEok.g
      have h3 := hEok.m
      rw [HB.out] at h1 h2 h3
      simp only [own, List.mem_cons, List.not_mem_nil, or_false] at hx
      rcases hx with rfl | rfl | rfl <;> assumption
    cases hm : textM E.s E.B ps0 with
    | bad er pl =>
      rw [hm] at hp
      obtain ⟨rfl, hb2, h9, h10, her⟩ := hp
      have hb3 : But [] w w2 := hb.trans hb2 (fun x hx => .inr (hbf x hx))
      have HM : Hid _ := hm
      clear hm hb2
      go_wp2_with fail
      go_quiet (fail)
      go_wp2_with fail
      go_ret3
      rw [HM.out]
      exact ⟨rfl, hb3.drewN _, her⟩
    | ok u t =>
      rw [hm] at hp
      obtain ⟨rfl, nv2, rows2, hI2, hb2, ho2, hq2⟩ := hp
      have hb3 : But [] w w2 := hb.trans hb2 (fun x hx => .inr (hbf x hx))
      have c6 : w2.cell? ⟨E.p, 6, none⟩ = some (.pointer (some ⟨E.g, 0, none⟩)) := hI2.par.cell rfl
      have HM : Hid _ := hm
      clear hm
      go_wp2_with fail
      go_ret3
      rw [HM.out]
      exact ⟨E, nv2, rows2, rfl, rfl, rfl, hEok, HB.out, hI2, hb3⟩

end Go.Proofs.YtkflkmmbakccoaaGreatDoor
