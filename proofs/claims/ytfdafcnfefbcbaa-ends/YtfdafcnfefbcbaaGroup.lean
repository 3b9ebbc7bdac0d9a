/-
  The contract of groupOf.
-/
import Derived.Test.YtfdafcnfefbcbaaStep
namespace Go.Proofs.Ytfdafcnfefbcbaa
open Go.RowKit
set_option linter.unusedVariables false

def Ev.cells (e : Ev) : List Value := [.int .i64 e.thread, .int .u8 (e.kind : Int), .int .u8 (e.name : Int), .int .i16 e.value, .int .i64 e.block, .int .i64 e.group]
def evCells : List Ev → List Value
  | [] => []
  | e :: r => e.cells ++ evCells r

theorem evCells_append (a b : List Ev) : evCells (a ++ b) = evCells a ++ evCells b := by
  induction a with
  | nil => rfl
  | cons x xs ih => simp [evCells, ih]
theorem evCells_length (a : List Ev) : (evCells a).length = a.length * 6 := by
  induction a with
  | nil => rfl
  | cons x xs ih => simp [evCells, ih, Ev.cells]; omega
theorem evCells_at : ∀ (a : List Ev) (i : Nat) (e : Ev), a[i]? = some e → (evCells a)[i * 6]? = some (.int .i64 e.thread) ∧ (evCells a)[i * 6 + 1]? = some (.int .u8 (e.kind : Int)) ∧ (evCells a)[i * 6 + 2]? = some (.int .u8 (e.name : Int)) ∧ (evCells a)[i * 6 + 3]? = some (.int .i16 e.value) ∧ (evCells a)[i * 6 + 4]? = some (.int .i64 e.block) ∧ (evCells a)[i * 6 + 5]? = some (.int .i64 e.group)
  | [], i, e, h => by simp at h
  | x :: xs, 0, e, h => by simp at h; subst h; simp [evCells, Ev.cells]
  | x :: xs, i + 1, e, h => by
    have := evCells_at xs i e (by simpa using h)
    rw [show (i + 1) * 6 = i * 6 + 6 by omega, show i * 6 + 6 + 1 = i * 6 + 1 + 6 by omega, show i * 6 + 6 + 2 = i * 6 + 2 + 6 by omega, show i * 6 + 6 + 3 = i * 6 + 3 + 6 by omega, show i * 6 + 6 + 4 = i * 6 + 4 + 6 by omega, show i * 6 + 6 + 5 = i * 6 + 5 + 6 by omega]
    simpa [evCells, Ev.cells] using this

/-- The group of a step of thread t in block b behind the events l. -/
def groupOf (l : List Ev) (t b nx : Int) : Int := if b = -1 then nx else match l with
  | [] => nx
  | e :: r => if e.thread = t ∧ e.block = b then e.group else groupOf r t b nx

theorem groupOf_nil (t b nx : Int) : groupOf [] t b nx = nx := by unfold groupOf; split <;> rfl
theorem groupOf_cons {e : Ev} {r : List Ev} {t b nx : Int} (hb : b ≠ -1) : groupOf (e :: r) t b nx = if e.thread = t ∧ e.block = b then e.group else groupOf r t b nx := by
  rw [groupOf, if_neg hb]

set_option maxRecDepth 100000 in
set_option maxHeartbeats 1000000 in
theorem groupOf_any (l : List Ev) (a : Option Addr) (cap lo : Nat) (t : Int) (k n : Nat) (v b g nx : Int) (w : World) (hr : w.ownsRow lo 70 6 (.slice a l.length cap) l.length (evCells l)) (hl : l.length ≤ 1000000) :
    Calls Try.prog 86 #[.slice a l.length cap, .agg #[.int .i64 t, .int .u8 (k : Int), .int .u8 (n : Int), .int .i16 v, .int .i64 b, .int .i64 g], .int .i64 nx] w
      fun e w' => e = .returned (.int .i64 (groupOf l t b nx)) ∧ Below w.heap.size w w' := by
  by_cases hb : b = -1
  · have e : groupOf l t b nx = nx := by unfold groupOf; rw [if_pos hb]
    rw [e]
    have hb' : (b == -1) = true := by simpa using hb
    clear e hb
    go_enter Try.func86, Try.ntmps86
    go_wp2
    go_ret
    exact ⟨rfl, (Below.refl _ _).alloc (Nat.le_refl _) _⟩
  · have hb' : (b == -1) = false := by simpa using hb
    have HB : Hid _ := hb
    clear hb
    go_enter Try.func86, Try.ntmps86
    go_wp2
    go_loopw [15] (fun t' wr => ∃ i : Nat, i ≤ l.length ∧ t' = .int .i64 (i : Int) ∧ Below (w.heap.size + 1) (w.alloc (.cells #[.int .i64 t, .int .u8 (k : Int), .int .u8 (n : Int), .int .i16 v, .int .i64 b, .int .i64 g] 70)) wr ∧ Hid (groupOf l t b nx = groupOf (l.drop i) t b nx)) (fun t' _ => l.length - (intOf t').toNat)
    case atStart => exact ⟨0, Nat.zero_le _, rfl, Below.refl _ _, rfl⟩
    case round =>
      obtain ⟨i, hi, rfl, hbl, HH⟩ := hrel
      have d0 := (hbl.cell (p := ⟨w.heap.size, 0, none⟩) (by simp)).trans (by simp [go_sem] : _ = some (Value.int .i64 t))
      have d4 := (hbl.cell (p := ⟨w.heap.size, 4, none⟩) (by simp)).trans (by simp [go_sem] : _ = some (Value.int .i64 b))
      have hz := hbl.size
      simp only [World.size_alloc] at hz
      have hbw : Below w.heap.size w wr := ((Below.refl _ _).alloc (Nat.le_refl _) _).trans (hbl.mono (by omega))
      by_cases hlt : i < l.length
      · obtain ⟨gb, rfl, hg0, hg1, hnc, hcm, hcell, hfz⟩ := owns_cells hr (by omega)
        obtain ⟨x0, x1, x2, x3, x4, x5⟩ := evCells_at l i l[i] (by simp [hlt])
        have c0 := (hbw.cell (p := ⟨gb, i * 6, none⟩) hg1).trans (hcell _ _ x0)
        have c1 := (hbw.cell (p := ⟨gb, i * 6 + 1, none⟩) hg1).trans (hcell _ _ x1)
        have c2 := (hbw.cell (p := ⟨gb, i * 6 + 2, none⟩) hg1).trans (hcell _ _ x2)
        have c3 := (hbw.cell (p := ⟨gb, i * 6 + 3, none⟩) hg1).trans (hcell _ _ x3)
        have c4 := (hbw.cell (p := ⟨gb, i * 6 + 4, none⟩) hg1).trans (hcell _ _ x4)
        have c5 := (hbw.cell (p := ⟨gb, i * 6 + 5, none⟩) hg1).trans (hcell _ _ x5)
        have HS : Hid _ := (show groupOf (l.drop i) t b nx = if l[i].thread = t ∧ l[i].block = b then l[i].group else groupOf (l.drop (i + 1)) t b nx by rw [List.drop_eq_getElem_cons hlt]; exact groupOf_cons HB.out)
        clear hcell hfz x0 x1 x2 x3 x4 x5
        generalize l[i] = e at *
        have d0' := fun x => alloc_cell d0 x
        have d4' := fun x => alloc_cell d4 x
        by_cases h1 : e.thread = t
        · by_cases h2 : e.block = b
          · have e1 : (e.thread == t) = true := by simpa using h1
            have e2 : (e.block == b) = true := by simpa using h2
            have HV : Hid (groupOf l t b nx = e.group) := HH.out.trans (HS.out.trans (if_pos ⟨h1, h2⟩))
            clear h1 h2
            go_wp2
            go_ret
            exact ⟨ret_int HV.out.symm, hbw.alloc hbw.size _⟩
          · have e1 : (e.thread == t) = true := by simpa using h1
            have e2 : (e.block == b) = false := by simpa using h2
            have HV : Hid (groupOf l t b nx = groupOf (l.drop (i + 1)) t b nx) := HH.out.trans (HS.out.trans (if_neg (fun h => h2 h.2)))
            clear h1 h2
            go_wp2
            go_roundw
            case rel => exact ⟨i + 1, by omega, by go_num, hbl.alloc (by omega) _, HV.out⟩
            case measure => simp [intOf]; omega
        · have e1 : (e.thread == t) = false := by simpa using h1
          have HV : Hid (groupOf l t b nx = groupOf (l.drop (i + 1)) t b nx) := HH.out.trans (HS.out.trans (if_neg (fun h => h1 h.1)))
          clear h1
          go_wp2
          go_roundw
          case rel => exact ⟨i + 1, by omega, by go_num, hbl.alloc (by omega) _, HV.out⟩
          case measure => simp [intOf]; omega
      · have HV : Hid (groupOf l t b nx = nx) := HH.out.trans (by rw [List.drop_eq_nil_of_le (by omega)]; exact groupOf_nil _ _ _)
        go_wp2
        go_ret
        exact ⟨ret_int HV.out.symm, hbw⟩

end Go.Proofs.Ytfdafcnfefbcbaa
