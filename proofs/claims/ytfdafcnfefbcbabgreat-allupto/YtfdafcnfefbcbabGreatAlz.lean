/-
 Several texts of ours in one: AllSteps, LawArgs, AllArgs, AllWalk.
-/
import Derived.Test.YtfdafcnfefbcbabGreatAllStep
import Derived.Test.YtfdafcnfefbcbabGreatAllStep2
import Derived.Test.YtfdafcnfefbcbabGreatRfg
import Derived.Deep.Slices
import Derived.WalkKit
import Derived.ProofKit
import Derived.OpenShut
import Derived.ShutString
import Derived.ChangeOld
import Derived.SizedLaws
import Derived.Below
import Derived.Test.YtfdafcnfefbcbabGreatRows
/-
 Package interleavelaw: the contract of World.step.
-/
set_option maxRecDepth 100000
set_option maxHeartbeats 4000000
namespace Go.Proofs.YtfdafcnfefbcbabGreat
open Go.RowKit
set_option linter.unusedVariables false

/-- A step of a script. -/
structure Opr where
 kind : Int
 pp : Int
 ms : List Int
 sa : Option Addr
 scap : Nat
 t : ByteArray

def Opr.cells (o : Opr) : List Value := [.int .i64 o.kind, .int .i64 o.pp, .slice o.sa o.ms.length o.scap, .string o.t]
structure OprOk (w : World) (o : Opr) : Prop where
 seq : SeqIn w o.sa o.ms
 len : o.ms.length ≤ 17592186044416
 txt : o.t.size ≤ maxLen
 rng : -9223372036854775808 ≤ o.pp ∧ o.pp ≤ 9223372036854775807

theorem step_all {X : Nat → Prop} {Z w : World} {wb s np : Nat} (h : WOk X Z w wb s np) (hs : s ≤ 2000000) {B : Nat} (hB : B ≤ wb) (o : Opr) (ho : OprOk w o) :
  Calls Tryz.prog 4 #[.pointer (some ⟨wb, 0, none⟩), .agg #[.int .i64 o.kind, .int .i64 o.pp, .slice o.sa o.ms.length o.scap, .string o.t]] w fun e w' => e = .returned (.bool true) ∧ Below B w w' ∧ ∃ np', WOk X Z w' wb (s + 1) np' ∧ (o.kind ≠ 1 → np' = np) ∧ ((∃ p, Pl.new (bytesOf o.t) = .inr p) → o.kind = 1 → np' = np + 1) := by
 obtain ⟨kind, pp, ms, sa, scap, t⟩ := o
 obtain ⟨h1, h2, h3, h4⟩ := ho
 simp only at h1 h2 h3 h4 ⊢
 have fin : ∀ (hk : kind ≠ 1), (Calls Tryz.prog 4 #[.pointer (some ⟨wb, 0, none⟩), .agg #[.int .i64 kind, .int .i64 pp, .slice sa ms.length scap, .string t]] w fun e w' => e = .returned (.bool true) ∧ Below B w w' ∧ WOk X Z w' wb (s + 1) np) → (Calls Tryz.prog 4 #[.pointer (some ⟨wb, 0, none⟩), .agg #[.int .i64 kind, .int .i64 pp, .slice sa ms.length scap, .string t]] w fun e w' => e = .returned (.bool true) ∧ Below B w w' ∧ ∃ np', WOk X Z w' wb (s + 1) np' ∧ (kind ≠ 1 → np' = np) ∧ ((∃ p, Pl.new (bytesOf t) = .inr p) → kind = 1 → np' = np + 1)) := fun hk hc => by
  refine Calls.mono hc ?_
  rintro e w' ⟨h5, h6, h7⟩
  exact ⟨h5, h6, np, h7, fun _ => rfl, fun _ e => absurd e hk⟩
 by_cases k1 : kind = 1
 ·subst k1
  refine Calls.mono (step_new h hs hB pp ms sa scap t h3) ?_
  rintro e w' ⟨h5, h6, h7, h8⟩
  refine ⟨h5, h6, ?_⟩
  cases hn : Pl.new (bytesOf t) with
  | inl kn => exact ⟨np, h7 (fun p hp => by rw [hn] at hp; cases hp), fun _ => rfl, fun ⟨p, hp⟩ => by cases hp⟩
  | inr p => exact ⟨np + 1, h8 ⟨p, hn⟩, fun e => absurd rfl e, fun _ _ => rfl⟩
 ·by_cases k2 : kind = 2
  ·subst k2; exact fin (by omega) (step_threads h hs hB pp h4 ms sa scap h1 h2 t)
  ·by_cases k3 : kind = 3
   ·subst k3; exact fin (by omega) (step_ready h hs hB pp h4 ms sa scap h1 h2 t)
   ·by_cases k4 : kind = 4
    ·subst k4; exact fin (by omega) (step_play h hs hB pp h4 ms sa scap h1 h2 t)
    ·by_cases k5 : kind = 5
     ·subst k5; exact fin (by omega) (step_events h hs hB pp h4 ms sa scap h1 h2 t)
     ·by_cases k6 : kind = 6
      ·subst k6; exact fin (by omega) (step_cycle h hs hB pp h4 ms sa scap h1 h2 t)
      ·by_cases k7 : kind = 7
       ·subst k7; exact fin (by omega) (step_arrange h hs hB pp h4 ms sa scap h1 h2 t)
       ·by_cases k8 : kind = 8
        ·subst k8; exact fin (by omega) (step_check h hs hB pp h4 ms sa scap h1 h2 t)
        ·by_cases k9 : kind = 9
         ·subst k9; exact fin (by omega) (step_ends h hs hB pp h4 ms sa scap h1 h2 t)
         ·exact fin k1 (step_other h hs hB kind (by simpa using k1) (by simpa using k2) (by simpa using k3) (by simpa using k4) (by simpa using k5) (by simpa using k6) (by simpa using k7) (by simpa using k8) (by simpa using k9) pp h4 ms sa scap h1 h2 t)

end Go.Proofs.YtfdafcnfefbcbabGreat

/-
 How a schedule among the arguments lies in memory, out of the reading of a slice.
-/
namespace Go.Proofs.YtfdafcnfefbcbabGreat
open Go.ChangeShapes Go.WideShapes Go.ChangeAt Go.RowKit
set_option linter.unusedVariables false

theorem add_off (b off : Nat) (i : Nat) : (⟨b, off, none⟩ : Addr).add i = ⟨b, off + i, none⟩ := by
 unfold Addr.add
 split <;> simp_all

theorem seq_of {H : Type} {enc : TypeId × Value → H} {W : World} {base : Nat} {spare : Nat → Bool} {held : Bool} {fuel : Nat} {a : Option Addr} {len cap : Nat} {x : DataW H × List MemPlace}
  (h : DataW.trod enc Tryz.prog W base spare held fuel 31 [.slice a len cap] = some x) : ∃ rs : List Int, rs.length = len ∧ SeqIn W a rs := by
 rcases open_ints Tryz.underlying31 Tryz.underlying3 (by kernel_rfl) h with ⟨hcs, -⟩ | ⟨x', l, c, zs, hcs, -, hl, hm, hz, -, hcell, hwz⟩
 ·simp at hcs
  obtain ⟨-, rfl, -⟩ := hcs
  exact ⟨[], rfl, fun h0 => by simp at h0⟩
 ·simp at hcs
  obtain ⟨rfl, rfl, rfl⟩ := hcs
  have hlz : len ≤ zs.length := by rw [hz]; split <;> omega
  refine ⟨zs.take len, by simp; omega, fun h0 => ?_⟩
  have h0' : 0 < zs.length := by simp at h0; omega
  obtain ⟨b, off, spot⟩ := x'
  have hsp := World.cell?_spot (hcell 0 h0')
  have hspot : spot = none := by simpa [Addr.add] using hsp
  subst hspot
  have k0 := hcell 0 h0'
  rw [add_off] at k0
  refine ⟨b, off, rfl, World.block_lt_of_cell? W _ k0, fun i r hr => ?_⟩
  have hi : i < len ∧ i < zs.length := by have := (List.getElem?_eq_some_iff.1 hr).1; simp at this; omega
  have hr' : zs[i]? = some r := by rw [List.getElem?_take, if_pos hi.1] at hr; exact hr
  have := hcell i hi.2
  rw [add_off] at this
  have hg : zs.getD i 0 = r := by simp [List.getD, hr']
  rw [hg] at this
  exact this

end Go.Proofs.YtfdafcnfefbcbabGreat

/-
 How the steps of a script lie in memory, out of the reading of a slice.
-/
namespace Go.Proofs.YtfdafcnfefbcbabGreat
open Go.ChangeShapes Go.WideShapes Go.ChangeAt Go.RowKit
set_option linter.unusedVariables false

theorem wf_i64 {a : Int} (h : (Lit.int .i64 a).wf = true) : -9223372036854775808 ≤ a ∧ a ≤ 9223372036854775807 := by
 have h1 : IntKind.i64.min = -9223372036854775808 := by decide
 have h2 : IntKind.i64.max = 9223372036854775807 := by decide
 simp [Lit.wf, h1, h2] at h
 exact ⟨h.1, h.2⟩

theorem bulk_one {H : Type} (d : DataW H) : 1 ≤ Rows.uptoBulk d := by
 cases d with
 | lit l => cases l <;> simp [Rows.uptoBulk]
 | nil => simp [Rows.uptoBulk]
 | ptr d => simp [Rows.uptoBulk]
 | slice elems spare => simp [Rows.uptoBulk]
 | agg parts => simp [Rows.uptoBulk]
 | iface t d => simp [Rows.uptoBulk]
 | map entries => simp [Rows.uptoBulk]
 | held h => simp [Rows.uptoBulk]

theorem bulk_in {H : Type} {d : DataW H} : ∀ {l : List (DataW H)}, d ∈ l → Rows.uptoBulk d ≤ Rows.uptoBulkAll l
 | [], h => by cases h
 | x :: r, h => by
  simp only [Rows.uptoBulkAll]
  rcases List.mem_cons.1 h with rfl | h
  ·omega
  ·have := bulk_in h; omega

theorem bulk_len {H : Type} : ∀ (l : List (DataW H)), l.length ≤ Rows.uptoBulkAll l
 | [] => by simp [Rows.uptoBulkAll]
 | x :: r => by
  have := bulk_one x
  have := bulk_len r
  simp only [Rows.uptoBulkAll, List.length_cons]
  omega

/-- The steps of a script behind a slice. -/
def OpsIn (w : World) (a : Option Addr) (os : List Opr) : Prop :=
 0 < os.length → ∃ g o, a = some ⟨g, o, none⟩ ∧ g < w.heap.size ∧ ∀ i x, os[i]? = some x → w.rangeAt g (o + i * 4) x.cells ∧ OprOk w x

theorem cells_four {w : World} {g o : Nat} {v0 v1 v2 v3 : Value} (h0 : w.cell? ⟨g, o, none⟩ = some v0) (h1 : w.cell? ⟨g, o + 1, none⟩ = some v1) (h2 : w.cell? ⟨g, o + 2, none⟩ = some v2) (h3 : w.cell? ⟨g, o + 3, none⟩ = some v3) : w.rangeAt g o [v0, v1, v2, v3] := fun j v hv => by
 match j with
 | 0 => simp at hv; subst hv; exact h0
 | 1 => simp at hv; subst hv; exact h1
 | 2 => simp at hv; subst hv; exact h2
 | 3 => simp at hv; subst hv; exact h3
 | j + 4 => simp at hv

theorem ops_of {H : Type} {enc : TypeId × Value → H} {W : World} {base : Nat} {spare : Nat → Bool} {held : Bool} {fuel : Nat} {a : Option Addr} {len cap : Nat} {x : DataW H × List MemPlace}
  (h : DataW.trod enc Tryz.prog W base spare held fuel 22 [.slice a len cap] = some x) (hk : Rows.uptoBulk x.1 ≤ 1048576) : ∃ os : List Opr, os.length = len ∧ len ≤ 1048576 ∧ OpsIn W a os := by
 rcases Go.Deep.open_slice Tryz.underlying22 h with ⟨hcs, -⟩ | ⟨a', l, c, m, n, D, Pl, hcs, hb, hl, hm, hmm, hxx, hx⟩
 ·simp at hcs
  obtain ⟨-, rfl, -⟩ := hcs
  exact ⟨[], rfl, by omega, fun h0 => by simp at h0⟩
 ·simp at hcs
  obtain ⟨rfl, rfl, rfl⟩ := hcs
  have hlm : len ≤ m := by rw [hmm]; split <;> omega
  rw [hxx] at hk
  have hk2 : Rows.uptoBulkAll ((List.range len).map D) ≤ 1048576 := by simp only [Rows.uptoBulk] at hk; omega
  have hln : len ≤ 1048576 := by have := bulk_len ((List.range len).map D); simp at this; omega
  have ce : Tryz.prog.cellsOf 33 = 4 := by kernel_rfl
  have c1 : Tryz.prog.cellsOf 3 = 1 := by kernel_rfl
  have c2 : Tryz.prog.cellsOf 31 = 1 := by kernel_rfl
  have c3 : Tryz.prog.cellsOf 9 = 1 := by kernel_rfl
  have each : ∀ i, i < len → ∃ r : Opr, W.cell? (a'.add (i * 4)) = some (.int .i64 r.kind) ∧ W.cell? (a'.add (i * 4 + 1)) = some (.int .i64 r.pp) ∧ W.cell? (a'.add (i * 4 + 2)) = some (.slice r.sa r.ms.length r.scap) ∧ W.cell? (a'.add (i * 4 + 3)) = some (.string r.t) ∧ OprOk W r := by
   intro i hi
   obtain ⟨cs', h1, h2⟩ := hx i (by omega)
   rw [ce] at h1
   obtain ⟨-, hlen, hcell⟩ := World.cells?_some h1
   obtain ⟨xs, k, hk3, hd, -, hxl, hf⟩ := DataW.trod_struct Tryz.underlying33 h2
   have hDi : D i = .agg (xs.map (·.1)) := congrArg Prod.fst hd
   have hki : Rows.uptoBulk (D i) ≤ 1048576 := Nat.le_trans (bulk_in (List.mem_map.2 ⟨i, List.mem_range.2 hi, rfl⟩)) hk2
   rw [hDi] at hki
   clear hd hDi hk3 hk2 hk hxx hx h1 h2
   match xs, hxl, cs', hlen with
   | [y0, y1, y2, y3], _, [v0, v1, v2, v3], _ =>
    have g0 := hf 0 _ rfl
    have g1 := hf 1 _ rfl
    have g2 := hf 2 _ rfl
    have g3 := hf 3 _ rfl
    simp [c1, c2, c3] at g0 g1 g2 g3
    obtain ⟨z0, e0, -, q0⟩ := DataW.trod_int Tryz.underlying3 g0
    obtain ⟨z1, e1, -, q1⟩ := DataW.trod_int Tryz.underlying3 g1
    obtain ⟨t, e3, -, q3⟩ := DataW.trod_string Tryz.underlying9 g3
    simp at e0 e1 e3
    have hb2 : Rows.uptoBulk y2.1 ≤ 1048576 := by
     have : Rows.uptoBulk y2.1 ≤ Rows.uptoBulkAll [y0.1, y1.1, y2.1, y3.1] := bulk_in (by simp)
     simp only [List.map_cons, List.map_nil, Rows.uptoBulk] at hki
     omega
    obtain ⟨sa, sl, sc, e2, hsl⟩ : ∃ sa sl sc, v2 = .slice sa sl sc ∧ sl ≤ 1048576 := by
     rcases Go.Deep.open_slice Tryz.underlying31 g2 with ⟨hcs, -⟩ | ⟨a2, l2, c2, m2, n2, D2, P2, hcs, -, -, -, -, hx2, -⟩
     ·simp at hcs
      exact ⟨none, 0, 0, hcs, by omega⟩
     ·simp at hcs
      refine ⟨some a2, l2, c2, hcs, ?_⟩
      rw [hx2] at hb2
      have := bulk_len ((List.range l2).map D2)
      simp only [Rows.uptoBulk] at hb2
      simp at this
      omega
    subst e2
    obtain ⟨ms, hms, hseq⟩ := seq_of g2
    subst hms
    have d0 := hcell 0 (by omega)
    have d1 := hcell 1 (by omega)
    have d2 := hcell 2 (by omega)
    have d3 := hcell 3 (by omega)
    rw [Go.Deep.add_add] at d0 d1 d2 d3
    refine ⟨⟨z0, z1, ms, sa, sc, t⟩, ?_, ?_, ?_, ?_, ⟨hseq, by show ms.length ≤ _; omega, q3, wf_i64 q1⟩⟩
    ·simpa [e0] using d0
    ·simpa [e1] using d1
    ·simpa using d2
    ·simpa [e3] using d3
  have inh : Inhabited Opr := ⟨⟨0, 0, [], none, 0, ByteArray.empty⟩⟩
  obtain ⟨f, hf⟩ := Go.Deep.choose_lt each
  refine ⟨(List.range len).map f, by simp, hln, fun h0 => ?_⟩
  have h0' : 0 < len := by simpa using h0
  obtain ⟨b, off, spot⟩ := a'
  have hsp := World.cell?_spot (hf 0 h0').1
  have hspot : spot = none := by simpa [Addr.add] using hsp
  subst hspot
  refine ⟨b, off, rfl, World.block_lt_of_cell? W ⟨b, off, none⟩ (u := .int .i64 (f 0).kind) (by have := (hf 0 h0').1; simpa [add_off] using this), fun i r hr => ?_⟩
  have hi : i < len := by have := (List.getElem?_eq_some_iff.1 hr).1; simpa using this
  have hr' : f i = r := by simpa [hi] using hr
  subst hr'
  have := hf i hi
  simp only [add_off] at this
  obtain ⟨k0, k1, k2, k3, k4⟩ := this
  exact ⟨cells_four k0 k1 k2 k3, k4⟩

end Go.Proofs.YtfdafcnfefbcbabGreat

/-
 The walk of interleavelaw.All.
-/
namespace Go.Proofs.YtfdafcnfefbcbabGreat
open Go.RowKit
set_option linter.unusedVariables false

theorem Tryz.size33 : (Tryz.prog.info? 33).map (·.size) = some 4 := by kernel_rfl

/-- A World as it is made. -/
theorem wok_new {V : World} {wb : Nat} (hc : ∀ j, j < 6 → j ≠ 2 → V.cell? ⟨wb, j, none⟩ = some (.slice none 0 0)) (h2 : V.cell? ⟨wb, 2, none⟩ = some (.int .i64 0)) (hf : ∀ j, V.frozen? ⟨wb, j, none⟩ = false) (hl : wb < V.heap.size) (X : Nat → Prop) (hX : ∀ q, X q → q ≠ wb ∧ q < V.heap.size) : WOk X V V wb 0 0 := by
 refine ⟨X, 0, fun _ => 0, fun _ => [], fun _ => ⟨none, 0⟩, [], [], [], [], ⟨⟨fun i hi => ?_, h2, hf, fun i hi => World.ownsRow_nil _ _ _ _, fun i j _ _ _ q hq => ?_, ⟨fun h => (hX wb h).1 rfl, fun i _ q hq => ?_⟩, fun q h => (hX q h).2, hl⟩, ⟨rfl, rfl⟩, ⟨rfl, rfl⟩, ⟨rfl, rfl⟩, ⟨rfl, rfl⟩, ⟨rfl, rfl⟩, fun P h => ?_, fun r h => ?_, fun r h => ?_, fun r h => ?_, fun q h => ⟨h, rfl⟩⟩, rfl, by omega, by omega, by simp, by simp, by simp⟩
 ·refine hc (fld i) ?_ (fld_two i)
  match i with
  | 0 => simp [fld]
  | 1 => simp [fld]
  | i + 2 => simp [fld]; omega
 ·cases hq
 ·cases hq
 ·cases h
 ·cases h
 ·cases h
 ·cases h

theorem WOk.ps {X : Nat → Prop} {V w : World} {wb s np : Nat} (h : WOk X V w wb s np) : ∃ a cap, w.cell? ⟨wb, 0, none⟩ = some (.slice a np cap) := by
 obtain ⟨D, nl, n, cs, rw, ps, I, E, R, h1, h2, -⟩ := h
 have := h1.rows.cell 0 (by omega)
 rw [h1.n0.1, h2] at this
 exact ⟨_, _, this⟩

theorem WOk.ex {X : Nat → Prop} {V w : World} {wb s np : Nat} (h : WOk X V w wb s np) : ∀ q, X q → w.heap[q]? = V.heap[q]? := by
 obtain ⟨D, nl, n, cs, rw, ps, I, E, R, h1, h2, -⟩ := h
 exact fun q hq => (h1.ex q hq).2

/-- A step of a script keeps where its blocks keep. -/
theorem OpsIn.keep {w w' : World} {g o : Nat} {os : List Opr} (h : OpsIn w (some ⟨g, o, none⟩) os) (hz : w.heap.size ≤ w'.heap.size) (hg : w'.heap[g]? = w.heap[g]?) (hs : ∀ x ∈ os, ∀ q p, x.sa = some ⟨q, p, none⟩ → 0 < x.ms.length → q < w.heap.size → w'.heap[q]? = w.heap[q]?) {i : Nat} {x : Opr} (hx : os[i]? = some x) : w'.rangeAt g (o + i * 4) x.cells ∧ OprOk w' x := by
 obtain ⟨g', o', e, hl, hc⟩ := h (by have := (List.getElem?_eq_some_iff.1 hx).1; omega)
 cases e
 obtain ⟨h1, h2, h3, h4⟩ := (hc i x hx).2
 refine ⟨range_block (hc i x hx).1 hg, fun h5 => ?_, h2, h3, h4⟩
 obtain ⟨q, p, e, hq, hcell⟩ := h1 h5
 exact ⟨q, p, e, Nat.lt_of_lt_of_le hq hz, fun k y hy => (World.cell?_of_block (w := w) (a := ⟨q, p + k, none⟩) (hs x (List.mem_of_getElem? hx) q p e h5 hq)).trans (hcell k y hy)⟩

/-- The six steps at the head. -/
def headOps (a b : Nat) : List Opr := [⟨1, 0, [], none, 0, exText⟩, ⟨3, 0, [], none, 0, ⟨#[]⟩⟩, ⟨5, 0, [0, 1], some ⟨a, 0, none⟩, 2, ⟨#[]⟩⟩, ⟨7, 0, [1, 1], some ⟨b, 0, none⟩, 2, ⟨#[]⟩⟩, ⟨8, 0, [], none, 0, ⟨#[]⟩⟩, ⟨9, 0, [], none, 0, ⟨#[]⟩⟩]

theorem head_at {a b i : Nat} {x : Opr} (h : (headOps a b)[i]? = some x) : (i = 0 → x.kind = 1 ∧ x.t = exText) ∧ (i ≠ 0 → x.kind ≠ 1) ∧ ∀ q p, x.sa = some ⟨q, p, none⟩ → q = a ∨ q = b := by
 match i with
 | 0 => simp [headOps] at h; subst h; simp
 | 1 => simp [headOps] at h; subst h; simp
 | 2 => simp [headOps] at h; subst h; simp
 | 3 => simp [headOps] at h; subst h; simp
 | 4 => simp [headOps] at h; subst h; simp
 | 5 => simp [headOps] at h; subst h; simp
 | i + 6 => simp [headOps] at h

structure HeadAt (w V : World) : Prop where
 wok : WOk (fun q => w.heap.size < q ∧ q < w.heap.size + 4) V V w.heap.size 0 0
 ops : OpsIn V (some ⟨w.heap.size + 1 + 1 + 1, 0, none⟩) (headOps (w.heap.size + 1) (w.heap.size + 1 + 1))
 bel : Below w.heap.size w V
 sz : V.heap.size = w.heap.size + 4

theorem head_made {w V : World} (h : V = ((((w.alloc (.cells #[.slice none 0 0, .slice none 0 0, .int .i64 0, .slice none 0 0, .slice none 0 0, .slice none 0 0] 30)).alloc (.cells #[.int .i64 0, .int .i64 1] 3)).alloc (.cells #[.int .i64 1, .int .i64 1] 3)).alloc (.cells #[.int .i64 1, .int .i64 0, .slice none 0 0, .string ⟨#[91, 114, 97, 43, 49, 119, 97, 93, 10, 91, 114, 97, 43, 49, 119, 97, 93]⟩, .int .i64 3, .int .i64 0, .slice none 0 0, .string ⟨#[]⟩, .int .i64 5, .int .i64 0, .slice (some ⟨w.heap.size + 1, 0, none⟩) 2 2, .string ⟨#[]⟩, .int .i64 7, .int .i64 0, .slice (some ⟨w.heap.size + 1 + 1, 0, none⟩) 2 2, .string ⟨#[]⟩, .int .i64 8, .int .i64 0, .slice none 0 0, .string ⟨#[]⟩, .int .i64 9, .int .i64 0, .slice none 0 0, .string ⟨#[]⟩] 33))) : HeadAt w V := by
 subst h
 refine ⟨wok_new (fun j hj hj2 => ?_) (by simp [go_sem]) (fun j => ?_) (by simp [go_sem]) _ (fun q hq => ⟨by omega, by simp; omega⟩), fun _ => ⟨_, _, rfl, by simp, fun i x hx => ?_⟩, ?_, by simp⟩
 ·match j with
  | 0 => simp [go_sem]
  | 1 => simp [go_sem]
  | 2 => omega
  | 3 => simp [go_sem]
  | 4 => simp [go_sem]
  | 5 => simp [go_sem]
  | j + 6 => omega
 ·simp [go_sem]
 ·match i with
  | 0 => simp [headOps] at hx; subst hx; exact ⟨cells_four (by simp [go_sem]) (by simp [go_sem]) (by simp [go_sem]) (by simp [go_sem]; try rfl), fun h => by simp at h, by simp, by decide, by simp⟩
  | 1 => simp [headOps] at hx; subst hx; exact ⟨cells_four (by simp [go_sem]) (by simp [go_sem]) (by simp [go_sem]) (by simp [go_sem]; try rfl), fun h => by simp at h, by simp, by decide, by simp⟩
  | 2 => simp [headOps] at hx; subst hx; exact ⟨cells_four (by simp [go_sem]) (by simp [go_sem]) (by simp [go_sem]) (by simp [go_sem]; try rfl), fun _ => ⟨_, _, rfl, by simp, fun i x hx => by match i with | 0 => simp at hx; subst hx; simp [go_sem] | 1 => simp at hx; subst hx; simp [go_sem] | i + 2 => simp at hx⟩, by simp, by show (0 : Nat) ≤ _; omega, by simp⟩
  | 3 => simp [headOps] at hx; subst hx; exact ⟨cells_four (by simp [go_sem]) (by simp [go_sem]) (by simp [go_sem]) (by simp [go_sem]; try rfl), fun _ => ⟨_, _, rfl, by simp, fun i x hx => by match i with | 0 => simp at hx; subst hx; simp [go_sem] | 1 => simp at hx; subst hx; simp [go_sem] | i + 2 => simp at hx⟩, by simp, by show (0 : Nat) ≤ _; omega, by simp⟩
  | 4 => simp [headOps] at hx; subst hx; exact ⟨cells_four (by simp [go_sem]) (by simp [go_sem]) (by simp [go_sem]) (by simp [go_sem]; try rfl), fun h => by simp at h, by simp, by decide, by simp⟩
  | 5 => simp [headOps] at hx; subst hx; exact ⟨cells_four (by simp [go_sem]) (by simp [go_sem]) (by simp [go_sem]) (by simp [go_sem]; try rfl), fun h => by simp at h, by simp, by decide, by simp⟩
  | i + 6 => simp [headOps] at hx
 ·exact ((((Below.refl _ _).alloc (Nat.le_refl _) _).alloc (by simp) _).alloc (by simp; omega) _).alloc (by simp; omega) _

theorem all_walk (os : List Opr) (a : Option Addr) (cap : Nat) (w : World) (h : OpsIn w a os) (hl : os.length ≤ 1048576) :
  Calls Tryz.prog 3 #[.slice a os.length cap] w fun e w' => e = .returned (.bool true) ∧ Below w.heap.size w w' := by
 have HOS : Hid (OpsIn w a os) := h
 clear h
 go_enter Tryz.func3, Tryz.ntmps3
 go_upto_region 3 with fail
 generalize hV : ((((w.alloc (.cells #[.slice none 0 0, .slice none 0 0, .int .i64 0, .slice none 0 0, .slice none 0 0, .slice none 0 0] 30)).alloc (.cells #[.int .i64 0, .int .i64 1] 3)).alloc (.cells #[.int .i64 1, .int .i64 1] 3)).alloc (.cells #[.int .i64 1, .int .i64 0, .slice none 0 0, .string ⟨#[91, 114, 97, 43, 49, 119, 97, 93, 10, 91, 114, 97, 43, 49, 119, 97, 93]⟩, .int .i64 3, .int .i64 0, .slice none 0 0, .string ⟨#[]⟩, .int .i64 5, .int .i64 0, .slice (some ⟨w.heap.size + 1, 0, none⟩) 2 2, .string ⟨#[]⟩, .int .i64 7, .int .i64 0, .slice (some ⟨w.heap.size + 1 + 1, 0, none⟩) 2 2, .string ⟨#[]⟩, .int .i64 8, .int .i64 0, .slice none 0 0, .string ⟨#[]⟩, .int .i64 9, .int .i64 0, .slice none 0 0, .string ⟨#[]⟩] 33)) = V at *
 have HF : Hid (HeadAt w V) := head_made hV.symm
 clear hV
 go_wp2_with fail
 go_loopw [5] (fun v5 wr => ∃ i : Nat, i ≤ 6 ∧ v5 = .int .i64 (i : Int) ∧ Hid (Below w.heap.size w wr ∧ V.heap.size ≤ wr.heap.size ∧ WOk (fun q => w.heap.size < q ∧ q < w.heap.size + 4) V wr w.heap.size i (if i = 0 then 0 else 1))) (fun v5 _ => 6 - (intOf v5).toNat)
 case atStart => exact ⟨0, by omega, rfl, (show Hid _ from ⟨HF.out.bel, Nat.le_refl _, HF.out.wok⟩)⟩
 case round =>
  obtain ⟨i, hi, rfl, H1⟩ := hrel
  by_cases hil : i < 6
  ·have hil' : (i : Int) < 6 := by omega
   obtain ⟨x, hx⟩ : ∃ x, (headOps (w.heap.size + 1) (w.heap.size + 1 + 1))[i]? = some x := ⟨_, List.getElem?_eq_getElem (by simpa [headOps] using hil)⟩
   have HX : Hid _ := hx
   have HK : Hid (wr.rangeAt (w.heap.size + 1 + 1 + 1) (0 + i * 4) x.cells ∧ OprOk wr x) := HF.out.ops.keep H1.out.2.1 (H1.out.2.2.ex _ ⟨by omega, by omega⟩) (fun y hy q p e h0 _ => by
     obtain ⟨j, hj⟩ := List.getElem?_of_mem hy
     have := (head_at hj).2.2 q p e
     exact H1.out.2.2.ex q ⟨by omega, by omega⟩) hx
   clear hx
   have hr : wr.rangeAt (w.heap.size + 1 + 1 + 1) (i * 4) x.cells := by have := HK.out.1; rwa [Nat.zero_add] at this
   go_upto_region 7 with (first | refine wpList_load_mid rfl 33 _ rfl (w.heap.size + 1 + 1 + 1) (i * 4) rfl x.cells _ hr Tryz.underlying33 rfl Tryz.size33 ?_ | (go_at_call 4; refine (step_all H1.out.2.2 (by omega) (Nat.le_refl _) x HK.out.2).mono ?_; rintro e w1 ⟨rfl, hb1, np, hk1, hne1, hnew⟩; clear hr))
   have hnp : np = 1 := by
    obtain ⟨hx0, hx1, -⟩ := head_at HX.out
    by_cases h0 : i = 0
    ·obtain ⟨e1, e2⟩ := hx0 h0
     have := hnew ⟨_, by rw [e2]; exact ex_new⟩ e1
     rw [if_pos h0] at this
     exact this
    ·have := hne1 (hx1 h0)
     rw [if_neg h0] at this
     exact this
   subst hnp
   have HN : Hid (Below w.heap.size w w1 ∧ V.heap.size ≤ w1.heap.size ∧ WOk (fun q => w.heap.size < q ∧ q < w.heap.size + 4) V w1 w.heap.size (i + 1) 1) := ⟨H1.out.1.trans hb1, Nat.le_trans H1.out.2.1 hb1.size, hk1⟩
   obtain ⟨pa, pcap, c0⟩ := hk1.ps
   clear hb1 hk1 hne1 hnew
   go_wp2
   go_roundw
   case rel => exact ⟨i + 1, by omega, by go_num, (show Hid _ from HN.out)⟩
   case measure => simp [intOf]; omega
  ·have hil' : ¬ (i : Int) < 6 := by omega
   have H6 : Hid (Below w.heap.size w wr ∧ WOk (fun q => w.heap.size < q ∧ q < w.heap.size + 4) V wr w.heap.size 6 1) := by
    obtain ⟨h1, -, h3⟩ := H1.out
    obtain rfl : i = 6 := by omega
    exact ⟨h1, h3⟩
   clear H1
   go_wp2_with fail
   go_loopw [7] (fun v7 wr => ∃ i : Nat, i ≤ os.length ∧ v7 = .int .i64 (i : Int) ∧ Hid (Below w.heap.size w wr ∧ ∃ np, WOk (fun q => w.heap.size < q ∧ q < w.heap.size + 4) V wr w.heap.size (6 + i) np)) (fun v7 _ => os.length - (intOf v7).toNat)
   case atStart => exact ⟨0, by omega, rfl, (show Hid _ from ⟨H6.out.1, 1, H6.out.2⟩)⟩
   case round =>
    obtain ⟨i, hi, rfl, H1⟩ := hrel
    by_cases hil : i < os.length
    ·have hil' : (i : Int) < (os.length : Int) := by omega
     obtain ⟨g, o, rfl, hg, -⟩ := HOS.out (by omega)
     obtain ⟨x, hx⟩ : ∃ x, os[i]? = some x := ⟨_, List.getElem?_eq_getElem hil⟩
     have HK : Hid (wr.rangeAt g (o + i * 4) x.cells ∧ OprOk wr x) := HOS.out.keep H1.out.1.size (H1.out.1.block g hg) (fun y hy q p e h0 hq => H1.out.1.block q hq) hx
     clear hx
     have hr := HK.out.1
     obtain ⟨np, hw⟩ := H1.out.2
     have HW : Hid _ := hw
     clear hw
     go_upto_region 13 with (first | refine wpList_load_mid rfl 33 _ rfl g (o + i * 4) rfl x.cells _ hr Tryz.underlying33 rfl Tryz.size33 ?_ | (go_at_call 4; refine (step_all HW.out (by omega) (Nat.le_refl _) x HK.out.2).mono ?_; rintro e w1 ⟨rfl, hb1, np1, hk1, -, -⟩; clear hr))
     go_wp2_with (go_at_call 5; refine (looks_ok hk1 (by omega)).mono ?_; rintro e w2 ⟨rfl, hb2⟩)
     have HN : Hid (Below w.heap.size w w2 ∧ ∃ np, WOk (fun q => w.heap.size < q ∧ q < w.heap.size + 4) V w2 w.heap.size (6 + (i + 1)) np) := ⟨H1.out.1.trans (hb1.trans (hb2.mono (Nat.le_trans H1.out.1.size hb1.size))), np1, hk1.below hb2⟩
     clear hb1 hk1 hb2
     go_wp2
     go_roundw
     case rel => exact ⟨i + 1, by omega, by go_num, (show Hid _ from HN.out)⟩
     case measure => simp [intOf]; omega
    ·have hil' : ¬ (i : Int) < (os.length : Int) := by omega
     have HB : Hid (Below w.heap.size w wr) := H1.out.1
     clear H1
     go_wp2
     go_ret
     exact ⟨rfl, HB.out⟩

end Go.Proofs.YtfdafcnfefbcbabGreat
