/-
  Package interleavekeep: the contracts of whole and alike.
-/
import Derived.Test.YtfdafcnfefbcbabLine2
import Derived.Test.YtfdafcnfefbcbabKeep1
namespace Go.Proofs.Ytfdafcnfefbcbab
open Go.RowKit
set_option linter.unusedVariables false

theorem owns_new1 (w : World) (x : Int) : (w.alloc (.cells #[.int .i64 x] 3)).ownsRow w.heap.size 3 1 (.slice (some ⟨w.heap.size, 0, none⟩) 1 1) 1 (intCells [x]) :=
  ⟨rfl, .inr ⟨w.heap.size, 1, #[.int .i64 x], rfl, Nat.le_refl _, heap_alloc_new w _, Nat.le_refl _, by decide, rfl, rfl⟩⟩

theorem nums_of_owns {w : World} {lo : Nat} {a : Option Addr} {cap : Nat} {ms : List Int} (h : w.ownsRow lo 3 1 (.slice a ms.length cap) ms.length (intCells ms)) (hi : ∀ x ∈ ms, InI64 x) : NumsIn w a ms := fun h0 => by
  obtain ⟨g, rfl, -, hg, -, -, hc, -⟩ := owns_cells h h0
  exact ⟨g, 0, rfl, hg, fun i m hm => ⟨by rw [Nat.zero_add]; exact hc i _ (by simp [intCells, hm]), hi m (List.mem_of_getElem? hm)⟩⟩

/-- What whole rests on while it lists the numbers. -/
structure WhAt (w wr : World) (H : Nat) (cs mo : List Int) (ca : Option Addr) (ccap : Nat) (ma : Option Addr) (mcap : Nat) : Prop where
  c : OwnsIn wr w.heap.size H 3 1 (.slice ca cs.length ccap) cs.length (intCells cs)
  m : wr.ownsRow H 3 1 (.slice ma mo.length mcap) mo.length (intCells mo)
  bl : Below w.heap.size w wr
  h1 : w.heap.size ≤ H
  h2 : H ≤ wr.heap.size
  ci : ∀ x ∈ cs, InI64 x
  mi : ∀ x ∈ mo, InI64 x

theorem WhAt.below {w wr wr' : World} {H : Nat} {cs mo : List Int} {ca : Option Addr} {ccap : Nat} {ma : Option Addr} {mcap : Nat} (h : WhAt w wr H cs mo ca ccap ma mcap) (hb : Below wr.heap.size wr wr') : WhAt w wr' H cs mo ca ccap ma mcap :=
  ⟨h.c.below (hb.mono h.h2), ((ownsRow_in h.m).below hb).1, h.bl.trans (hb.mono h.bl.size), h.h1, Nat.le_trans h.h2 hb.size, h.ci, h.mi⟩

theorem WhAt.put {w wr wr' : World} {H : Nat} {cs mo : List Int} {ca : Option Addr} {ccap : Nat} {ma : Option Addr} {mcap : Nat} (h : WhAt w wr H cs mo ca ccap ma mcap) {x : Int} {gg cap1 : Nat} (hx : InI64 x)
    (hown : wr'.ownsRow H 3 1 (.slice (some ⟨gg, 0, none⟩) (mo.length + 1) cap1) (mo.length + 1) (intCells mo ++ [.int .i64 x])) (hgrow : wr.grownBy wr' (Value.slice ma mo.length mcap).ownBlock) : WhAt w wr' H cs (mo ++ [x]) ca ccap (some ⟨gg, 0, none⟩) cap1 := by
  refine ⟨h.c.of_block fun g hg => hgrow.block g (h.c.1.lt g hg).2 (fun e => ?_), by simpa [intCells] using hown, h.bl.grown hgrow h.bl.size (fun y hy => Nat.le_trans h.h1 (h.m.lt y hy).1), h.h1, Nat.le_trans h.h2 hgrow.size, h.ci, fun y hy => ?_⟩
  · have h1 := h.c.2 g hg
    have h2 := (h.m.lt g e.symm).1
    omega
  · rcases List.mem_append.1 hy with hy | hy
    · exact h.mi y hy
    · rw [List.mem_singleton] at hy; subst hy; exact hx

/-- What whole answers: a schedule on to its end. -/
def WholeSays (p : List (List Pl.POp)) (w : World) (e : Ending) (w' : World) : Prop :=
  ∃ ms ma mcap S es, e = .returned (.tuple #[.slice ma ms.length mcap, .bool true]) ∧ LineAt p w w' ms ma mcap S es ∧ readyTo S p 4 = []

set_option maxRecDepth 100000 in
set_option maxHeartbeats 2000000 in
theorem whole_any (p : List (List Pl.POp)) (lo hi b : Nat) (rs : List Int) (ra : Option Addr) (rcap : Nat) (w : World) (hp : ProgIn w lo hi b p) (hs : Tiny p) (hc10 : Pl.countShared p ≤ 10) (hh : hi ≤ w.heap.size) (hr : NumsIn w ra rs) (hl : rs.length * 8 ≤ 140737488351232) :
    Calls Try.prog 6 #[.pointer (some ⟨b, 0, none⟩), .slice ra rs.length rcap] w fun e w' => WholeSays p w e w' := by
  have HP : Hid (ProgIn w lo hi b p) := hp
  have HS : Hid _ := hs
  have HR : Hid _ := hr
  have HC : Hid _ := hc10
  clear hp hs hr hc10
  obtain ⟨i0, hi0, hz0, hz1, hz2⟩ := info_parts Try.info3
  go_enter Try.func6, Try.ntmps6
  go_upto_region 2 with fail
  have HB0 : Hid (Below w.heap.size w (w.alloc (.cells #[.int .i64 0] 3))) := (Below.refl _ _).alloc (Nat.le_refl _) _
  have HO0 : Hid ((w.alloc (.cells #[.int .i64 0] 3)).ownsRow w.heap.size 3 1 (.slice (some ⟨w.heap.size, 0, none⟩) 1 1) 1 (intCells [0])) := owns_new1 w 0
  generalize w.alloc (.cells #[.int .i64 0] 3) = W at *
  have hz := HB0.out.size
  go_cut [6] from 14 (fun v6 wr => ∃ (cs : List Int) (ca : Option Addr) (ccap : Nat), 0 < cs.length ∧ cs.length ≤ 140737488351233 ∧ v6 = .slice ca cs.length ccap ∧ Hid (WhAt w wr wr.heap.size cs [] ca ccap none 0))
  case first =>
    by_cases hn : rs = []
    · subst hn
      have HSTART : Hid (∃ (cs : List Int) (ca : Option Addr) (ccap : Nat), 0 < cs.length ∧ cs.length ≤ 140737488351233 ∧ Value.slice (some ⟨w.heap.size, 0, none⟩) 1 1 = .slice ca cs.length ccap ∧ Hid (WhAt w W W.heap.size cs [] ca ccap none 0)) := ⟨[0], some ⟨w.heap.size, 0, none⟩, 1, by simp, by simp, rfl, (show Hid _ from ⟨⟨HO0.out, fun g hg => (HO0.out.lt g hg).2⟩, World.ownsRow_nil _ _ _ _, HB0.out, HB0.out.size, Nat.le_refl _, fun x hx => by simp at hx; subst hx; exact ⟨by decide, by decide⟩, fun x hx => by simp at hx⟩)⟩
      clear HR hl
      simp only [List.length_nil]
      cases ra with
      | none =>
        go_wp2_with fail
        go_meet
        exact HSTART.out
      | some ad =>
        go_wp2_with fail
        go_meet
        exact HSTART.out
    · have hpos : 0 < rs.length := List.length_pos_iff.2 hn
      obtain ⟨g, o, rfl, hg, hgc⟩ := HR.out hpos
      have HCC : Hid (∀ j u, (intCells rs)[j]? = some u → W.cell? ((⟨g, o, none⟩ : Addr).add j) = some u) := fun j u hu => by
        have hadd : (⟨g, o, none⟩ : Addr).add j = ⟨g, o + j, none⟩ := by unfold Addr.add; split <;> simp_all
        rw [hadd]
        simp only [intCells, List.getElem?_map, Option.map_eq_some_iff] at hu
        obtain ⟨x, hx, rfl⟩ := hu
        exact (HB0.out.cell (p := ⟨g, o + j, none⟩) hg).trans (hgc j x hx).1
      have HIN : Hid (∀ x ∈ rs, InI64 x) := fun x hx => by
        obtain ⟨j, hj⟩ := List.getElem?_of_mem hx
        exact (hgc j x hj).2
      clear hgc
      go_wp2_with (first | (refine wpList_append_lies _ rfl _ _ _ rfl w.heap.size 3 i0 _ 1 8 Try.underlying23 hi0 hz0 hz1 hz2 rfl (by omega) (.slice (some ⟨w.heap.size, 0, none⟩) 1 1) 1 (intCells [0]) rfl HO0.out ⟨g, o, none⟩ rs.length rcap (intCells rs) rfl (by simp [intCells]) (by exact HCC.out) (by simp [intCells, Value.oneCell']) hpos (by unfold maxLen; omega) (by omega) hz W.heap.size rfl ?_; intro gg cap1 w5 hown hgrow hat hlt5))
      go_meet
      have ho5 : w5.ownsRow w.heap.size 3 1 (.slice (some ⟨gg, 0, none⟩) (0 :: rs).length cap1) (0 :: rs).length (intCells (0 :: rs)) := by
        have : (0 :: rs).length = 1 + rs.length := by simp; omega
        rw [this]; simpa [intCells] using hown
      refine ⟨0 :: rs, some ⟨gg, 0, none⟩, cap1, by simp, by simp; omega, by simp [Nat.add_comm], ?_⟩
      show WhAt _ _ _ _ _ _ _ _ _
      refine ⟨ownsRow_in ho5, World.ownsRow_nil _ _ _ _, HB0.out.grown hgrow hz (fun y hy => (HO0.out.lt y hy).1), Nat.le_trans hz hgrow.size, Nat.le_refl _, fun x hx => ?_, fun x hx => by simp at hx⟩
      rcases List.mem_cons.1 hx with rfl | hx
      · exact ⟨by decide, by decide⟩
      · exact HIN.out x hx
  case rest =>
    obtain ⟨cs, ca, ccap, hcp, hcl, rfl, HW⟩ := hcut
    clear HB0 HO0 hz
    go_wp2_with fail
    have hch : WhAt w wc wc.heap.size cs [] ca ccap none 0 := HW.out
    generalize wc.heap.size = H at *
    have HW0 : Hid (WhAt w wc H cs [] ca ccap none 0) := hch
    clear hch HW
    go_loopw [7, 8] (fun v7 v8 wr => ∃ (mo : List Int) (ma : Option Addr) (mcap : Nat), mo.length ≤ 11 ∧ v8 = .int .i64 (mo.length : Int) ∧ v7 = .slice ma mo.length mcap ∧ Hid (WhAt w wr H cs mo ca ccap ma mcap)) (fun _ v8 _ => 11 - (intOf v8).toNat)
    case atStart => exact ⟨[], none, 0, by simp, rfl, rfl, HW0⟩
    case round =>
      obtain ⟨mo, ma, mcap, hm11, rfl, rfl, H1⟩ := hrel
      by_cases hlt : mo.length ≤ 10
      · obtain ⟨g, rfl, -, hg, -, -, hgc, -⟩ := owns_cells H1.out.c.1 hcp
        have hk : mo.length % cs.length < cs.length := Nat.mod_lt _ hcp
        have hlt' : (mo.length : Int) ≤ 10 := by omega
        have hmod : (mo.length : Int) % (cs.length : Int) = ((mo.length % cs.length : Nat) : Int) := by simp
        have c0 : wr.cell? ⟨g, mo.length % cs.length, none⟩ = some (.int .i64 cs[mo.length % cs.length]) := hgc _ _ (by simp [intCells, hk])
        have HX : Hid (InI64 cs[mo.length % cs.length]) := H1.out.ci _ (List.getElem_mem hk)
        have hk' : ((mo.length % cs.length : Nat) : Int) < (cs.length : Int) := by omega
        have hk0 : (0 : Int) ≤ ((mo.length % cs.length : Nat) : Int) := by omega
        have hcz : ((cs.length : Int) == 0) = false := by simp; intro e; rw [e] at hcp; simp at hcp
        generalize cs[mo.length % cs.length] = x at *
        generalize hkk : mo.length % cs.length = k at *
        clear hgc hkk
        have HA : Hid (WhAt w (wr.alloc (.cells #[.int .i64 x] 3)) H cs mo (some ⟨g, 0, none⟩) ccap ma mcap) := H1.out.below ((Below.refl _ _).alloc (Nat.le_refl _) _)
        have hHw := H1.out.h2
        go_wp2_with (first | (refine wpList_append_lies _ rfl _ _ _ rfl H 3 i0 _ 1 8 Try.underlying23 hi0 hz0 hz1 hz2 rfl (by omega) (.slice ma mo.length mcap) mo.length (intCells mo) rfl HA.out.m ⟨wr.heap.size, 0, none⟩ 1 1 [Value.int .i64 x] rfl rfl (World.news_of_block (cs := #[Value.int .i64 x]) (t := 3) (fr := (0, 0)) (heap_alloc_new wr _)) (by simp [Value.oneCell']) (by omega) (by unfold maxLen; omega) (by omega) (by simp; omega) (wr.heap.size + 1) (by simp) ?_; intro gg cap1 w5 hown hgrow hat hlt5))
        go_roundw
        case rel => exact ⟨mo ++ [x], some ⟨gg, 0, none⟩, cap1, by simp; omega, by simp, by simp, (show Hid _ from HA.out.put HX.out hown hgrow)⟩
        case measure => simp [intOf]; omega
      · have H11 : Hid (mo.length = 11) := by show _ = _; omega
        have hlt' : ¬ (mo.length : Int) ≤ 10 := by omega
        go_wp2_with fail
        refine (line2_any p lo hi b mo ma mcap _ (HP.out.below (H1.out.bl.mono hh)) HS.out HC.out (Nat.le_trans hh H1.out.bl.size) (nums_of_owns H1.out.m H1.out.mi) (by omega)).mono ?_
        rintro e w3 ⟨ms, na, ncap, S, es, rfl, hl3, hend⟩
        have HRD : Hid (readyTo S p 4 = []) := by
          rcases hend with h | h
          · exact h
          · have h1 := (follow_len hl3.fol).2.2
            have h2 := HC.out
            have h3 := H11.out
            omega
        have HB3 : Hid (Below w.heap.size w w3) := H1.out.bl.trans (hl3.bl.mono H1.out.bl.size)
        have HL3 : Hid _ := hl3
        have HLEN : Hid _ := follow_len hl3.fol
        clear hl3 hend
        go_wp2_with fail
        refine (progReady_any p lo hi b ms na ncap _ (HP.out.below (HB3.out.mono hh)) HS.out (Nat.le_trans hh HB3.out.size) (ints_of_owns HL3.out.own) (by have := HLEN.out.2.2; have := HC.out; unfold maxLen; omega)).mono ?_
        rintro e w4 hrs
        unfold ReadySays at hrs
        rw [HL3.out.fol] at hrs
        obtain ⟨hb4, la, lcap, rfl, ho4⟩ := hrs
        rw [HRD.out]
        clear ho4
        go_wp2
        go_ret2
        refine ⟨ms, na, ncap, S, es, rfl, ⟨?_, HB3.out.trans (hb4.mono HB3.out.size), HL3.out.fol, HL3.out.nil⟩, HRD.out⟩
        exact ((OwnsIn.below (ownsRow_in HL3.out.own) hb4).mono H1.out.bl.size (Nat.le_refl _)).1

end Go.Proofs.Ytfdafcnfefbcbab
