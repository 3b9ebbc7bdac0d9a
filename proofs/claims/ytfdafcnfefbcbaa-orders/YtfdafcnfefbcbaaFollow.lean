/-
  The contract of Follow.
-/
import Derived.Test.YtfdafcnfefbcbaaFollowPl
import Derived.Deep.LoopGhost
namespace Go.Proofs.Ytfdafcnfefbcbaa
open Go.RowKit
set_option linter.unusedVariables false

theorem Try.info70 : (Try.prog.info? 70).map (fun i => (i.zero, i.size, i.bytes)) = some (some (.agg #[.int .i64 0, .int .u8 0, .int .u8 0, .int .i16 0, .int .i64 0, .int .i64 0]), 6, 32) := by kernel_rfl

/-- Three results, the first of them a state in memory. -/
theorem ret_state3 {fn : Func} {p u v : Tmp} (h : fn.results = #[.cell p 117, .tmp u, .tmp v]) (tmps : Array Value) (F : World) (b : Nat) (S : St) (hp : tmps.getD p undef = .pointer (some ⟨b, 0, none⟩)) (hr : F.rangeAt b 0 (stL S)) :
    (results fn tmps).run Try.prog F = .ok (.tuple #[.agg (stL S).toArray, tmps.getD u undef, tmps.getD v undef]) F := by
  have hl := run_loadVar_mid (P := Try.prog) F b 0 117 _ _ hr Try.underlying117 rfl Try.size117
  have hp' : tmps[p]?.getD undef = .pointer (some ⟨b, 0, none⟩) := by simpa using hp
  simp [results, h, hp', asAddr, hl]

structure FolInv (p : List (List Pl.POp)) (ms : List Int) (w wr : World) (b : Nat) (v : Value) (i : Nat) (S : St) (es : List Ev) (g : Nat) (ea : Option Addr) (ecap : Nat) : Prop where
  at_ : FolAt w wr b S v
  own : wr.ownsRow (b + 1) 70 6 (.slice ea es.length ecap) es.length (evCells es)
  ok : StOk S p
  len : es.length = i
  gle : g ≤ i
  pos : es.length ≤ posSum S
  fol : follow p (beginTo p 4) [] 0 ms = follow p S es g (ms.drop i)

def FollowSays (p : List (List Pl.POp)) (ms : List Int) (w : World) (e : Ending) (w' : World) : Prop :=
  Below w.heap.size w w' ∧ match follow p (beginTo p 4) [] 0 ms with
  | none => e = .returned (.tuple #[.agg (stL st0).toArray, .slice none 0 0, .bool false])
  | some (S, es) => ∃ ea ecap, e = .returned (.tuple #[.agg (stL S).toArray, .slice ea es.length ecap, .bool true]) ∧ w'.ownsRow w.heap.size 70 6 (.slice ea es.length ecap) es.length (evCells es)

theorem stepV_form (x : Option (St × Ev)) : ∃ S' t k n vv b g c, stepV x = .tuple #[.agg (stL S').toArray, .agg #[.int .i64 t, .int .u8 k, .int .u8 n, .int .i16 vv, .int .i64 b, .int .i64 g], .bool c] ∧
    (c = false → x = none) ∧ (c = true → ∃ k' n' : Nat, k = (k' : Int) ∧ n = (n' : Int) ∧ x = some (S', ⟨t, k', n', vv, b, g⟩)) := by
  match x with
  | none => exact ⟨st0, 0, 0, 0, 0, 0, 0, false, rfl, fun _ => rfl, (fun h => by cases h)⟩
  | some (S', ⟨t, k, n, vv, b, g⟩) => exact ⟨S', t, k, n, vv, b, g, true, rfl, (fun h => by cases h), fun _ => ⟨k, n, rfl, rfl, rfl⟩⟩

set_option maxRecDepth 100000 in
set_option maxHeartbeats 2000000 in
theorem follow_any (p : List (List Pl.POp)) (a : Option Addr) (cap lo hi : Nat) (ms : List Int) (sa : Option Addr) (scap : Nat) (w : World) (hp : ProgOk w lo hi a cap p) (hm : IntsIn w sa ms) (hlen : ms.length ≤ maxLen) :
    Calls Try.prog 56 #[.agg #[.slice a p.length cap], .slice sa ms.length scap] w fun e w' => FollowSays p ms w e w' := by
  have HP : Hid (ProgOk w lo hi a cap p) := hp
  have HM : Hid (IntsIn w sa ms) := hm
  clear hp hm
  unfold maxLen at hlen
  obtain ⟨i0, hi0, hz0, hz1, hz2⟩ := info_parts Try.info70
  go_enter Try.func56, Try.ntmps56
  go_upto_region 1 with fail
  have hw0 : ((w.alloc (.cells #[.slice a p.length cap] 101)).alloc (.cells #[.int .i16 0, .int .i16 0, .int .i16 0, .int .i16 0, .int .i64 0, .bool false, .int .i16 0, .int .i64 0, .int .i64 0, .int .i64 0, .bool false, .int .i16 0, .int .i64 0, .int .i64 0, .int .i64 0, .bool false, .int .i16 0, .int .i64 0, .int .i64 0, .int .i64 0, .bool false, .int .i16 0, .int .i64 0, .int .i64 0] 117)).cell? ⟨w.heap.size, 0, none⟩ = some (.slice a p.length cap) := by
    show ((w.alloc (.cells #[.slice a p.length cap] 101)).alloc (.cells (stL st0).toArray 117)).cell? ⟨w.heap.size, 0, none⟩ = _
    rw [World.cell?_alloc_past _ _ _ (by simp)]; simp
  have hwr : ∀ j, ((w.alloc (.cells #[.slice a p.length cap] 101)).alloc (.cells #[.int .i16 0, .int .i16 0, .int .i16 0, .int .i16 0, .int .i64 0, .bool false, .int .i16 0, .int .i64 0, .int .i64 0, .int .i64 0, .bool false, .int .i16 0, .int .i64 0, .int .i64 0, .int .i64 0, .bool false, .int .i16 0, .int .i64 0, .int .i64 0, .int .i64 0, .bool false, .int .i16 0, .int .i64 0, .int .i64 0] 117)).cell? ⟨w.heap.size + 1, j, none⟩ = (stL st0)[j]? := fun j => by
    have := box_cell (w.alloc (.cells #[.slice a p.length cap] 101)) st0 j
    rw [World.size_alloc] at this
    exact this
  have hwf : ∀ j, ((w.alloc (.cells #[.slice a p.length cap] 101)).alloc (.cells #[.int .i16 0, .int .i16 0, .int .i16 0, .int .i16 0, .int .i64 0, .bool false, .int .i16 0, .int .i64 0, .int .i64 0, .int .i64 0, .bool false, .int .i16 0, .int .i64 0, .int .i64 0, .int .i64 0, .bool false, .int .i16 0, .int .i64 0, .int .i64 0, .int .i64 0, .bool false, .int .i16 0, .int .i64 0, .int .i64 0] 117)).frozen? ⟨w.heap.size + 1, j, none⟩ = false := fun j => by
    show ((w.alloc (.cells #[.slice a p.length cap] 101)).alloc (.cells (stL st0).toArray 117)).frozen? _ = _
    rw [World.frozen?_alloc_at _ _ _ _ (by simp)]
  have hwz : ((w.alloc (.cells #[.slice a p.length cap] 101)).alloc (.cells #[.int .i16 0, .int .i16 0, .int .i16 0, .int .i16 0, .int .i64 0, .bool false, .int .i16 0, .int .i64 0, .int .i64 0, .int .i64 0, .bool false, .int .i16 0, .int .i64 0, .int .i64 0, .int .i64 0, .bool false, .int .i16 0, .int .i64 0, .int .i64 0, .int .i64 0, .bool false, .int .i16 0, .int .i64 0, .int .i64 0] 117)).heap.size = w.heap.size + 2 := by simp
  have hwb : Below w.heap.size w ((w.alloc (.cells #[.slice a p.length cap] 101)).alloc (.cells #[.int .i16 0, .int .i16 0, .int .i16 0, .int .i16 0, .int .i64 0, .bool false, .int .i16 0, .int .i64 0, .int .i64 0, .int .i64 0, .bool false, .int .i16 0, .int .i64 0, .int .i64 0, .int .i64 0, .bool false, .int .i16 0, .int .i64 0, .int .i64 0, .int .i64 0, .bool false, .int .i16 0, .int .i64 0, .int .i64 0] 117)) := two_new w _ _
  generalize ((w.alloc (.cells #[.slice a p.length cap] 101)).alloc (.cells #[.int .i16 0, .int .i16 0, .int .i16 0, .int .i16 0, .int .i64 0, .bool false, .int .i16 0, .int .i64 0, .int .i64 0, .int .i64 0, .bool false, .int .i16 0, .int .i64 0, .int .i64 0, .int .i64 0, .bool false, .int .i16 0, .int .i64 0, .int .i64 0, .int .i64 0, .bool false, .int .i16 0, .int .i64 0, .int .i64 0] 117)) = W at *
  have HWR : Hid _ := hwr
  have HWF : Hid _ := hwf
  have HWZ : Hid _ := hwz
  clear hwr hwf hwz
  go_wp2_with fail
  refine (begin_any p a cap lo hi _ (HP.out.below hwb HP.out.size)).mono ?_
  rintro e w1 ⟨rfl, hb1⟩
  have hXt : (w1.alloc (.cells #[.int .i16 0, .int .i16 0, .int .i16 0, .int .i16 0, .int .i64 0, .bool false, .int .i16 0, .int .i64 0, .int .i64 0, .int .i64 0, .bool false, .int .i16 0, .int .i64 0, .int .i64 0, .int .i64 0, .bool false, .int .i16 0, .int .i64 0, .int .i64 0, .int .i64 0, .bool false, .int .i16 0, .int .i64 0, .int .i64 0] 117)).there w1.heap.size 0 (stL (beginTo p 4)).toArray.size := new_there w1
  have HX : Hid (∀ j, ((w1.alloc (.cells #[.int .i16 0, .int .i16 0, .int .i16 0, .int .i16 0, .int .i64 0, .bool false, .int .i16 0, .int .i64 0, .int .i64 0, .int .i64 0, .bool false, .int .i16 0, .int .i64 0, .int .i64 0, .int .i64 0, .bool false, .int .i16 0, .int .i64 0, .int .i64 0, .int .i64 0, .bool false, .int .i16 0, .int .i64 0, .int .i64 0] 117)).setCells w1.heap.size 0 (stL (beginTo p 4)).toArray.toList).cell? ⟨w1.heap.size, j, none⟩ = (stL (beginTo p 4))[j]?) := new_all w1 _
  have HXF : Hid (∀ j, ((w1.alloc (.cells #[.int .i16 0, .int .i16 0, .int .i16 0, .int .i16 0, .int .i64 0, .bool false, .int .i16 0, .int .i64 0, .int .i64 0, .int .i64 0, .bool false, .int .i16 0, .int .i64 0, .int .i64 0, .int .i64 0, .bool false, .int .i16 0, .int .i64 0, .int .i64 0, .int .i64 0, .bool false, .int .i16 0, .int .i64 0, .int .i64 0] 117)).setCells w1.heap.size 0 (stL (beginTo p 4)).toArray.toList).frozen? ⟨w1.heap.size, j, none⟩ = false) := new_frozen w1 _
  have HXB : Hid (Below w1.heap.size w1 ((w1.alloc (.cells #[.int .i16 0, .int .i16 0, .int .i16 0, .int .i16 0, .int .i64 0, .bool false, .int .i16 0, .int .i64 0, .int .i64 0, .int .i64 0, .bool false, .int .i16 0, .int .i64 0, .int .i64 0, .int .i64 0, .bool false, .int .i16 0, .int .i64 0, .int .i64 0, .int .i64 0, .bool false, .int .i16 0, .int .i64 0, .int .i64 0] 117)).setCells w1.heap.size 0 (stL (beginTo p 4)).toArray.toList)) := new_below w1 _
  have HXZ : Hid (((w1.alloc (.cells #[.int .i16 0, .int .i16 0, .int .i16 0, .int .i16 0, .int .i64 0, .bool false, .int .i16 0, .int .i64 0, .int .i64 0, .int .i64 0, .bool false, .int .i16 0, .int .i64 0, .int .i64 0, .int .i64 0, .bool false, .int .i16 0, .int .i64 0, .int .i64 0, .int .i64 0, .bool false, .int .i16 0, .int .i64 0, .int .i64 0] 117)).setCells w1.heap.size 0 (stL (beginTo p 4)).toArray.toList).heap.size = w1.heap.size + 1) := by show _ = _; rw [size_setCells]; simp
  have HXT : Hid _ := hXt
  clear hXt
  go_upto_region 2 with (first | (refine wpList_store_mid rfl 117 _ _ rfl w1.heap.size 0 (stL (beginTo p 4)).toArray rfl rfl (by exact HXT.out) Try.size117 (all_oneCell_toArray (stL_one _)) ?_; generalize ((w1.alloc (.cells #[.int .i16 0, .int .i16 0, .int .i16 0, .int .i16 0, .int .i64 0, .bool false, .int .i16 0, .int .i64 0, .int .i64 0, .int .i64 0, .bool false, .int .i16 0, .int .i64 0, .int .i64 0, .int .i64 0, .bool false, .int .i16 0, .int .i64 0, .int .i64 0, .int .i64 0, .bool false, .int .i16 0, .int .i64 0, .int .i64 0] 117)).setCells w1.heap.size 0 (stL (beginTo p 4)).toArray.toList) = X at *))
  have HF0 : Hid (FolAt w X w1.heap.size (beginTo p 4) (.slice a p.length cap)) := by
    have z1 := hb1.size
    have z2 := HWZ.out
    have z3 := HXZ.out
    have hbX := hb1.trans (HXB.out.mono hb1.size)
    exact ⟨(hbX.cell (p := ⟨w.heap.size, 0, none⟩) (show w.heap.size < W.heap.size by omega)).trans hw0, fun j => (hbX.cell (p := ⟨w.heap.size + 1, j, none⟩) (show w.heap.size + 1 < W.heap.size by omega)).trans (HWR.out j),
      fun j => (hbX.frozen (p := ⟨w.heap.size + 1, j, none⟩) (show w.heap.size + 1 < W.heap.size by omega)).trans (HWF.out j), HX.out, HXF.out, hwb.trans (hbX.mono hwb.size), by omega, by omega⟩
  clear hw0 hwb HWR HWF HWZ HX HXF HXB HXZ HXT hb1
  go_wp2_with fail
  generalize w1.heap.size = b at *
  go_loopw [8, 9, 19] (fun e' g' t' wr => ∃ (i : Nat) (S : St) (es : List Ev) (g : Nat) (ea : Option Addr) (ecap : Nat), i ≤ ms.length ∧ t' = .int .i64 (i : Int) ∧ g' = .int .i64 (g : Int) ∧ e' = .slice ea es.length ecap ∧ Hid (FolInv p ms w wr b (.slice a p.length cap) i S es g ea ecap)) (fun _ _ t' _ => ms.length - (intOf t').toNat)
  case atStart => exact ⟨0, beginTo p 4, [], 0, none, 0, Nat.zero_le _, rfl, rfl, rfl, ⟨HF0.out, World.ownsRow_nil _ _ _ _, begin_ok p, rfl, Nat.le_refl _, Nat.zero_le _, rfl⟩⟩
  case round =>
    obtain ⟨i, S, es, g, ea, ecap, hil, rfl, rfl, rfl, HH⟩ := hrel
    by_cases hlt : i < ms.length
    · have pr := HH.out.at_.pr
      have hr := range_of_all HH.out.at_.s
      obtain ⟨gb, rfl, hgb, hgc⟩ := HM.out (by omega)
      have c0 : wr.cell? ⟨gb, i, none⟩ = some (.int .i64 ms[i]) := (HH.out.at_.bl.cell (p := ⟨gb, i, none⟩) hgb).trans (hgc i _ (List.getElem?_eq_getElem hlt))
      have HD : Hid (ms.drop i = ms[i] :: ms.drop (i + 1)) := List.drop_eq_getElem_cons hlt
      clear hgb hgc
      generalize ms[i] = m at *
      go_wp2_with (first | refine wpList_load_mid rfl 117 _ rfl b 0 rfl (stL S) _ hr Try.underlying117 rfl Try.size117 ?_)
      refine (step_any S p a cap lo hi m _ (HP.out.below HH.out.at_.bl HP.out.size) HH.out.ok).mono ?_
      rintro e w2 ⟨rfl, hb2⟩
      obtain ⟨S', t, k, n, vv, bk, gr, c, hV, hF, hT⟩ := stepV_form (step S p m)
      rw [hV]
      have HF : Hid _ := hF
      have HT : Hid _ := hT
      clear hV hF hT c0 pr hr
      have hF2 : Hid (FolAt w w2 b S (.slice a p.length cap)) := HH.out.at_.below hb2 HH.out.at_.b1
      have HTH : Hid (World.there ((w2.alloc (.cells #[.int .i16 0, .int .i16 0, .int .i16 0, .int .i16 0, .int .i64 0, .bool false, .int .i16 0, .int .i64 0, .int .i64 0, .int .i64 0, .bool false, .int .i16 0, .int .i64 0, .int .i64 0, .int .i64 0, .bool false, .int .i16 0, .int .i64 0, .int .i64 0, .int .i64 0, .bool false, .int .i16 0, .int .i64 0, .int .i64 0] 117)).alloc (.cells #[.int .i64 0, .int .u8 0, .int .u8 0, .int .i16 0, .int .i64 0, .int .i64 0] 70)) w2.heap.size 0 (stL S').toArray.size) := outW_there w2 S'
      have HTE : Hid (World.there (((w2.alloc (.cells #[.int .i16 0, .int .i16 0, .int .i16 0, .int .i16 0, .int .i64 0, .bool false, .int .i16 0, .int .i64 0, .int .i64 0, .int .i64 0, .bool false, .int .i16 0, .int .i64 0, .int .i64 0, .int .i64 0, .bool false, .int .i16 0, .int .i64 0, .int .i64 0, .int .i64 0, .bool false, .int .i16 0, .int .i64 0, .int .i64 0] 117)).alloc (.cells #[.int .i64 0, .int .u8 0, .int .u8 0, .int .i16 0, .int .i64 0, .int .i64 0] 70)).setCells w2.heap.size 0 (stL S').toArray.toList) (w2.heap.size + 1) 0 #[Value.int .i64 t, .int .u8 k, .int .u8 n, .int .i16 vv, .int .i64 bk, .int .i64 gr].size) := outW_there2 w2 S'
      have HY : Hid (_ ∧ _) := outE_facts w2 S' #[Value.int .i64 t, .int .u8 k, .int .u8 n, .int .i16 vv, .int .i64 bk, .int .i64 gr].toList rfl
      unfold outW at HY
      go_upto_region 8 with (first | (refine wpList_store_mid rfl 117 _ _ rfl w2.heap.size 0 (stL S').toArray rfl rfl (by exact HTH.out) Try.size117 (all_oneCell_toArray (stL_one _)) ?_; refine wpList_store_mid rfl 70 _ _ rfl (w2.heap.size + 1) 0 #[Value.int .i64 t, .int .u8 k, .int .u8 n, .int .i16 vv, .int .i64 bk, .int .i64 gr] rfl rfl (by exact HTE.out) Try.size70 (by simp [Value.oneCell']) ?_; generalize (((w2.alloc (.cells #[.int .i16 0, .int .i16 0, .int .i16 0, .int .i16 0, .int .i64 0, .bool false, .int .i16 0, .int .i64 0, .int .i64 0, .int .i64 0, .bool false, .int .i16 0, .int .i64 0, .int .i64 0, .int .i64 0, .bool false, .int .i16 0, .int .i64 0, .int .i64 0, .int .i64 0, .bool false, .int .i16 0, .int .i64 0, .int .i64 0] 117)).alloc (.cells #[.int .i64 0, .int .u8 0, .int .u8 0, .int .i16 0, .int .i64 0, .int .i64 0] 70)).setCells w2.heap.size 0 (stL S').toArray.toList).setCells (w2.heap.size + 1) 0 #[Value.int .i64 t, .int .u8 k, .int .u8 n, .int .i16 vv, .int .i64 bk, .int .i64 gr].toList = Y at *))
      obtain ⟨ys, ye, yf, yb, yz⟩ := HY.out
      have HFY : Hid (FolAt w Y b S (.slice a p.length cap)) := hF2.out.below yb hF2.out.b1
      have HYS : Hid _ := ys
      have HYE : Hid _ := ye
      have HYF : Hid _ := yf
      have HYB : Hid _ := yb
      have HYZ : Hid _ := yz
      clear ys ye yf yb yz HY HTH HTE
      cases c
      · have HN : Hid (step S p m = none) := HF.out rfl
        clear HF HT
        have hth : Y.there (w.heap.size + 1) 0 (stL st0).toArray.size := fun j hj => by
          rw [Nat.zero_add, HFY.out.r j, List.getElem?_eq_getElem (by simpa using hj)]; exact ⟨rfl, HFY.out.rf j⟩
        go_wp2_with (first | refine wpList_store_mid rfl 117 _ _ rfl (w.heap.size + 1) 0 (stL st0).toArray rfl rfl hth Try.size117 (all_oneCell_toArray (stL_one _)) ?_)
        refine bodyPost_ret (v := .tuple #[.agg (stL st0).toArray, .slice none 0 0, .bool false]) (ret_state3 Try.results56 _ _ (w.heap.size + 1) _ rfl (World.rangeAt_setCells_same _ _ _ _ (by simpa using hth))) rfl ⟨below_setCells _ (by omega) _ _ _ HFY.out.bl, ?_⟩
        have hfn : follow p (beginTo p 4) [] 0 ms = none := by rw [HH.out.fol, HD.out, follow, HN.out]
        rw [hfn]
      · obtain ⟨k', n', rfl, rfl, hst⟩ := HT.out rfl
        have HST : Hid _ := hst
        clear hst HT HF
        have hrY := range_of_all HYS.out
        have hth : Y.there b 0 (stL S').toArray.size := fun j hj => by
          have hj' : j < 24 := by simpa [stL_length] using hj
          rw [Nat.zero_add, HFY.out.s j, List.getElem?_eq_getElem (by rw [stL_length]; exact hj')]; exact ⟨rfl, HFY.out.sf j⟩
        have HFZ : Hid _ := HFY.out.put S'
        have hb0 := hF2.out.b1
        have HOW2 : Hid (w2.ownsRow (b + 1) 70 6 (.slice ea es.length ecap) es.length (evCells es)) := ((ownsRow_in HH.out.own).below hb2).1
        have HOY : Hid (Y.ownsRow (b + 1) 70 6 (.slice ea es.length ecap) es.length (evCells es)) := ((ownsRow_in HOW2.out).below HYB.out).1
        have HOZ : Hid ((Y.setCells b 0 (stL S').toArray.toList).ownsRow (b + 1) 70 6 (.slice ea es.length ecap) es.length (evCells es)) := owns_setCells HOY.out b (by omega) _ _ _ HOY.out
        have HZE : Hid (∀ j v, [Value.int .i64 t, .int .u8 (k' : Int), .int .u8 (n' : Int), .int .i16 vv, .int .i64 bk, .int .i64 gr][j]? = some v → (Y.setCells b 0 (stL S').toArray.toList).cell? ⟨w2.heap.size + 1, j, none⟩ = some v) := fun j v hv => by
          rw [cell_out (by omega)]; have := HYE.out j v hv; rwa [Nat.zero_add] at this
        have HZF : Hid (∀ j, (Y.setCells b 0 (stL S').toArray.toList).frozen? ⟨w2.heap.size + 1, j, none⟩ = false) := fun j => by rw [World.frozen?_setCells]; exact HYF.out j
        have HZZ : Hid ((Y.setCells b 0 (stL S').toArray.toList).heap.size = w2.heap.size + 2) := by show _ = _; rw [size_setCells]; exact HYZ.out
        go_upto_region 11 with (first | refine wpList_load_mid rfl 117 _ rfl w2.heap.size 0 rfl (stL S') _ hrY Try.underlying117 rfl Try.size117 ?_ | (refine wpList_store_mid rfl 117 _ _ rfl b 0 (stL S').toArray rfl rfl hth Try.size117 (all_oneCell_toArray (stL_one _)) ?_; generalize Y.setCells b 0 (stL S').toArray.toList = Z at *))
        clear hrY hth HFY HYS HYE HYF HYB HYZ HOY
        have z0 := HZE.out 0 _ rfl
        have z1 := HZE.out 1 _ rfl
        have z2 := HZE.out 2 _ rfl
        have z3 := HZE.out 3 _ rfl
        have z4 := HZE.out 4 _ rfl
        have z5 := HZE.out 5 _ rfl
        have zz := HZZ.out
        have hlen2 : Hid (es.length + 1 ≤ 4000) := by
          have h1 := posSum_le HP.out (step_ok HH.out.ok HST.out)
          have h2 := step_pos HST.out
          have h3 := HH.out.pos
          show es.length + 1 ≤ 4000
          omega
        clear zz
        go_wp2_with fail
        refine (groupOf_any es ea ecap (b + 1) t k' n' vv bk gr (g : Int) _ HOZ.out (by have := hlen2.out; omega)).mono ?_
        rintro e w3 ⟨rfl, hb3⟩
        have lt3 : w2.heap.size + 1 < Z.heap.size := by have := HZZ.out; omega
        have v0 := (hb3.cell (p := ⟨w2.heap.size + 1, 0, none⟩) lt3).trans z0
        have v1 := (hb3.cell (p := ⟨w2.heap.size + 1, 1, none⟩) lt3).trans z1
        have v2 := (hb3.cell (p := ⟨w2.heap.size + 1, 2, none⟩) lt3).trans z2
        have v3 := (hb3.cell (p := ⟨w2.heap.size + 1, 3, none⟩) lt3).trans z3
        have v4 := (hb3.cell (p := ⟨w2.heap.size + 1, 4, none⟩) lt3).trans z4
        have v5 := (hb3.cell (p := ⟨w2.heap.size + 1, 5, none⟩) lt3).trans z5
        have vf := (hb3.frozen (p := ⟨w2.heap.size + 1, 5, none⟩) lt3).trans (HZF.out 5)
        clear z0 z1 z2 z3 z4 z5
        have HF3 : Hid _ := HFZ.out.below hb3 HFZ.out.b1
        have HO3 : Hid _ := ((ownsRow_in HOZ.out).below hb3).1
        have HZ3 : Hid (w2.heap.size + 1 < w3.heap.size) := Nat.lt_of_lt_of_le lt3 hb3.size
        clear lt3 HFZ HOZ HZE HZF HZZ hb3 hb2
        have HG : Hid (follow p (beginTo p 4) [] 0 ms = follow p S' (es ++ [⟨t, k', n', vv, bk, groupOf es t bk g⟩]) (if groupOf es t bk g = (g : Int) then g + 1 else g) (ms.drop (i + 1))) := by
          show _ = _
          rw [HH.out.fol, HD.out, follow, HST.out]
        have HPS : Hid _ := step_pos HST.out
        have HOK : Hid _ := step_ok HH.out.ok HST.out
        generalize groupOf es t bk (g : Int) = g' at *
        go_upto_region 12 with fail
        have c0 : (w3.setCell ⟨w2.heap.size + 1, 5, none⟩ (.int .i64 g')).cell? ⟨w2.heap.size + 1, 0, none⟩ = some (.int .i64 t) := (World.cell?_setCell_other _ _ _ _ (by simp)).trans v0
        have c1 : (w3.setCell ⟨w2.heap.size + 1, 5, none⟩ (.int .i64 g')).cell? ⟨w2.heap.size + 1, 1, none⟩ = some (.int .u8 (k' : Int)) := (World.cell?_setCell_other _ _ _ _ (by simp)).trans v1
        have c2 : (w3.setCell ⟨w2.heap.size + 1, 5, none⟩ (.int .i64 g')).cell? ⟨w2.heap.size + 1, 2, none⟩ = some (.int .u8 (n' : Int)) := (World.cell?_setCell_other _ _ _ _ (by simp)).trans v2
        have c3 : (w3.setCell ⟨w2.heap.size + 1, 5, none⟩ (.int .i64 g')).cell? ⟨w2.heap.size + 1, 3, none⟩ = some (.int .i16 vv) := (World.cell?_setCell_other _ _ _ _ (by simp)).trans v3
        have c4 : (w3.setCell ⟨w2.heap.size + 1, 5, none⟩ (.int .i64 g')).cell? ⟨w2.heap.size + 1, 4, none⟩ = some (.int .i64 bk) := (World.cell?_setCell_other _ _ _ _ (by simp)).trans v4
        have c5 : (w3.setCell ⟨w2.heap.size + 1, 5, none⟩ (.int .i64 g')).cell? ⟨w2.heap.size + 1, 5, none⟩ = some (.int .i64 g') := World.cell?_setCell_same _ _ _ v5
        have HFV : Hid (FolAt w (w3.setCell ⟨w2.heap.size + 1, 5, none⟩ (.int .i64 g')) b S' (.slice a p.length cap)) := HF3.out.below ((Below.refl (b + 1) w3).setCell (p := ⟨w2.heap.size + 1, 5, none⟩) (show b + 1 ≤ w2.heap.size + 1 by omega) _) (Nat.lt_succ_self b)
        have HOV : Hid ((w3.setCell ⟨w2.heap.size + 1, 5, none⟩ (.int .i64 g')).ownsRow (b + 1) 70 6 (.slice ea es.length ecap) es.length (evCells es)) := (OwnsIn.below (hi := w2.heap.size) ⟨HO3.out, fun x hx => (HOW2.out.lt x hx).2⟩ ((Below.refl _ w3).setCell (p := ⟨w2.heap.size + 1, 5, none⟩) (show w2.heap.size ≤ w2.heap.size + 1 by omega) _)).1
        generalize w3.setCell ⟨w2.heap.size + 1, 5, none⟩ (.int .i64 g') = V at *
        clear v0 v1 v2 v3 v4 v5 vf HF3 HO3 HZ3 HOW2 HST HD hF2 hb0
        have hgl := HH.out.gle
        have hll := HH.out.len
        have hvb := HFV.out.b1
        have HIN : Hid (∀ gg cap1 w5 g2, w5.ownsRow (b + 1) 70 6 (.slice (some ⟨gg, 0, none⟩) (es.length + 1) cap1) (es.length + 1) (evCells es ++ [Value.int .i64 t, .int .u8 (k' : Int), .int .u8 (n' : Int), .int .i16 vv, .int .i64 bk, .int .i64 g']) → (V.alloc (.cells #[Value.int .i64 t, .int .u8 (k' : Int), .int .u8 (n' : Int), .int .i16 vv, .int .i64 bk, .int .i64 g'] 70)).grownBy w5 (Value.slice ea es.length ecap).ownBlock → g2 = (if g' = (g : Int) then g + 1 else g) → FolInv p ms w w5 b (.slice a p.length cap) (i + 1) S' (es ++ [⟨t, k', n', vv, bk, g'⟩]) g2 (some ⟨gg, 0, none⟩) cap1) := by
          intro gg cap1 w5 g2 hown hgrow hg2
          have hps := HPS.out
          have hpo := HH.out.pos
          refine ⟨HFV.out.below (Below.grown ((Below.refl (b + 1) V).alloc (by omega) _) hgrow (by simp; omega) (fun x hx => (HOV.out.lt x hx).1)) (Nat.lt_succ_self b), by simpa [evCells_append, evCells, Ev.cells] using hown, HOK.out, by simp; omega, by rw [hg2]; split <;> omega, by simp; omega, by rw [hg2]; exact HG.out⟩
        by_cases hgg : g' = (g : Int)
        · have e1 : (g' == (g : Int)) = true := by simpa using hgg
          have HGG : Hid (_ = if g' = (g : Int) then g + 1 else g) := (if_pos hgg).symm
          clear hgg
          go_wp2_with (first | (refine wpList_append_lies _ rfl _ _ _ rfl (b + 1) 70 i0 _ 6 32 Try.underlying44 hi0 hz0 hz1 hz2 rfl (by omega) (.slice ea es.length ecap) es.length (evCells es) rfl (HOV.out.alloc _) ⟨V.heap.size, 0, none⟩ 1 1 [Value.int .i64 t, .int .u8 (k' : Int), .int .u8 (n' : Int), .int .i16 vv, .int .i64 bk, .int .i64 g'] rfl rfl (World.news_of_block (cs := #[Value.int .i64 t, .int .u8 (k' : Int), .int .u8 (n' : Int), .int .i16 vv, .int .i64 bk, .int .i64 g']) (t := 70) (fr := (0, 0)) (heap_alloc_new V _)) (by simp [Value.oneCell']) (by omega) (by have := hlen2.out; unfold maxLen; omega) (by have := hlen2.out; omega) (by simp; omega) (V.heap.size + 1) (by simp) ?_; intro gg cap1 w5 hown hgrow hat hlt5))
          go_roundw
          case rel => exact ⟨i + 1, S', es ++ [Ev.mk t k' n' vv bk g'], g + 1, some ⟨gg, 0, none⟩, cap1, by omega, by go_num, by go_num, by simp; omega, (show Hid _ from HIN.out gg cap1 w5 _ hown hgrow HGG.out)⟩
          case measure => simp [intOf]; omega
        · have e1 : (g' == (g : Int)) = false := by simpa using hgg
          have HGG : Hid (_ = if g' = (g : Int) then g + 1 else g) := (if_neg hgg).symm
          clear hgg
          go_wp2_with (first | (refine wpList_append_lies _ rfl _ _ _ rfl (b + 1) 70 i0 _ 6 32 Try.underlying44 hi0 hz0 hz1 hz2 rfl (by omega) (.slice ea es.length ecap) es.length (evCells es) rfl (HOV.out.alloc _) ⟨V.heap.size, 0, none⟩ 1 1 [Value.int .i64 t, .int .u8 (k' : Int), .int .u8 (n' : Int), .int .i16 vv, .int .i64 bk, .int .i64 g'] rfl rfl (World.news_of_block (cs := #[Value.int .i64 t, .int .u8 (k' : Int), .int .u8 (n' : Int), .int .i16 vv, .int .i64 bk, .int .i64 g']) (t := 70) (fr := (0, 0)) (heap_alloc_new V _)) (by simp [Value.oneCell']) (by omega) (by have := hlen2.out; unfold maxLen; omega) (by have := hlen2.out; omega) (by simp; omega) (V.heap.size + 1) (by simp) ?_; intro gg cap1 w5 hown hgrow hat hlt5))
          go_roundw
          case rel => exact ⟨i + 1, S', es ++ [Ev.mk t k' n' vv bk g'], g, some ⟨gg, 0, none⟩, cap1, by omega, by go_num, by go_num, by simp; omega, (show Hid _ from HIN.out gg cap1 w5 _ hown hgrow HGG.out)⟩
          case measure => simp [intOf]; omega
    · have hr := range_of_all HH.out.at_.s
      have hth : wr.there (w.heap.size + 1) 0 (stL S).toArray.size := fun j hj => by
        have hj' : j < 24 := by simpa [stL_length] using hj
        rw [Nat.zero_add, HH.out.at_.r j, List.getElem?_eq_getElem (by rw [stL_length]; exact hj')]; exact ⟨rfl, HH.out.at_.rf j⟩
      go_wp2_with (first | refine wpList_load_mid rfl 117 _ rfl b 0 rfl (stL S) _ hr Try.underlying117 rfl Try.size117 ?_ | refine wpList_store_mid rfl 117 _ _ rfl (w.heap.size + 1) 0 (stL S).toArray rfl rfl hth Try.size117 (all_oneCell_toArray (stL_one _)) ?_)
      refine bodyPost_ret (v := .tuple #[.agg (stL S).toArray, .slice ea es.length ecap, .bool true]) (ret_state3 Try.results56 _ _ (w.heap.size + 1) _ rfl (World.rangeAt_setCells_same _ _ _ _ (by simpa using hth))) rfl ⟨below_setCells _ (by omega) _ _ _ HH.out.at_.bl, ?_⟩
      have hfn : follow p (beginTo p 4) [] 0 ms = some (S, es) := by rw [HH.out.fol, List.drop_eq_nil_of_le (by omega)]; rfl
      rw [hfn]
      have hb0 := HH.out.at_.b0
      exact ⟨ea, ecap, rfl, ((ownsRow_in (owns_setCells HH.out.own (w.heap.size + 1) (by omega) (stL S).toArray.toList 0 wr HH.out.own)).mono (by omega) (Nat.le_refl _)).1⟩

end Go.Proofs.Ytfdafcnfefbcbaa
