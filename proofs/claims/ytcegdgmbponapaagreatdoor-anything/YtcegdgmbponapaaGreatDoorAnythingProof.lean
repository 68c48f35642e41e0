/-
  The statement of cofferkeep.Anything, out of its walk: the row, and the card.
-/
import Derived.Test.YtcegdgmbponapaaGreatDoorPart05
import Derived.Test.YtcegdgmbponapaaGreatDoorPart35
import Derived.Test.YtcegdgmbponapaaGreatDoorAnyFacts
namespace Go.Proofs.YtcegdgmbponapaaGreatDoor
open Go.ChangeShapes Go.WideShapes Go.ChangeAt Go.RowKit Go.Joins
open Go.ChangeMaps (open_string shut_string)

set_option maxRecDepth 100000 in
theorem anything_lifted (os : Os) (started : os.Started) (H : Type) (enc : TypeId × Value → H) :
    ReturnsInHanded {} Tryz.checked os 9 .any (fun w args => (Rows.anythingSpec.pre enc Tryz.prog Tryz.f9 [] false w args ∧ laidMetH Tryz.prog Rows.anythingRow.laid w) ∧ sizedMet enc Tryz.prog Tryz.f9 (OpenSpec.ofChange Rows.anythingSpec) false w args)
      (Rows.anythingSpec.post enc Tryz.prog Tryz.f9 false true false false) := by
  refine returnsInHanded_of_change_and (C := Tryz.checked) (X := fun w _ => laidMetH Tryz.prog Rows.anythingRow.laid w) (fun _ _ _ hh h => h.of_heap hh) own started (by kernel_rfl) Tryz.func9
    (ChangeSpec.witness_shaped (enc := enc) (C := Tryz.checked) (os := os) (X := fun w _ => laidMetH Tryz.prog Rows.anythingRow.laid w) false (World.doorLaid Tryz.prog 31 os) #[.slice none 0 0, .int .u64 0, .slice none 0 0] 8 rfl (World.shaped_of_RefB (by kernel_rfl) (by kernel_rfl)) (by kernel_rfl) (by kernel_rfl) (by kernel_rfl) (door_met os _)) ?_
  intro W base args ds gs before hval0 hW _ _ hX _
  have hval : ∀ (j : Nat) t v, Tryz.f9.params[j]? = some t → args[j]? = some v → Value.okWide Tryz.prog W .any base t v := hval0
  have hW' := hW
  obtain ⟨p, q, hA0, hV, rfl, hfz, hnd⟩ := hW
  have hA : DataW.TrodAll enc Tryz.prog W 0 (fun _ => true) true Tryz.f9.params.toList args.toList ds p := hA0
  rw [Tryz.params9] at hA hval
  obtain ⟨v0, vs0, d0, ds0, p0, q0, hargs, rfl, rfl, h0, r0⟩ := trodAll_cons hA
  obtain ⟨v1, vs1, d1, ds1, p1, q1, rfl, rfl, rfl, h1, r1⟩ := trodAll_cons r0
  obtain ⟨v2, vs2, d2, ds2, p2, q2, rfl, rfl, rfl, h2, r2⟩ := trodAll_cons r1
  obtain ⟨rfl, rfl, rfl⟩ := trodAll_nil r2
  obtain rfl : args = #[v0, v1, v2] := by cases args; simp_all
  obtain ⟨rfl, rfl⟩ := trodVars_none hV
  obtain ⟨a1, rfl, rfl, rfl, w1⟩ := open_int Tryz.underlying22 (hval 1 22 v1 rfl rfl) h1
  clear hA0 hval0
  simp only [List.append_nil, List.nil_append] at hW'
  have hlt0 : ∀ x ∈ p0, x.block < W.heap.size := fun x hx => by simpa using hW'.lt x (by simp [hx])
  have hlt2 : ∀ x ∈ p2, x.block < W.heap.size := fun x hx => by simpa using hW'.lt x (by simp [hx])
  have h0k := h0
  have h2k := h2
  obtain ⟨aT, nT, cT, tl, rfl, eT, hTl, hTr, hTs⟩ := open_textsArg (hval 0 30 v0 rfl rfl) h0 hlt0
  obtain ⟨aS, nS, cS, ss, rfl, eS, hSl, hSr, hSk⟩ := open_stepsArg (hval 2 66 v2 rfl rfl) h2
  obtain ⟨key, rfl, hkey⟩ : ∃ key : Nat, a1 = (key : Int) ∧ key < 18446744073709551616 := by
    have := bounds_u64 w1
    exact ⟨a1.toNat, by omega, by omega⟩
  refine (anything_any tl aT nT cT key ss aS nS cS W eT hTl hTr (fun i hi => by rw [getElem!_pos tl i (by omega)]; have := hTs _ (List.getElem_mem (show i < tl.length by omega)); unfold maxLen at this; omega) hkey eS hSl hSr hSk (tab_laid hX) (errType_laid hX)).mono fun e W' ⟨he, hg⟩ => ?_
  subst he
  refine ⟨_, rfl, _, _, _, [], p0 ++ p2, [], hW', ?_, ?_, ?_, hg.frame _, fun h => by cases h⟩
  · exact trodAll_cons_mk (shut_bool Tryz.underlying4 _) trodAll_mk0
  · have hq := trodAll_cons_mk (Below.trod Tryz.laidOut (by kernel_rfl) (of_decide_eq_true (by kernel_rfl)) h0k hg hlt0) (trodAll_cons_mk (shut_int Tryz.underlying22 w1) (trodAll_cons_mk (Below.trod Tryz.laidOut (by kernel_rfl) (of_decide_eq_true (by kernel_rfl)) h2k hg hlt2) trodAll_mk0))
    simp only [List.append_nil, List.nil_append] at hq
    exact hq
  · rfl

theorem anything_said : Rows.AnythingSaid :=
  OpenClaim.holds_of_wide 9 Tryz.f9 rfl rfl rfl rfl rfl rfl rfl ⟨rfl, rfl, rfl, rfl, rfl⟩ rfl rfl rfl rfl rfl anything_func Tryz.func9 anything_joined anything_instance anything_wrapper
    (fun os started H enc _ => anything_lifted os started H enc)

theorem anything_plain (f : FuncId) (fn : Func) (hf : Tryz.pinned.checked.prog.funcNamed "coffer/cofferkeep.Anything" = some f) (hfn : Tryz.pinned.checked.prog.funcs[f]? = some fn) :
    true = Tryz.pinned.checked.prog.looks [] ∧ ∀ (j : Nat) t, fn.params[j]? = some t → Tryz.pinned.checked.prog.wantsStandIn t = false := by
  obtain rfl : f = 9 := Option.some.inj ((show Tryz.prog.funcNamed "coffer/cofferkeep.Anything" = some 9 by kernel_rfl).symm.trans hf) |>.symm
  obtain rfl : fn = Tryz.f9 := (Option.some.inj (Tryz.func9.symm.trans hfn)).symm
  refine ⟨by kernel_rfl, fun j t ht => ?_⟩
  rw [Tryz.params9] at ht
  have hm : t = 30 ∨ t = 22 ∨ t = 66 := by
    have := Array.mem_of_getElem? ht
    simp at this
    rcases this with h | h | h <;> simp [h]
  rcases hm with rfl | rfl | rfl
  · exact (show Tryz.prog.wantsStandIn 30 = false by kernel_rfl)
  · exact (show Tryz.prog.wantsStandIn 22 = false by kernel_rfl)
  · exact (show Tryz.prog.wantsStandIn 66 = false by kernel_rfl)

theorem anything_card : Rows.AnythingCardSaid :=
  Claim7.holds_tied_plain_at .later [] _ _ _ _ anything_said (fun _ h => by cases h) (by kernel_rfl) (fun _ h => by cases h) anything_row_tie rfl ⟨rfl, rfl⟩ (by kernel_rfl) rfl anything_plain (by kernel_rfl)
#print axioms anything_card
end Go.Proofs.YtcegdgmbponapaaGreatDoor
