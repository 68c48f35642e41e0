/-
  Split, where it refuses.
-/
import Derived.Test.YtcegdgmbponapaaDoorWRefuse
import Derived.BigQuiet
namespace Go.Proofs.YtcegdgmbponapaaDoor
open Go.RowKit
attribute [local go_sem ↓] Go.wp_at_zero Go.wp_at_succ

set_option maxRecDepth 100000 in
theorem checkTape_bad (tape : ByteArray) (need : Nat) (w : World) (h : tape.size < need) (hn : need ≤ 1000) (hT : Tab w) :
    Calls Tryd.prog 46 #[.string tape, .int .i64 need] w fun e w' => ∃ ev, e = .returned ev ∧ Chain w' 7 1 ev ∧ Below w.heap.size w w' := by
  have h1 : ¬ (need : Int) ≤ (tape.size : Int) := by omega
  have HS := hid (show I64 (tape.size : Int) by unfold I64; omega)
  go_enter Tryd.func46, Tryd.ntmps46
  go_wp2_with (go_at_call 61; refine (atCount_any _ _ _ 7 0 _ HS.out (by decide) hT .hit).mono ?_; rintro e w3 ⟨ev, rfl, hch, hb3⟩)
  go_ret
  exact ⟨_, rfl, hch, hb3⟩

set_option maxRecDepth 100000 in
set_option maxHeartbeats 1000000 in
theorem cutSplit_refused (m t l n : Int) (v tape : ByteArray) (k : Int) (w : World) (hT : Tab w)
    (h : ∀ w, Tab w → Calls Tryd.prog 44 #[.agg #[.int .i64 m, .int .i64 t, .int .i64 l], .int .i64 n, .int .i64 v.size] w fun e w' => ∃ ev, e = .returned (.tuple #[noLay, ev]) ∧ Chain w' k 1 ev ∧ Below w.heap.size w w') :
    Calls Tryd.prog 29 #[.string v, .agg #[.int .i64 m, .int .i64 t, .int .i64 l], .int .i64 n, .string tape] w fun e w' =>
      ∃ ev, e = .returned (.tuple #[.slice none 0 0, ev]) ∧ Chain w' k 2 ev ∧ Below w.heap.size w w' := by
  have hba := (Below.refl w.heap.size w).alloc (Nat.le_refl _) (.cells #[.int .i64 m, .int .i64 t, .int .i64 l] 23)
  have HH := hid (h _ (hT.keeps hba (Nat.le_refl _)))
  clear h hT
  go_enter Tryd.func29, Tryd.ntmps29
  go_wp2_with fail
  refine HH.out.mono ?_
  rintro e w1 ⟨ev, rfl, hch, hb1⟩
  obtain ⟨te, ve, rfl⟩ := hch.shape
  have hbl := (Below.refl w1.heap.size w1).alloc (Nat.le_refl _) (.cells #[.slice none 0 0, .slice none 0 0, .int .i64 0] 88)
  have HC := hid (hch.keeps hbl (Nat.le_refl _))
  unfold noLay
  clear hch
  go_wp2_with (go_at_call 45; refine (at_chain _ _ k 1 _ HC.out).mono ?_; rintro e w3 ⟨ev, rfl, hch, hb3⟩)
  go_ret2
  exact ⟨_, rfl, hch, ((hba.trans (hb1.mono (by simp))).trans (hbl.mono (by have := hb1.size; simp at this; omega))).trans (hb3.mono (by have := hb1.size; simp at this; simp; omega))⟩

set_option maxRecDepth 100000 in
set_option maxHeartbeats 1000000 in
theorem cutSplit_tape (mode t l n : Nat) (v tape : ByteArray) (w : World) (hT : Tab w) (h : IsPlan mode t l n) (hv : v.size ≤ 60) (hsh : tape.size < Cof.tsize mode t * Cof.ngroups mode t l v.size) :
    Calls Tryd.prog 29 #[.string v, .agg #[.int .i64 mode, .int .i64 t, .int .i64 l], .int .i64 n, .string tape] w fun e w' =>
      ∃ ev, e = .returned (.tuple #[.slice none 0 0, ev]) ∧ Chain w' 7 2 ev ∧ Below w.heap.size w w' := by
  have hng := ngroups_le h v.size hv
  have hts : Cof.tsize mode t ≤ 8 := by obtain ⟨_, _, _, _, _, h6⟩ := h; unfold Cof.tsize; split <;> omega
  have hba := (Below.refl w.heap.size w).alloc (Nat.le_refl _) (.cells #[.int .i64 mode, .int .i64 t, .int .i64 l] 23)
  have HT := hid (hT.keeps hba (Nat.le_refl _))
  clear hT
  go_enter Tryd.func29, Tryd.ntmps29
  go_wp2_with fail
  refine (layoutFor_ok mode t l n v.size _ h hv).mono ?_
  rintro e w1 ⟨ag, cg, at', ct, rfl, hlay, hb1⟩
  generalize Cof.gsize mode t l = gs at *
  generalize Cof.tsize mode t = ts at *
  generalize Cof.ngroups mode t l v.size = ng at *
  have hbl := (Below.refl w1.heap.size w1).alloc (Nat.le_refl _) (.cells #[.slice ag gs cg, .slice at' ts ct, .int .i64 ng] 88)
  have HT1 := hid ((HT.out.keeps hb1 (Nat.le_refl _)).keeps hbl (Nat.le_refl _))
  have hb01 : Below w.heap.size w w1 := hba.trans (hb1.mono (by simp))
  have hq480 : ts * ng ≤ 8 * 60 := Nat.mul_le_mul hts hng
  clear hlay h hb1
  go_wp2_with fail
  refine (tapeNeed_any ag at' gs cg ts ct ng _ hts hng).mono ?_
  rintro e w2 ⟨rfl, hb2⟩
  have HT2 := hid (HT1.out.keeps hb2 (Nat.le_refl _))
  generalize ts * ng = need at *
  have HSH := hid hsh
  clear hsh
  go_wp2_with fail
  refine (checkTape_bad tape need _ HSH.out (by omega) HT2.out).mono ?_
  rintro e w3 ⟨ev, rfl, hch, hb3⟩
  obtain ⟨te, ve, rfl⟩ := hch.shape
  have HC := hid hch
  clear hch
  go_wp2_with (go_at_call 45; refine (at_chain _ _ 7 1 _ HC.out).mono ?_; rintro e w4 ⟨ev, rfl, hch, hb4⟩)
  go_ret2
  have z1 := hb01.size
  have z2 := hb2.size
  have z3 := hb3.size
  simp at z2
  exact ⟨_, rfl, hch, (((hb01.trans (hbl.mono z1)).trans (hb2.mono (by simp; omega))).trans (hb3.mono (by omega))).trans (hb4.mono (by omega))⟩

set_option maxRecDepth 100000 in
set_option maxHeartbeats 1000000 in
theorem split_refused (m t l n : Int) (v tape : ByteArray) (k : Int) (w : World) (hT : Tab w) (hg : ErrType w)
    (h : ∀ w, Tab w → Calls Tryd.prog 29 #[.string v, .agg #[.int .i64 m, .int .i64 t, .int .i64 l], .int .i64 n, .string tape] w fun e w' => ∃ ev, e = .returned (.tuple #[.slice none 0 0, ev]) ∧ Chain w' k 2 ev ∧ Below w.heap.size w w') :
    Calls Tryd.prog 8 #[.string v, .agg #[.int .i64 m, .int .i64 t, .int .i64 l], .int .i64 n, .string tape] w fun e w' =>
      e = .returned (.tuple #[.slice none 0 0, .int .i64 k]) ∧ Below w.heap.size w w' := by
  have hba := (Below.refl w.heap.size w).alloc (Nat.le_refl _) (.cells #[.int .i64 m, .int .i64 t, .int .i64 l] 23)
  have HH := hid (h _ (hT.keeps hba (Nat.le_refl _)))
  have HG := hid hg
  clear h hT hg
  go_enter Tryd.func8, Tryd.ntmps8
  go_wp2_with fail
  refine HH.out.mono ?_
  rintro e w1 ⟨ev, rfl, hch, hb1⟩
  obtain ⟨te, ve, rfl⟩ := hch.shape
  have hb01 : Below w.heap.size w w1 := hba.trans (hb1.mono (by simp))
  have HC := hid hch
  clear hch
  go_wp2_with fail
  refine (number_chain k _ 2 _ HC.out (by omega) (by exact HG.out.keeps hb01 (Nat.le_refl _))).mono ?_
  rintro e w2 ⟨rfl, hb2⟩
  go_wp2_with fail
  go_ret2
  exact ⟨rfl, hb01.trans (hb2.mono hb01.size)⟩
end Go.Proofs.YtcegdgmbponapaaDoor
