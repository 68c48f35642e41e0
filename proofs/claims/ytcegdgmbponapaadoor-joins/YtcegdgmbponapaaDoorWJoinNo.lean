/-
  Join, where it refuses.
-/
import Derived.Test.YtcegdgmbponapaaDoorWStores
import Derived.BigQuiet
namespace Go.Proofs.YtcegdgmbponapaaDoor
open Go.RowKit
attribute [local go_sem ↓] Go.wp_at_zero Go.wp_at_succ

set_option maxRecDepth 100000 in
set_option maxHeartbeats 1000000 in
theorem cutJoin_refused (x : Value) (m t l n size k : Int) (w : World) (hT : Tab w)
    (h : ∀ w, Tab w → Calls Tryd.prog 44 #[.agg #[.int .i64 m, .int .i64 t, .int .i64 l], .int .i64 n, .int .i64 size] w fun e w' => ∃ ev, e = .returned (.tuple #[noLay, ev]) ∧ Chain w' k 1 ev ∧ Below w.heap.size w w') :
    Calls Tryd.prog 37 #[x, .agg #[.int .i64 m, .int .i64 t, .int .i64 l], .int .i64 n, .int .i64 size] w fun e w' =>
      ∃ ev, e = .returned (.tuple #[.slice none 0 0, ev]) ∧ Chain w' k 2 ev ∧ Below w.heap.size w w' := by
  have hba := (Below.refl w.heap.size w).alloc (Nat.le_refl _) (.cells #[.int .i64 m, .int .i64 t, .int .i64 l] 23)
  have HH := hid (h _ (hT.keeps hba (Nat.le_refl _)))
  clear h hT
  go_enter Tryd.func37, Tryd.ntmps37
  go_wp2_with fail
  refine HH.out.mono ?_
  rintro e w1 ⟨ev, rfl, hch, hb1⟩
  obtain ⟨te, ve, rfl⟩ := hch.shape
  have hbl := (Below.refl w1.heap.size w1).alloc (Nat.le_refl _) (.cells #[.slice none 0 0, .slice none 0 0, .int .i64 0] 88)
  have HC := hid (hch.keeps hbl (Nat.le_refl _))
  unfold noLay
  clear hch
  go_wp2_with (go_at_call 45; refine (at_chain _ _ k 1 _ HC.out).mono ?_; rintro e w3 ⟨ev, rfl, hch, hb3⟩)
  go_ret2
  exact ⟨_, rfl, hch, ((hba.trans (hb1.mono (by simp))).trans (hbl.mono (by have := hb1.size; simp at this; omega))).trans (hb3.mono (by have := hb1.size; simp at this; simp; omega))⟩

set_option maxRecDepth 100000 in
set_option maxHeartbeats 1000000 in
/-- The checks of pieces refuse: a store, or a length. -/
theorem checkPieces_no (aP : Option Addr) (m c n : Nat) (zs : List Int) (ps : List ByteArray) (ag at' : Option Addr) (gs cg ts ct G : Nat) (w : World) (em : m = zs.length) (hr : PZ w aP zs ps) (hm : m ≤ maxLen) (hn : n ≤ 8) (hz : ∀ z ∈ zs, I64 z) (hps : ∀ i, i < m → (ps.getD i ByteArray.empty).size ≤ maxLen) (hT : Tab w) :
    (¬ GoodSt zs n → Calls Tryd.prog 56 #[.slice aP m c, .int .i64 n, .agg #[.slice ag gs cg, .slice at' ts ct, .int .i64 G]] w fun e w' => ∃ ev, e = .returned ev ∧ Chain w' 13 1 ev ∧ Below w.heap.size w w') ∧
    (∀ ss : List Nat, m ≤ 100 → m = ss.length → PRd w aP ss ps → (∀ s ∈ ss, s < n) → ss.Nodup → (¬ ∀ i, i < m → (ps.getD i ByteArray.empty).size = G) → Calls Tryd.prog 56 #[.slice aP m c, .int .i64 n, .agg #[.slice ag gs cg, .slice at' ts ct, .int .i64 G]] w fun e w' => ∃ ev, e = .returned ev ∧ Chain w' 12 2 ev ∧ Below w.heap.size w w') := by
  have hba := (Below.refl w.heap.size w).alloc (Nat.le_refl _) (.cells #[.slice ag gs cg, .slice at' ts ct, .int .i64 G] 88)
  constructor
  · intro hbad
    have HH := hid (checkStores_bad aP m c n zs ps _ em (hr.keeps hba (Nat.le_refl _)) hm hn hz hbad (hT.keeps hba (Nat.le_refl _)))
    clear hr hz hps hT em hbad
    go_enter Tryd.func56, Tryd.ntmps56
    go_wp2_with fail
    refine HH.out.mono ?_
    rintro e w1 ⟨ev, rfl, hch, hb1⟩
    obtain ⟨te, ve, rfl⟩ := hch.shape
    have HC := hid hch
    clear hch
    go_wp2
    go_ret
    exact ⟨_, rfl, HC.out, hba.trans (hb1.mono (by simp))⟩
  · intro ss hm100 es hrs hlt hnd hbad
    have HH := hid (checkStores_ok aP m c n ss ps _ es (hrs.keeps hba (Nat.le_refl _)) hm100 hn hlt hnd)
    have HL := hid (fun w1 (hb : Below w.heap.size w w1) => checkLengths_bad aP m c G zs ps w1 em (hr.keeps hb (Nat.le_refl _)) hm hz hps hbad (hT.keeps hb (Nat.le_refl _)))
    clear hr hz hps hT em hbad hrs hlt hnd es
    go_enter Tryd.func56, Tryd.ntmps56
    go_wp2_with fail
    refine HH.out.mono ?_
    rintro e w1 ⟨rfl, hb1⟩
    have hz1 : w.heap.size < w1.heap.size := by have := hb1.size; simp at this; omega
    have hb01 : Below w.heap.size w w1 := hba.trans (hb1.mono (by simp))
    have c0 : w1.cell? ⟨w.heap.size, 0, none⟩ = some (.slice ag gs cg) := (hb1.cell (by simp)).trans (by simp)
    have c1 : w1.cell? ⟨w.heap.size, 1, none⟩ = some (.slice at' ts ct) := (hb1.cell (by simp)).trans (by simp)
    have c2 : w1.cell? ⟨w.heap.size, 2, none⟩ = some (.int .i64 G) := (hb1.cell (by simp)).trans (by simp)
    clear hb1
    go_wp2_with fail
    refine (HL.out w1 hb01).mono ?_
    rintro e w2 ⟨ev, rfl, hch, hb2⟩
    obtain ⟨te, ve, rfl⟩ := hch.shape
    have HC := hid hch
    clear hch
    go_wp2
    go_ret
    exact ⟨_, rfl, HC.out, hb01.trans (hb2.mono hb01.size)⟩

set_option maxRecDepth 100000 in
set_option maxHeartbeats 1000000 in
/-- Join refuses the pieces. -/
theorem cutJoin_pieces (x : Value) (mode t l n size : Nat) (k : Int) (d : Nat) (w : World) (hp : IsPlan mode t l n) (hs : size ≤ 60)
    (h : ∀ w1 ag cg at' ct, Below w.heap.size w w1 → Calls Tryd.prog 56 #[x, .int .i64 n, .agg #[.slice ag (Cof.gsize mode t l) cg, .slice at' (Cof.tsize mode t) ct, .int .i64 (Cof.ngroups mode t l size)]] w1 fun e w' => ∃ ev, e = .returned ev ∧ Chain w' k d ev ∧ Below w1.heap.size w1 w') :
    Calls Tryd.prog 37 #[x, .agg #[.int .i64 mode, .int .i64 t, .int .i64 l], .int .i64 n, .int .i64 size] w fun e w' => ∃ ev, e = .returned (.tuple #[.slice none 0 0, ev]) ∧ Chain w' k (d + 1) ev ∧ Below w.heap.size w w' := by
  have HH := hid h
  clear h
  go_enter Tryd.func37, Tryd.ntmps37
  go_wp2_with fail
  refine (layoutFor_ok mode t l n size _ hp hs).mono ?_
  rintro e w1 ⟨ag, cg, at', ct, rfl, hlay, hb1⟩
  have hb01 : Below w.heap.size w w1 := ((Below.refl _ _).alloc (Nat.le_refl _) _).trans (hb1.mono (by simp))
  have HH1 := hid (HH.out _ ag cg at' ct (hb01.alloc hb01.size (.cells #[.slice ag (Cof.gsize mode t l) cg, .slice at' (Cof.tsize mode t) ct, .int .i64 (Cof.ngroups mode t l size)] 88)))
  generalize Cof.gsize mode t l = gs at *
  generalize Cof.tsize mode t = ts at *
  generalize Cof.ngroups mode t l size = G at *
  clear hlay
  go_wp2_with fail
  refine HH1.out.mono ?_
  rintro e w2 ⟨ev, rfl, hch, hb2⟩
  have HCH := hid hch
  obtain ⟨te, ve, rfl⟩ := hch.shape
  have hb02 : Below w.heap.size w w2 := (hb01.alloc hb01.size _).trans (hb2.mono (by have := hb01.size; simp; omega))
  clear hch hb2 hb1
  go_wp2_with fail
  refine (at_chain _ _ k d _ HCH.out).mono ?_
  rintro e w3 ⟨e', rfl, hch3, hb3⟩
  go_wp2_with fail
  go_ret2
  exact ⟨_, rfl, hch3, hb02.trans (hb3.mono hb02.size)⟩

set_option maxRecDepth 100000 in
set_option maxHeartbeats 1000000 in
theorem join_refused (x : Value) (m t l n size k : Int) (d : Nat) (w : World) (hg : ErrType w) (hd : d ≤ 10)
    (h : Calls Tryd.prog 37 #[x, .agg #[.int .i64 m, .int .i64 t, .int .i64 l], .int .i64 n, .int .i64 size] (w.alloc (.cells #[.int .i64 m, .int .i64 t, .int .i64 l] 23)) fun e w' => ∃ ev, e = .returned (.tuple #[.slice none 0 0, ev]) ∧ Chain w' k d ev ∧ Below (w.alloc (.cells #[.int .i64 m, .int .i64 t, .int .i64 l] 23)).heap.size (w.alloc (.cells #[.int .i64 m, .int .i64 t, .int .i64 l] 23)) w') :
    Calls Tryd.prog 15 #[x, .agg #[.int .i64 m, .int .i64 t, .int .i64 l], .int .i64 n, .int .i64 size] w fun e w' => e = .returned (.tuple #[.string ByteArray.empty, .int .i64 k]) ∧ Below w.heap.size w w' := by
  have hba := (Below.refl w.heap.size w).alloc (Nat.le_refl _) (.cells #[.int .i64 m, .int .i64 t, .int .i64 l] 23)
  have HH := hid h
  have HG := hid hg
  clear h hg
  go_enter Tryd.func15, Tryd.ntmps15
  go_wp2_with fail
  refine HH.out.mono ?_
  rintro e w1 ⟨ev, rfl, hch, hb1⟩
  obtain ⟨te, ve, rfl⟩ := hch.shape
  have hb01 : Below w.heap.size w w1 := hba.trans (hb1.mono (by simp))
  have HC := hid hch
  clear hch
  go_wp2_with fail
  refine (told_no _ _ k d _ HC.out hd (by exact HG.out.keeps hb01 (Nat.le_refl _))).mono ?_
  rintro e w2 ⟨rfl, hb2⟩
  go_wp2_with fail
  go_ret2
  exact ⟨rfl, hb01.trans (hb2.mono hb01.size)⟩
end Go.Proofs.YtcegdgmbponapaaDoor
