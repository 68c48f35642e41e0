/-
  What is done to a store: Add, to one where nothing lies.
  The writes of a call, one after another, where none crashes.
-/
import Derived.Test.YtcegdgmbponapaaGreatDoorPart17
import Derived.Deep.Onto
namespace Go.Proofs.YtcegdgmbponapaaGreatDoor
open Go.RowKit
attribute [local go_sem ↓] Go.wp_at_zero Go.wp_at_succ

theorem Tryz.infoR : (Tryz.prog.info? 152).map (fun i => (i.zero, i.size, i.bytes)) = some (some (.agg #[.string ByteArray.empty, .int .i64 0, .int .i64 0, .int .i64 0, .int .i64 0, .int .i64 0, .slice none 0 0, .slice none 0 0]), 8, 104) := by kernel_rfl

theorem recs_one (r : RecV) : recs [r] = r.cells := by simp [recs]
theorem sorted_one (r : RecV) : Sorted [r] := fun i j h1 h2 => by simp at h2; omega
theorem sorted_nil : Sorted [] := fun i j _ h2 => by simp at h2

set_option maxRecDepth 100000 in
set_option maxHeartbeats 1000000 in
theorem insert_nil (b : Nat) (r : RecV) (w : World) (h : ∀ j v, r.cells[j]? = some v → w.cell? ⟨b, j, none⟩ = some v) :
    Calls Tryz.prog 197 #[.slice none 0 0, .int .i64 0, .slice (some ⟨b, 0, none⟩) 1 1] w fun e w' =>
      ∃ v, e = .returned v ∧ w'.ownsRow w.heap.size 152 8 v 1 (recs [r]) ∧ Below w.heap.size w w' := by
  obtain ⟨i0, hi, hz0, hz1, hz2⟩ := info_parts Tryz.infoR
  have H := hid h
  clear h
  go_enter Tryz.func197, Tryz.ntmps197
  go_wp2_with (first | (at_builtin; refine wpList_append_own _ rfl (.tmp 23) (.tmp 24) 145 rfl w.heap.size 152 i0 _ 8 104 Tryz.underlying145 hi hz0 hz1 hz2 rfl (by decide) (.slice none 0 0) 0 [] rfl ⟨rfl, .inl ⟨rfl, rfl⟩⟩ ⟨b, 0, none⟩ 1 1 r.cells rfl rfl (fun j u hj => by rw [add_at, Nat.zero_add]; exact H.out j u hj) (fun u hu => by simp [RecV.cells] at hu; rcases hu with rfl | rfl | rfl | rfl | rfl | rfl | rfl | rfl <;> rfl) (by unfold maxLen; omega) (by omega) (Nat.le_refl _) ?_; intro v2 w2 hown2 hgrow2 _; have HO2 := hid hown2; have hb2 := (Below.refl w.heap.size w).grown hgrow2 (Nat.le_refl _) nofun; clear hown2) | fail)
  go_ret
  refine ⟨_, rfl, ?_, hb2⟩
  rw [recs_one]
  simpa using HO2.out

theorem owns_below_size {B : Nat} {w w' : World} {base n size : Nat} {e : TypeId} {L : List Value} {v : Value} (h : w.ownsRow base e size v n L) (hb : Below B w w') (hB : w.heap.size ≤ B) : w'.ownsRow base e size v n L :=
  owns_spared h (Spared.ofBelow (own := fun _ => False) hb hB) (fun _ _ h => h)

/-- What the operations of 'the record is laid at the store' find, one by one. -/
def addR (S W : Nat) (r : RecV) : Nat → Value → World → Prop
  | 0, v, _ => v = .pointer (some ⟨S, 0, none⟩)
  | 1, v, _ => v = .pointer (some ⟨S, 0, none⟩)
  | 2, v, _ => v = .pointer (some ⟨S, 0, none⟩)
  | 3, v, _ => v = .pointer (some ⟨S, 1, none⟩)
  | 4, v, _ => v = .slice none 0 0
  | 5, v, _ => v = .int .i64 0
  | 6, v, _ => v = .agg #[.string r.name, .int .i64 r.mode, .int .i64 r.t, .int .i64 r.l, .int .i64 r.size, .int .i64 r.epoch, .slice r.sa r.sn r.sc, .slice r.na r.nn r.nc]
  | 7, v, w => ∃ b, v = .slice (some ⟨b, 0, none⟩) 1 1 ∧ b < w.heap.size ∧ ∀ j u, r.cells[j]? = some u → w.cell? ⟨b, j, none⟩ = some u
  | 8, v, w => w.ownsRow W 152 8 v 1 (recs [r])
  | 9, v, _ => v = .pointer (some ⟨S, 0, none⟩)
  | 10, v, _ => v = .pointer (some ⟨S, 1, none⟩)
  | _, _, _ => True

theorem addR_keeps (S W : Nat) (r : RecV) (j : Nat) (v : Value) (w w' : World) (h : addR S W r j v w) (hb : Below w.heap.size w w') : addR S W r j v w' := by
  unfold addR at h ⊢
  split at h
  · exact h
  · exact h
  · exact h
  · exact h
  · exact h
  · exact h
  · exact h
  · obtain ⟨b, h1, h2, h3⟩ := h
    exact ⟨b, h1, Nat.lt_of_lt_of_le h2 hb.size, fun j u hj => (hb.cell h2).trans (h3 j u hj)⟩
  · exact owns_below_size h hb (Nat.le_refl _)
  · exact h
  · exact h
  · trivial

set_option maxRecDepth 100000 in
set_option maxHeartbeats 1000000 in
theorem add_first (S : Nat) (down : Bool) (r : RecV) (w : World) (h : Sto w S down (.slice none 0 0) []) :
    Calls Tryz.prog 155 #[.pointer (some ⟨S, 0, none⟩), r.val] w fun e w' =>
      e = .returned (.tuple #[]) ∧ ∃ v', Sto w' S down v' [r] ∧ (∀ b, v'.ownBlock = some b → w.heap.size ≤ b) ∧ Spared (fun b => b = S) w w' := by
  obtain ⟨a, c, hv, hst⟩ := h.st
  have hba := (Below.refl w.heap.size w).alloc (Nat.le_refl _) (.cells #[.string r.name, .int .i64 r.mode, .int .i64 r.t, .int .i64 r.l, .int .i64 r.size, .int .i64 r.epoch, .slice r.sa r.sn r.sc, .slice r.na r.nn r.nc] 152)
  have HP := hid (place_any S down a c [] r.name _ (hst.keeps hba (Nat.le_refl _)))
  rw [show posOf [] r.name = 0 from rfl, show hasName [] r.name = false by simp [hasName]] at HP
  have hSlt := hst.lt
  have HS := hid h
  clear h hst hv
  unfold RecV.val
  go_enter Tryz.func155, Tryz.ntmps155
  go_wp2_with fail
  refine HP.out.mono ?_
  rintro e w1 ⟨rfl, hb1⟩
  have hb01 : Below w.heap.size w w1 := hba.trans (hb1.mono (by simp))
  have hz1 : w.heap.size < w1.heap.size := by have := hb1.size; simp at this; omega
  have hc1 : ∀ o, w1.cell? ⟨w.heap.size, o, none⟩ = _ := fun o => (bcell hb1).1 w.heap.size o (by simp)
  go_wp2_with fail
  have d1 : w1.cell? ⟨S, 1, none⟩ = some (.slice none 0 0) := by rw [hb01.cell (p := ⟨S, 1, none⟩) hSlt, cells_at HS.out.hp]; rfl
  have HFX : ∀ a : Act, (∀ x ∈ [((0 : Nat), Value.pointer (some ⟨S, 0, none⟩)), (3, .pointer (some ⟨w.heap.size, 0, none⟩)), (4, .int .i64 0)], a.tmps.getD x.1 undef = x.2) → a.tmps[0]?.getD undef = .pointer (some ⟨S, 0, none⟩) ∧ a.tmps[3]?.getD undef = .pointer (some ⟨w.heap.size, 0, none⟩) ∧ a.tmps[4]?.getD undef = .int .i64 0 := by
    intro a h
    simpa using h
  have HCELL : ∀ w' : World, Below w1.heap.size { w1 with drawn := w1.drawn + 1 } w' → w'.cell? ⟨S, 1, none⟩ = some (.slice none 0 0) ∧ w'.cell? ⟨w.heap.size, 0, none⟩ = some (.string r.name) ∧ w'.cell? ⟨w.heap.size, 1, none⟩ = some (.int .i64 r.mode) ∧ w'.cell? ⟨w.heap.size, 2, none⟩ = some (.int .i64 r.t) ∧ w'.cell? ⟨w.heap.size, 3, none⟩ = some (.int .i64 r.l) ∧ w'.cell? ⟨w.heap.size, 4, none⟩ = some (.int .i64 r.size) ∧ w'.cell? ⟨w.heap.size, 5, none⟩ = some (.int .i64 r.epoch) ∧ w'.cell? ⟨w.heap.size, 6, none⟩ = some (.slice r.sa r.sn r.sc) ∧ w'.cell? ⟨w.heap.size, 7, none⟩ = some (.slice r.na r.nn r.nc) := by
    intro w' hb
    have e : ∀ b o, b < w1.heap.size → w'.cell? ⟨b, o, none⟩ = w1.cell? ⟨b, o, none⟩ := fun b o h => hb.cell h
    exact ⟨(e _ _ (by omega)).trans d1, by rw [e _ _ hz1, hc1]; simp, by rw [e _ _ hz1, hc1]; simp, by rw [e _ _ hz1, hc1]; simp, by rw [e _ _ hz1, hc1]; simp, by rw [e _ _ hz1, hc1]; simp, by rw [e _ _ hz1, hc1]; simp, by rw [e _ _ hz1, hc1]; simp, by rw [e _ _ hz1, hc1]; simp⟩
  refine wp_region_store (by kernel_rfl) (fun i => i + 14) (addR S w.heap.size r) [(0, .pointer (some ⟨S, 0, none⟩)), (3, .pointer (some ⟨w.heap.size, 0, none⟩)), (4, .int .i64 0)] 25 11 [0, 3, 4] (by kernel_rfl) (by kernel_rfl) rfl rfl rfl ?_ (addR_keeps S w.heap.size r) ?_ ?_
  · simp
  · refine ⟨?_, ?_, ?_, ?_, ?_, ?_, ?_, ?_, ?_, ?_, ?_, trivial⟩
    · intro a w' hb hf hd
      obtain ⟨f0, f3, f4⟩ := HFX a hf
      obtain ⟨c1, k0, k1, k2, k3, k4, k5, k6, k7⟩ := HCELL w' hb
      simp [addR] at hd
      exact .inl ⟨.pointer (some ⟨S, 0, none⟩), w', by go_simp, Below.refl _ _, rfl⟩
    · intro a w' hb hf hd
      obtain ⟨f0, f3, f4⟩ := HFX a hf
      obtain ⟨c1, k0, k1, k2, k3, k4, k5, k6, k7⟩ := HCELL w' hb
      simp [addR] at hd
      exact .inl ⟨.pointer (some ⟨S, 0, none⟩), w', by go_simp, Below.refl _ _, rfl⟩
    · intro a w' hb hf hd
      obtain ⟨f0, f3, f4⟩ := HFX a hf
      obtain ⟨c1, k0, k1, k2, k3, k4, k5, k6, k7⟩ := HCELL w' hb
      simp [addR] at hd
      exact .inl ⟨.pointer (some ⟨S, 0, none⟩), w', by go_simp, Below.refl _ _, rfl⟩
    · intro a w' hb hf hd
      obtain ⟨f0, f3, f4⟩ := HFX a hf
      obtain ⟨c1, k0, k1, k2, k3, k4, k5, k6, k7⟩ := HCELL w' hb
      simp [addR] at hd
      exact .inl ⟨.pointer (some ⟨S, 1, none⟩), w', by go_simp, Below.refl _ _, rfl⟩
    · intro a w' hb hf hd
      obtain ⟨f0, f3, f4⟩ := HFX a hf
      obtain ⟨c1, k0, k1, k2, k3, k4, k5, k6, k7⟩ := HCELL w' hb
      simp [addR] at hd
      exact .inl ⟨.slice none 0 0, w', by go_simp, Below.refl _ _, rfl⟩
    · intro a w' hb hf hd
      obtain ⟨f0, f3, f4⟩ := HFX a hf
      obtain ⟨c1, k0, k1, k2, k3, k4, k5, k6, k7⟩ := HCELL w' hb
      simp [addR] at hd
      exact .inl ⟨.int .i64 0, w', by go_simp, Below.refl _ _, rfl⟩
    · intro a w' hb hf hd
      obtain ⟨f0, f3, f4⟩ := HFX a hf
      obtain ⟨c1, k0, k1, k2, k3, k4, k5, k6, k7⟩ := HCELL w' hb
      simp [addR] at hd
      exact .inl ⟨.agg #[.string r.name, .int .i64 r.mode, .int .i64 r.t, .int .i64 r.l, .int .i64 r.size, .int .i64 r.epoch, .slice r.sa r.sn r.sc, .slice r.na r.nn r.nc], w', by go_simp, Below.refl _ _, rfl⟩
    · intro a w' hb hf hd
      obtain ⟨f0, f3, f4⟩ := HFX a hf
      obtain ⟨c1, k0, k1, k2, k3, k4, k5, k6, k7⟩ := HCELL w' hb
      simp [addR] at hd
      refine .inl ⟨.slice (some ⟨w'.heap.size, 0, none⟩) 1 1, w'.alloc (.cells #[.string r.name, .int .i64 r.mode, .int .i64 r.t, .int .i64 r.l, .int .i64 r.size, .int .i64 r.epoch, .slice r.sa r.sn r.sc, .slice r.na r.nn r.nc] 152), by go_simp, (Below.refl _ _).alloc (Nat.le_refl _) _, w'.heap.size, rfl, by simp, fun j u hj => ?_⟩
      rw [World.cell?_alloc_at _ _ _ _ rfl]
      simpa [RecV.cells] using hj
    · intro a w' hb hf hd
      obtain ⟨f0, f3, f4⟩ := HFX a hf
      obtain ⟨c1, k0, k1, k2, k3, k4, k5, k6, k7⟩ := HCELL w' hb
      simp [addR] at hd
      obtain ⟨h4, h5, b, h7, _, h7c⟩ := hd
      refine .inr ⟨197, #[.slice none 0 0, .int .i64 0, .slice (some ⟨b, 0, none⟩) 1 1], by go_simp, (insert_nil b r w' h7c).mono ?_⟩
      rintro e w'' ⟨v, rfl, hown, hb2⟩
      exact ⟨_, rfl, hb2, World.ownsRow.mono hown (by have := hb.size; simp at this; omega)⟩
    · intro a w' hb hf hd
      obtain ⟨f0, f3, f4⟩ := HFX a hf
      obtain ⟨c1, k0, k1, k2, k3, k4, k5, k6, k7⟩ := HCELL w' hb
      simp [addR] at hd
      exact .inl ⟨.pointer (some ⟨S, 0, none⟩), w', by go_simp, Below.refl _ _, rfl⟩
    · intro a w' hb hf hd
      obtain ⟨f0, f3, f4⟩ := HFX a hf
      obtain ⟨c1, k0, k1, k2, k3, k4, k5, k6, k7⟩ := HCELL w' hb
      simp [addR] at hd
      exact .inl ⟨.pointer (some ⟨S, 1, none⟩), w', by go_simp, Below.refl _ _, rfl⟩
  · intro a w' ol hol hdf hsz hb hf hr
    cases hol
    have r8 := hr 8 (by decide)
    have r10 := hr 10 (by decide)
    simp [addR] at r8 r10
    obtain ⟨g, cap, hv8, hg1, hg2⟩ := row_some r8 (by decide)
    have hbx : Below w.heap.size w w' := hb01.drew.trans (hb.mono (by show w.heap.size ≤ w1.heap.size; omega))
    have hpS : w'.heap[S]? = some (.cells #[.bool down, .slice none 0 0] 178) := by rw [hbx.block S hSlt]; exact HS.out.hp
    have c1 : w'.cell? ⟨S, 1, none⟩ = some (.slice none 0 0) := by rw [cells_at hpS]; rfl
    have f1 : w'.frozen? ⟨S, 1, none⟩ = false := cells_fz hpS
    refine wp_store_one 145 (.tmp 24) (.tmp 22) rfl S 1 (.slice (some ⟨g, 0, none⟩) 1 cap) (by simp [Act.eval]; exact r10) (by simp [Act.eval]; exact hv8) rfl rfl (by kernel_rfl) _ c1 f1 ?_
    rw [hv8] at r8
    refine bodyPost_end (by simp [results, Tryz.results155, go_sem]) hdf ⟨rfl, _, ⟨cells_set _ hpS, ?_, sorted_one r, by simp⟩, ?_, ?_⟩
    · exact owns_spared (World.ownsRow.mono r8 (Nat.zero_le _)) ((Spared.refl (fun b => b = S) w').setCell (p := ⟨S, 1, none⟩) rfl _) (fun b hb => by cases hb; show ¬ g = S; omega)
    · intro b hb; cases hb; exact hg1
    · exact (Spared.ofBelow (own := fun b => b = S) hbx (Nat.le_refl _)).setCell (p := ⟨S, 1, none⟩) rfl _
end Go.Proofs.YtcegdgmbponapaaGreatDoor

namespace Go.Proofs.YtcegdgmbponapaaGreatDoor
open Go.RowKit
attribute [local go_sem ↓] Go.wp_at_zero Go.wp_at_succ

theorem callFn {P : Program} {f : FuncId} {fn : Func} {c : Code} (hf : P.funcs[f]? = some fn) (hname : (fn.name == "runtime.NumGoroutine") = false) (hb : fn.body = some c) (args : Array Value) (w : World) : (callFunc f args).run P w = .ok (.enter f args) w := by
  have h1 : fn.name ≠ "runtime.NumGoroutine" := by simpa using hname
  simp [callFunc, hf, h1, hb]

/-- What holds behind t writes of a call. -/
structure Wrt (J : Nat → World → Prop) (own : Nat → Prop) (W : World) (V key n B bc : Nat) (sp : Nat → Nat) (t : Nat) (w : World) : Prop where
  vt : ∃ done ahead, Vt w V key n B bc sp done false ahead false
  j : J t w
  sp : Spared (fun b => b = V ∨ own b) W w

set_option maxRecDepth 100000 in
set_option maxHeartbeats 2000000 in
theorem write_free (c k : Nat) (fs : List Nat) (J : Nat → World → Prop) (own : Nat → Prop) (V key n B bc br rc : Nat) (sp : Nat → Nat) (xs : List RecV) (done ahead : Int) (w : World) (hk : fs.length = k) (hk2 : k ≤ 2) (hn8 : n ≤ 8)
    (hsteps : ∀ w, Calls Tryz.prog 134 #[.int .i64 c] w fun e w' => ∃ g, e = .returned (.slice (some ⟨g, 0, none⟩) k k) ∧ w.heap.size ≤ g ∧ Fns w' g fs ∧ Below w.heap.size w w')
    (hcall : ∀ (j f : Nat), fs[j]? = some f → ∀ args w, (callFunc f args).run Tryz.prog w = .ok (.enter f args) w)
    (hv : Vt w V key n B bc sp done false ahead false) (hxl : xs.length = n) (hx : Rd w (some ⟨br, 0, none⟩) (recs xs)) (hbr : br < w.heap.size)
    (hJ0 : ∀ w', Below w.heap.size w w' → J 0 w') (hJV : ∀ t w1 w2, J t w1 → Spared (fun b => b = V) w1 w2 → J t w2)
    (hown : ∀ b, own b → b < w.heap.size) (hoV : ¬ own V) (hoB : ¬ own B) (hor : ¬ own br) (hrV : br ≠ V) (hBV : B ≠ V)
    (hone : ∀ (j i f : Nat) w1, fs[j]? = some f → i < n → J (j * n + i) w1 → Spared (fun b => b = V ∨ own b) w w1 → Calls Tryz.prog f #[.pointer (some ⟨sp i, 0, none⟩), (xs[i]!).val] w1 fun e w2 => e = .returned (.tuple #[]) ∧ J (j * n + i + 1) w2 ∧ Spared own w1 w2) :
    Calls Tryz.prog 80 #[.pointer (some ⟨V, 0, none⟩), .int .i64 c, .slice (some ⟨br, 0, none⟩) n rc] w fun e w' =>
      e = .returned .nilIface ∧ Wrt J own w V key n B bc sp (k * n) w' := by
  have HST := hid hsteps
  have HCALL := hid hcall
  have HV := hid hv
  have HX := hid hx
  have HXL := hid hxl
  have HJ0 := hid hJ0
  have HJV := hid hJV
  have HOWN := hid hown
  have HO := hid (And.intro hoV (And.intro hoB (And.intro hor (And.intro hrV hBV))))
  have HONE := hid hone
  have HK := hid hk
  have hVlt := cells_lt hv.hp
  have HBLT := hid (show B < w.heap.size by obtain ⟨L, hL, _⟩ := hv.hb; exact cells_lt hL)
  clear hsteps hcall hv hx hxl hJ0 hJV hown hoV hoB hor hrV hBV hone hk
  go_enter Tryz.func80, Tryz.ntmps80
  go_wp2_with fail
  refine (HST.out _).mono ?_
  rintro e w1 ⟨g, rfl, hg, hfns, hb1⟩
  have HW1 := hid (show Wrt J own w V key n B bc sp 0 w1 from ⟨⟨done, ahead, HV.out.keeps (Spared.ofBelow (own := fun _ => False) hb1 (Nat.le_refl _)) (fun h => h) (fun h => h)⟩, HJ0.out _ hb1, Spared.ofBelow hb1 (Nat.le_refl _)⟩)
  have HF := hid hfns
  clear hfns
  go_wp2_with fail
  go_loopw [15] (fun u wr => ∃ j : Nat, j ≤ k ∧ u = .int .i64 j ∧ Wrt J own w V key n B bc sp (j * n) wr ∧ Fns wr g fs) (fun u _ => k - (intOf u).toNat)
  case atStart => exact ⟨0, Nat.zero_le _, rfl, by rw [Nat.zero_mul]; exact HW1.out, HF.out⟩
  case round =>
    obtain ⟨j, hj, rfl, hwrt, hfn⟩ := hrel
    by_cases hlt : j < k
    · obtain ⟨f, hf⟩ : ∃ f, fs[j]? = some f := ⟨_, List.getElem?_eq_getElem (by rw [HK.out]; exact hlt)⟩
      have cf := hfn.2 j f hf
      unfold fnV at cf
      have hlt' : (j : Int) < (k : Int) := by omega
      obtain ⟨wo, rfl⟩ : ∃ wo, wo = wr := ⟨_, rfl⟩
      obtain ⟨d1, a1, hvt⟩ := hwrt.vt
      have c1 := hvt.va.c1
      have HWO := hid hwrt
      have HFN := hid hfn
      have HFJ := hid hf
      clear hwrt hfn hf hvt
      go_wp2_with fail
      go_loopw [24] (fun u wr => ∃ i : Nat, i ≤ n ∧ u = .int .i64 i ∧ Wrt J own w V key n B bc sp (j * n + i) wr ∧ Fns wr g fs) (fun u _ => n - (intOf u).toNat)
      case atStart => exact ⟨0, Nat.zero_le _, rfl, HWO.out, HFN.out⟩
      case round =>
        obtain ⟨i, hi, rfl, hwi, hfi⟩ := hrel
        by_cases hli : i < n
        · obtain ⟨dn, an, hvt⟩ := hwi.vt
          have k1 : wr.cell? ⟨B, i, none⟩ = some (.pointer (some ⟨sp i, 0, none⟩)) := by have := hvt.va.st i hli; rwa [Nat.zero_add] at this
          have hli' : (i : Int) < (n : Int) := by omega
          have HNX := hid (next_free V _ _ dn an false wr hvt.hp)
          have hs2 : Spared (fun b => b = V ∨ own b) w (nextOf wr V dn an) := hwi.sp.trans ((nextOf_spared wr V dn an).mono fun b hb => .inl hb)
          have HJ2 := hid (HJV.out _ _ _ hwi.j (nextOf_spared wr V dn an))
          have HS2 := hid hs2
          have HFI2 := hid (hfi.keeps (nextOf_spared wr V dn an) (show ¬ g = V by omega))
          have HV2 := hid (show Vt (nextOf wr V dn an) V key n B bc sp (wrap64 (dn + 1)) false (wrap64 (an - 1)) false from ⟨nextOf_heap hvt.hp, by obtain ⟨L, hL, hLi⟩ := hvt.hb; exact ⟨L, (nextOf_spared wr V dn an).heap hL HO.out.2.2.2.2, hLi⟩⟩)
          have hrx : Rd (nextOf wr V dn an) (some ⟨br, 0, none⟩) (recs xs) := by
            intro q v hq
            obtain ⟨b', o', h1, h2, h3⟩ := HX.out q v hq
            simp at h1
            obtain ⟨rfl, rfl⟩ := h1
            refine ⟨br, 0, rfl, Nat.lt_of_lt_of_le hbr hs2.size, ?_⟩
            rw [World.cell?_of_block (hs2.block br hbr (fun h => h.elim HO.out.2.2.2.1 HO.out.2.2.1))]
            exact h3
          obtain ⟨_, r0, r1, r2, r3, r4, r5, r6, r7⟩ := rec_at hrx i (by rw [HXL.out]; exact hli)
          rw [Nat.zero_add] at r0 r1 r2 r3 r4 r5 r6 r7
          obtain ⟨W2, hW2⟩ : ∃ W2, W2 = nextOf wr V dn an := ⟨_, rfl⟩
          rw [← hW2] at r0 r1 r2 r3 r4 r5 r6 r7 HNX HJ2 HS2 HFI2 HV2
          have HONE2 := hid (HONE.out j i f W2 HFJ.out hli HJ2.out HS2.out)
          unfold RecV.val at HONE2
          generalize xs[i]! = x at *
          have hcf := HCALL.out j f HFJ.out
          clear hwi hfi hvt hs2 hrx hW2
          go_wp2_with (go_at_call 135; refine HNX.out.mono ?_; rintro e w2 ⟨rfl, rfl⟩)
          refine HONE2.out.mono ?_
          rintro e w3 ⟨rfl, hj3, hs3⟩
          have HJ3 := hid hj3
          have HS3 := hid hs3
          clear hj3 hs3
          go_wp2_with fail
          go_roundw
          case rel =>
            exact ⟨i + 1, by omega, by go_num, ⟨⟨_, _, HV2.out.keeps HS3.out HO.out.1 HO.out.2.1⟩, HJ3.out, HS2.out.trans (HS3.out.mono fun b hb => .inr hb)⟩, HFI2.out.keeps HS3.out (fun h => by have := HOWN.out g h; omega)⟩
          case measure => simp [intOf]; omega
        · have hin : i = n := by omega
          subst hin
          have HWI := hid hwi
          have HFI := hid hfi
          clear hwi hfi
          go_wp2
          go_roundw
          case rel => exact ⟨j + 1, by omega, by go_num, by rw [Nat.succ_mul]; exact HWI.out, HFI.out⟩
          case measure => simp [intOf]; omega
    · have hjk : j = k := by omega
      subst hjk
      go_wp2
      go_ret
      exact ⟨rfl, hwrt⟩

theorem Tryz.callAdd (args : Array Value) (w : World) : (callFunc 155 args).run Tryz.prog w = .ok (.enter 155 args) w := callFn Tryz.func155 (by kernel_rfl) rfl args w
theorem Tryz.callLay (args : Array Value) (w : World) : (callFunc 183 args).run Tryz.prog w = .ok (.enter 183 args) w := callFn Tryz.func183 (by kernel_rfl) rfl args w
theorem Tryz.callTurn (args : Array Value) (w : World) : (callFunc 184 args).run Tryz.prog w = .ok (.enter 184 args) w := callFn Tryz.func184 (by kernel_rfl) rfl args w
end Go.Proofs.YtcegdgmbponapaaGreatDoor
