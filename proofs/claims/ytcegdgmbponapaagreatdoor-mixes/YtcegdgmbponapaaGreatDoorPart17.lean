/-
  What is done to a store: Turn.
  What is done to a store: Add, to one where nothing lies.
-/
import Derived.Test.YtcegdgmbponapaaGreatDoorPart16
import Derived.Laws.CopyRow
import Derived.Deep.Onto
namespace Go.Proofs.YtcegdgmbponapaaGreatDoor
open Go.RowKit
attribute [local go_sem ↓] Go.wp_at_zero Go.wp_at_succ

set_option maxRecDepth 100000 in
set_option maxHeartbeats 1000000 in
theorem latest_next (r : RecV) (ad : Addr) (w : World) (hna : r.na = some ad) (he : r.epoch ≤ 1000) :
    Calls Tryz.prog 223 #[.agg #[.string r.name, .int .i64 r.mode, .int .i64 r.t, .int .i64 r.l, .int .i64 r.size, .int .i64 r.epoch, .slice r.sa r.sn r.sc, .slice r.na r.nn r.nc]] w fun e w' =>
      e = .returned (.agg #[.string r.name, .int .i64 r.mode, .int .i64 r.t, .int .i64 r.l, .int .i64 r.size, .int .i64 ((r.epoch : Int) + 1)]) ∧ Below w.heap.size w w' := by
  obtain ⟨name, mode, t, l, size, epoch, sa, sn, sc, na, nn, nc⟩ := r
  simp only at hna he ⊢
  subst hna
  go_enter Tryz.func223, Tryz.ntmps223
  go_wp2
  refine bodyPost_ret (v := .agg #[.string name, .int .i64 mode, .int .i64 t, .int .i64 l, .int .i64 size, .int .i64 ((epoch : Int) + 1)]) ?_ rfl ⟨rfl, ?_⟩
  · simp [results, Tryz.results223, go_sem]
  · exact ((Below.refl _ _).alloc (Nat.le_refl _) _).alloc (by simp) _

theorem recs_set_whole (rs : List RecV) (p : Nat) (r' : RecV) (hp : p < rs.length) : recs (rs.set p r') = (recs rs).take (p * 8) ++ r'.cells ++ (recs rs).drop (p * 8 + 8) := by
  induction rs generalizing p with
  | nil => simp at hp
  | cons r rs ih =>
    cases p with
    | zero =>
      simp only [recs, List.flatMap_cons, List.set_cons_zero, Nat.zero_mul, Nat.zero_add, List.take_zero, List.nil_append]
      rw [List.drop_append_of_le_length (by simp [RecV.cells]), List.drop_of_length_le (by simp [RecV.cells]), List.nil_append]
    | succ p =>
      have := ih p (by simpa using hp)
      simp only [recs, List.flatMap_cons, List.set_cons_succ] at this ⊢
      have hl : r.cells.length = 8 := rfl
      rw [this, List.take_append, List.drop_append, List.take_of_length_le (l := r.cells) (by omega), List.drop_of_length_le (l := r.cells) (by omega), hl, show (p + 1) * 8 - 8 = p * 8 by omega, show (p + 1) * 8 + 8 - 8 = p * 8 + 8 by omega]
      simp [List.append_assoc]

theorem wp_store_rec {P : Program} {o : Oper} {a : Act} {w : World} {K : Act → World → Prop} {Q : Exit → Act → World → Prop} (ty : TypeId) (x y : Operand) (ho : o.op = .store ty x y)
    (g off : Nat) (cells : Array Value) (hx : a.eval x = .pointer (some ⟨g, off, none⟩)) (hy : a.eval y = .agg cells)
    (t : TypeId) (old : Array Value) (hg : w.heap[g]? = some (.cells old t (0, 0))) (hi : (P.info? ty).map (·.size) = some cells.size)
    (hold : off + cells.size ≤ old.size) (h1 : cells.all (·.oneCell') = true)
    (h : K (a.put o.dst undef) (w.setRow g (old.toList.take off ++ cells.toList ++ old.toList.drop (off + cells.size)).toArray)) : o.wp P a w K Q := by
  have hs := run_storeCells_at P g off t cells.toList 0 old w hg (by simpa using hold) (fun v hv => (Array.all_eq_true_iff_forall_mem.1 h1) v (by simpa using hv))
  simp only [Nat.add_zero, Array.length_toList] at hs
  have hv : (storeVar ty ⟨g, off, none⟩ (.agg cells)).run P w = .ok () (w.setRow g (old.toList.take off ++ cells.toList ++ old.toList.drop (off + cells.size)).toArray) := by
    cases hq : P.info? ty with
    | none => simp [hq] at hi
    | some i =>
      have hs' : cells.size = i.size := by simp [hq] at hi; omega
      simp [storeVar, sizeOf, typeInfo, hq, Value.cells, hs', hs]
  unfold Oper.wp execOp
  simp only [ho, hx, hy, Instr.storeAt, Instr.sureAddr, Sem.run_bind, Sem.run_pure, Result.andThen_ok, hv]
  exact h

/-- A record is put in another's place. -/
theorem owns_setRec {w : World} {base g n c : Nat} {rs : List RecV} (h : w.ownsRow base 152 8 (.slice (some ⟨g, 0, none⟩) n c) n (recs rs)) (p : Nat) (hp : p < rs.length) :
    ∃ old, w.heap[g]? = some (.cells old 152 (0, 0)) ∧ p * 8 + 8 ≤ old.size ∧ ∀ r' : RecV, (w.setRow g (old.toList.take (p * 8) ++ r'.cells ++ old.toList.drop (p * 8 + 8)).toArray).ownsRow base 152 8 (.slice (some ⟨g, 0, none⟩) n c) n (recs (rs.set p r')) := by
  obtain ⟨h1, h2 | ⟨g', cap, cur, hv, h3, h4, h5, h6, h7, h8⟩⟩ := h
  · simp at h2
  · cases hv
    rw [recs_length] at h1
    refine ⟨cur, h4, by omega, fun r' => ⟨by rw [recs_length, List.length_set]; exact h1, .inr ⟨g, c, _, rfl, h3, setRow_heap w g cur _ _ _ h4, h5, h6, ?_, ?_⟩⟩⟩
    · simp [RecV.cells]
      omega
    · rw [recs_set_whole rs p r' hp, ← h8]
      simp only [List.take_append, List.length_append, List.length_take, Array.length_toList]
      have e1 : min (p * 8) cur.size = p * 8 := by omega
      have e2 : r'.cells.length = 8 := rfl
      rw [e1, e2, List.take_of_length_le (by simp; omega), List.take_of_length_le (l := r'.cells) (by rw [e2]; omega), List.take_take, Nat.min_eq_left (by omega), List.drop_take]
/-- What the operations of 'the record is turned' find, one by one. -/
def turnR (S g p n c W : Nat) (ad : Addr) (q : RecV) : Nat → Value → World → Prop
  | 0, v, _ => v = .pointer (some ⟨S, 0, none⟩)
  | 1, v, _ => v = .pointer (some ⟨S, 0, none⟩)
  | 2, v, _ => v = .pointer (some ⟨S, 1, none⟩)
  | 3, v, _ => v = .slice (some ⟨g, 0, none⟩) n c
  | 4, v, _ => v = .int .i64 p
  | 5, v, _ => v = .agg #[.string q.name, .int .i64 q.mode, .int .i64 q.t, .int .i64 q.l, .int .i64 q.size, .int .i64 q.epoch, .slice q.sa q.sn q.sc, .slice (some ad) q.nn q.nc]
  | 6, v, _ => v = .agg #[.string q.name, .int .i64 q.mode, .int .i64 q.t, .int .i64 q.l, .int .i64 q.size, .int .i64 ((q.epoch : Int) + 1)]
  | 7, v, _ => v = .pointer (some ⟨W, 6 + 1, none⟩)
  | 8, v, _ => v = .slice (some ad) q.nn q.nc
  | 9, v, _ => v = .agg #[.string q.name, .int .i64 q.mode, .int .i64 q.t, .int .i64 q.l, .int .i64 q.size, .int .i64 ((q.epoch : Int) + 1), .slice (some ad) q.nn q.nc, .slice none 0 0]
  | 10, v, _ => v = .pointer (some ⟨g, p * 8, none⟩)
  | _, _, _ => True

set_option maxRecDepth 100000 in
set_option maxHeartbeats 2000000 in
theorem turn_yes (S : Nat) (down : Bool) (v : Value) (rs : List RecV) (r q : RecV) (ad : Addr) (w : World) (h : Sto w S down v rs) (hyes : hasName rs r.name = true) (hq : q = rs[posOf rs r.name]!) (hna : q.na = some ad) (he : q.epoch ≤ 1000) :
    Calls Tryz.prog 184 #[.pointer (some ⟨S, 0, none⟩), r.val] w fun e w' =>
      e = .returned (.tuple #[]) ∧ Sto w' S down v (rs.set (posOf rs r.name) q.turned) ∧ Spared (fun b => v.ownBlock = some b) w w' := by
  obtain ⟨a, c, hv, hst⟩ := h.st
  have hba := (Below.refl w.heap.size w).alloc (Nat.le_refl _) (.cells #[.string r.name, .int .i64 r.mode, .int .i64 r.t, .int .i64 r.l, .int .i64 r.size, .int .i64 r.epoch, .slice r.sa r.sn r.sc, .slice r.na r.nn r.nc] 152)
  have HP := hid (place_any S down a c rs r.name _ (hst.keeps hba (Nat.le_refl _)))
  rw [hyes] at HP
  have hlt := has_lt hyes
  obtain ⟨g, cap, hv2, _, hg⟩ := row_some h.row (by omega)
  have HS := hid h
  obtain ⟨p, hp⟩ : ∃ p, p = posOf rs r.name := ⟨_, rfl⟩
  rw [← hp] at HP hlt hq ⊢
  have hSlt := hst.lt
  rw [hv] at hv2
  obtain ⟨rfl, _, rfl⟩ := (by simpa using hv2 : a = some ⟨g, 0, none⟩ ∧ True ∧ c = cap)
  have HV := hid hv
  have HPP := hid hp
  have hle := h.le
  have HLN := hid (fun w' => latest_next q ad w' hna he)
  have HQ := hid hq
  have HNA := hid hna
  have HE := hid he
  clear h hyes hst hp hv hq he
  unfold RecV.val
  go_enter Tryz.func184, Tryz.ntmps184
  go_wp2_with fail
  refine HP.out.mono ?_
  rintro e w1 ⟨rfl, hb1⟩
  have hb01 : Below w.heap.size w w1 := hba.trans (hb1.mono (by simp))
  have hS1 := HS.out.keeps (Spared.ofBelow (own := fun _ => False) hb01 (Nat.le_refl _)) (fun h => h) (fun _ _ h => h)
  have HS1 := hid hS1
  have c1 : w1.cell? ⟨S, 1, none⟩ = some (.slice (some ⟨g, 0, none⟩) rs.length c) := by rw [cells_at hS1.hp, HV.out]; rfl
  have hrow := hS1.row
  rw [HV.out] at hrow
  obtain ⟨_, _, hv3, hrd⟩ := owns_rd_size hrow
  cases hv3
  obtain ⟨_, k0, k1, k2, k3, k4, k5, k6, k7⟩ := rec_at hrd p hlt
  rw [← HQ.out, Nat.zero_add] at k0 k1 k2 k3 k4 k5 k6 k7
  have hf : ∀ o, w1.frozen? ⟨g, o, none⟩ = false := fun o => hrow.frozenAt _
  have HROW := hid hrow
  have hlt' : (p : Int) < (rs.length : Int) := by omega
  have HLT := hid hlt
  have hz1 : w.heap.size < w1.heap.size := by have := hb1.size; simp at this; omega
  have hg1 : g < w1.heap.size := by omega
  have hS1lt : S < w1.heap.size := by omega
  generalize hn : rs.length = n at *
  have HN := hid hn
  rw [hna] at k7
  clear hS1 hrow hn hlt hrd hb1
  go_wp2_with fail
  obtain ⟨w2, hw2⟩ : ∃ w2, w2 = w1.alloc (.cells #[.string q.name, .int .i64 q.mode, .int .i64 q.t, .int .i64 q.l, .int .i64 q.size, .int .i64 q.epoch, .slice q.sa q.sn q.sc, .slice (some ad) q.nn q.nc] 152) := ⟨_, rfl⟩
  have hb12 : Below w1.heap.size w1 w2 := by rw [hw2]; exact (Below.refl _ _).alloc (Nat.le_refl _) _
  have hz2 : w2.heap.size = w1.heap.size + 1 := by rw [hw2]; simp
  have o0 : w2.cell? ⟨w1.heap.size, 0, none⟩ = some (.string q.name) := by rw [hw2]; simp
  have o1 : w2.cell? ⟨w1.heap.size, 1, none⟩ = some (.int .i64 q.mode) := by rw [hw2]; simp
  have o2 : w2.cell? ⟨w1.heap.size, 2, none⟩ = some (.int .i64 q.t) := by rw [hw2]; simp
  have o3 : w2.cell? ⟨w1.heap.size, 3, none⟩ = some (.int .i64 q.l) := by rw [hw2]; simp
  have o4 : w2.cell? ⟨w1.heap.size, 4, none⟩ = some (.int .i64 q.size) := by rw [hw2]; simp
  have o5 : w2.cell? ⟨w1.heap.size, 5, none⟩ = some (.int .i64 q.epoch) := by rw [hw2]; simp
  have o6 : w2.cell? ⟨w1.heap.size, 6, none⟩ = some (.slice q.sa q.sn q.sc) := by rw [hw2]; simp
  have o7 : w2.cell? ⟨w1.heap.size, 7, none⟩ = some (.slice (some ad) q.nn q.nc) := by rw [hw2]; simp
  have c1' : w2.cell? ⟨S, 1, none⟩ = some (.slice (some ⟨g, 0, none⟩) n c) := (hb12.cell hS1lt).trans c1
  rw [← hw2]
  have HE3 := hid hb12
  have HF := hid hf
  rw [hna] at HLN
  clear hw2 k0 k1 k2 k3 k4 k5 k6 k7 hf c1
  have HFX : ∀ a : Act, (∀ x ∈ [((0 : Nat), Value.pointer (some ⟨S, 0, none⟩)), (4, .int .i64 p), (6, .pointer (some ⟨w1.heap.size, 0, none⟩))], a.tmps.getD x.1 undef = x.2) → a.tmps[0]?.getD undef = .pointer (some ⟨S, 0, none⟩) ∧ a.tmps[4]?.getD undef = .int .i64 p ∧ a.tmps[6]?.getD undef = .pointer (some ⟨w1.heap.size, 0, none⟩) := by
    intro a h
    simpa using h
  have HCELL : ∀ w' : World, Below w2.heap.size { w2 with drawn := w2.drawn + 1 } w' → w'.cell? ⟨S, 1, none⟩ = some (.slice (some ⟨g, 0, none⟩) n c) ∧ w'.cell? ⟨w1.heap.size, 0, none⟩ = some (.string q.name) ∧ w'.cell? ⟨w1.heap.size, 1, none⟩ = some (.int .i64 q.mode) ∧ w'.cell? ⟨w1.heap.size, 2, none⟩ = some (.int .i64 q.t) ∧ w'.cell? ⟨w1.heap.size, 3, none⟩ = some (.int .i64 q.l) ∧ w'.cell? ⟨w1.heap.size, 4, none⟩ = some (.int .i64 q.size) ∧ w'.cell? ⟨w1.heap.size, 5, none⟩ = some (.int .i64 q.epoch) ∧ w'.cell? ⟨w1.heap.size, 6, none⟩ = some (.slice q.sa q.sn q.sc) ∧ w'.cell? ⟨w1.heap.size, 7, none⟩ = some (.slice (some ad) q.nn q.nc) := by
    intro w' hb
    have e : ∀ b o, b < w2.heap.size → w'.cell? ⟨b, o, none⟩ = w2.cell? ⟨b, o, none⟩ := fun b o h => hb.cell h
    exact ⟨(e _ _ (by omega)).trans c1', (e _ _ (by omega)).trans o0, (e _ _ (by omega)).trans o1, (e _ _ (by omega)).trans o2, (e _ _ (by omega)).trans o3, (e _ _ (by omega)).trans o4, (e _ _ (by omega)).trans o5, (e _ _ (by omega)).trans o6, (e _ _ (by omega)).trans o7⟩
  refine wp_region_store (by kernel_rfl) (fun i => i + 34) (turnR S g p n c w1.heap.size ad q) [(0, .pointer (some ⟨S, 0, none⟩)), (4, .int .i64 p), (6, .pointer (some ⟨w1.heap.size, 0, none⟩))] 45 11 [0, 4, 6] (by kernel_rfl) (by kernel_rfl) rfl rfl rfl ?_ ?_ ?_ ?_
  · simp
  · intro j v w w' hr _
    unfold turnR at hr ⊢
    split at hr <;> exact hr
  · refine ⟨?_, ?_, ?_, ?_, ?_, ?_, ?_, ?_, ?_, ?_, ?_, trivial⟩
    · intro a w' hb hf hd
      obtain ⟨f0, f4, f6⟩ := HFX a hf
      obtain ⟨c1, k0, k1, k2, k3, k4, k5, k6, k7⟩ := HCELL w' hb
      simp [turnR] at hd
      exact .inl ⟨.pointer (some ⟨S, 0, none⟩), w', by go_simp, Below.refl _ _, rfl⟩
    · intro a w' hb hf hd
      obtain ⟨f0, f4, f6⟩ := HFX a hf
      obtain ⟨c1, k0, k1, k2, k3, k4, k5, k6, k7⟩ := HCELL w' hb
      simp [turnR] at hd
      exact .inl ⟨.pointer (some ⟨S, 0, none⟩), w', by go_simp, Below.refl _ _, rfl⟩
    · intro a w' hb hf hd
      obtain ⟨f0, f4, f6⟩ := HFX a hf
      obtain ⟨c1, k0, k1, k2, k3, k4, k5, k6, k7⟩ := HCELL w' hb
      simp [turnR] at hd
      exact .inl ⟨.pointer (some ⟨S, 1, none⟩), w', by go_simp, Below.refl _ _, rfl⟩
    · intro a w' hb hf hd
      obtain ⟨f0, f4, f6⟩ := HFX a hf
      obtain ⟨c1, k0, k1, k2, k3, k4, k5, k6, k7⟩ := HCELL w' hb
      simp [turnR] at hd
      exact .inl ⟨.slice (some ⟨g, 0, none⟩) n c, w', by go_simp, Below.refl _ _, rfl⟩
    · intro a w' hb hf hd
      obtain ⟨f0, f4, f6⟩ := HFX a hf
      obtain ⟨c1, k0, k1, k2, k3, k4, k5, k6, k7⟩ := HCELL w' hb
      simp [turnR] at hd
      exact .inl ⟨.int .i64 p, w', by go_simp, Below.refl _ _, rfl⟩
    · intro a w' hb hf hd
      obtain ⟨f0, f4, f6⟩ := HFX a hf
      obtain ⟨c1, k0, k1, k2, k3, k4, k5, k6, k7⟩ := HCELL w' hb
      simp [turnR] at hd
      exact .inl ⟨.agg #[.string q.name, .int .i64 q.mode, .int .i64 q.t, .int .i64 q.l, .int .i64 q.size, .int .i64 q.epoch, .slice q.sa q.sn q.sc, .slice (some ad) q.nn q.nc], w', by go_simp, Below.refl _ _, rfl⟩
    · intro a w' hb hf hd
      obtain ⟨f0, f4, f6⟩ := HFX a hf
      obtain ⟨c1, k0, k1, k2, k3, k4, k5, k6, k7⟩ := HCELL w' hb
      simp [turnR] at hd
      refine .inr ⟨223, #[.agg #[.string q.name, .int .i64 q.mode, .int .i64 q.t, .int .i64 q.l, .int .i64 q.size, .int .i64 q.epoch, .slice q.sa q.sn q.sc, .slice (some ad) q.nn q.nc]], by go_simp, (HLN.out w').mono ?_⟩
      rintro e w'' ⟨rfl, hb2⟩
      exact ⟨_, rfl, hb2, rfl⟩
    · intro a w' hb hf hd
      obtain ⟨f0, f4, f6⟩ := HFX a hf
      obtain ⟨c1, k0, k1, k2, k3, k4, k5, k6, k7⟩ := HCELL w' hb
      simp [turnR] at hd
      exact .inl ⟨.pointer (some ⟨w1.heap.size, 7, none⟩), w', by go_simp, Below.refl _ _, rfl⟩
    · intro a w' hb hf hd
      obtain ⟨f0, f4, f6⟩ := HFX a hf
      obtain ⟨c1, k0, k1, k2, k3, k4, k5, k6, k7⟩ := HCELL w' hb
      simp [turnR] at hd
      exact .inl ⟨.slice (some ad) q.nn q.nc, w', by go_simp, Below.refl _ _, rfl⟩
    · intro a w' hb hf hd
      obtain ⟨f0, f4, f6⟩ := HFX a hf
      obtain ⟨c1, k0, k1, k2, k3, k4, k5, k6, k7⟩ := HCELL w' hb
      simp [turnR] at hd
      exact .inl ⟨.agg #[.string q.name, .int .i64 q.mode, .int .i64 q.t, .int .i64 q.l, .int .i64 q.size, .int .i64 ((q.epoch : Int) + 1), .slice (some ad) q.nn q.nc, .slice none 0 0], w', by go_simp, Below.refl _ _, rfl⟩
    · intro a w' hb hf hd
      obtain ⟨f0, f4, f6⟩ := HFX a hf
      obtain ⟨c1, k0, k1, k2, k3, k4, k5, k6, k7⟩ := HCELL w' hb
      simp [turnR] at hd
      exact .inl ⟨.pointer (some ⟨g, p * 8, none⟩), w', by go_simp, Below.refl _ _, rfl⟩
  · intro a w' ol hol hdf hsz hb hf hr
    cases hol
    have r9 := hr 9 (by decide)
    have r10 := hr 10 (by decide)
    simp [turnR] at r9 r10
    have hgne : g < w2.heap.size := by omega
    have hrow' : w'.ownsRow 0 152 8 (.slice (some ⟨g, 0, none⟩) n c) n (recs rs) := owns_spared HROW.out (Spared.ofBelow (own := fun _ => False) (HE3.out.drew.trans (hb.mono (by show w1.heap.size ≤ w2.heap.size; omega))) (Nat.le_refl _)) (fun _ _ h => h)
    obtain ⟨old, ho1, ho2, ho3⟩ := owns_setRec hrow' p (by rw [HN.out]; exact HLT.out)
    refine wp_store_rec 152 (.tmp 44) (.tmp 43) rfl g (p * 8) #[.string q.name, .int .i64 q.mode, .int .i64 q.t, .int .i64 q.l, .int .i64 q.size, .int .i64 ((q.epoch : Int) + 1), .slice (some ad) q.nn q.nc, .slice none 0 0] (by simp [Act.eval]; exact r10) (by simp [Act.eval]; exact r9) _ old ho1 Tryz.cellsRec ho2 (by simp [Value.oneCell']) ?_
    have hsto := ho3 q.turned
    have ec : q.turned.cells = (#[Value.string q.name, .int .i64 q.mode, .int .i64 q.t, .int .i64 q.l, .int .i64 q.size, .int .i64 ((q.epoch : Int) + 1), .slice (some ad) q.nn q.nc, .slice none 0 0] : Array Value).toList := by
      simp [RecV.turned, RecV.cells, HNA.out]
    rw [ec] at hsto
    have hbx : Below w.heap.size w w' := hb01.trans ((HE3.out.mono hb01.size).drew.trans (hb.mono (by show w.heap.size ≤ w2.heap.size; omega)))
    have hgS : g ≠ S := HS1.out.ne g (by rw [HV.out]; rfl)
    refine bodyPost_end (by simp [results, Tryz.results184, go_sem]) hdf ⟨rfl, ⟨?_, ?_, ?_, ?_⟩, ?_⟩
    · rw [setRow_other _ _ _ _ (Ne.symm hgS), hbx.block S hSlt]; exact HS.out.hp
    · rw [List.length_set, HN.out, HV.out]; exact hsto
    · exact HS1.out.so.set p _ (by rw [HN.out]; exact HLT.out) (by rw [HQ.out]; rfl)
    · rw [List.length_set]; exact HS1.out.le
    · have hx : Spared (fun b => v.ownBlock = some b) w w' := Spared.ofBelow hbx (Nat.le_refl _)
      exact hx.trans ⟨rfl, rfl, rfl, by simp, fun k _ ho => setRow_other _ _ _ _ fun e => ho (by rw [HV.out, e]; rfl)⟩
end Go.Proofs.YtcegdgmbponapaaGreatDoor

namespace Go.Proofs.YtcegdgmbponapaaGreatDoor
open Go.RowKit
attribute [local go_sem ↓] Go.wp_at_zero Go.wp_at_succ

theorem Tryz.infoR : (Tryz.prog.info? 152).map (fun i => (i.zero, i.size, i.bytes)) = some (some (.agg #[.string ByteArray.empty, .int .i64 0, .int .i64 0, .int .i64 0, .int .i64 0, .int .i64 0, .slice none 0 0, .slice none 0 0]), 8, 104) := by kernel_rfl

theorem recs_one (r : RecV) : recs [r] = r.cells := by simp [recs]
theorem sorted_one (r : RecV) : Sorted [r] := fun i j h1 h2 => by simp at h2; omega
theorem sorted_nil : Sorted [] := fun i j _ h2 => by simp at h2

set_option maxRecDepth 100000 in
set_option maxHeartbeats 1000000 in
theorem insert_nil (b : Nat) (r : RecV) (w : World) (h : ∀ j v, r.cells[j]? = some v → w.cell? ⟨b, j, none⟩ = some v) :
    Calls Tryz.prog 197 #[.slice none 0 0, .int .i64 0, .slice (some ⟨b, 0, none⟩) 1 1] w fun e w' =>
      ∃ v, e = .returned v ∧ w'.ownsRow w.heap.size 152 8 v 1 (recs [r]) ∧ Below w.heap.size w w' := by
  obtain ⟨i0, hi, hz0, hz1, hz2⟩ := info_parts Tryz.infoR
  have H := hid h
  clear h
  go_enter Tryz.func197, Tryz.ntmps197
  go_wp2_with (first | (at_builtin; refine wpList_append_own _ rfl (.tmp 23) (.tmp 24) 145 rfl w.heap.size 152 i0 _ 8 104 Tryz.underlying145 hi hz0 hz1 hz2 rfl (by decide) (.slice none 0 0) 0 [] rfl ⟨rfl, .inl ⟨rfl, rfl⟩⟩ ⟨b, 0, none⟩ 1 1 r.cells rfl rfl (fun j u hj => by rw [add_at, Nat.zero_add]; exact H.out j u hj) (fun u hu => by simp [RecV.cells] at hu; rcases hu with rfl | rfl | rfl | rfl | rfl | rfl | rfl | rfl <;> rfl) (by unfold maxLen; omega) (by omega) (Nat.le_refl _) ?_; intro v2 w2 hown2 hgrow2 _; have HO2 := hid hown2; have hb2 := (Below.refl w.heap.size w).grown hgrow2 (Nat.le_refl _) nofun; clear hown2) | fail)
  go_ret
  refine ⟨_, rfl, ?_, hb2⟩
  rw [recs_one]
  simpa using HO2.out

theorem owns_below_size {B : Nat} {w w' : World} {base n size : Nat} {e : TypeId} {L : List Value} {v : Value} (h : w.ownsRow base e size v n L) (hb : Below B w w') (hB : w.heap.size ≤ B) : w'.ownsRow base e size v n L :=
  owns_spared h (Spared.ofBelow (own := fun _ => False) hb hB) (fun _ _ h => h)

/-- What the operations of 'the record is laid at the store' find, one by one. -/
def addR (S W : Nat) (r : RecV) : Nat → Value → World → Prop
  | 0, v, _ => v = .pointer (some ⟨S, 0, none⟩)
  | 1, v, _ => v = .pointer (some ⟨S, 0, none⟩)
  | 2, v, _ => v = .pointer (some ⟨S, 0, none⟩)
  | 3, v, _ => v = .pointer (some ⟨S, 1, none⟩)
  | 4, v, _ => v = .slice none 0 0
  | 5, v, _ => v = .int .i64 0
  | 6, v, _ => v = .agg #[.string r.name, .int .i64 r.mode, .int .i64 r.t, .int .i64 r.l, .int .i64 r.size, .int .i64 r.epoch, .slice r.sa r.sn r.sc, .slice r.na r.nn r.nc]
  | 7, v, w => ∃ b, v = .slice (some ⟨b, 0, none⟩) 1 1 ∧ b < w.heap.size ∧ ∀ j u, r.cells[j]? = some u → w.cell? ⟨b, j, none⟩ = some u
  | 8, v, w => w.ownsRow W 152 8 v 1 (recs [r])
  | 9, v, _ => v = .pointer (some ⟨S, 0, none⟩)
  | 10, v, _ => v = .pointer (some ⟨S, 1, none⟩)
  | _, _, _ => True

theorem addR_keeps (S W : Nat) (r : RecV) (j : Nat) (v : Value) (w w' : World) (h : addR S W r j v w) (hb : Below w.heap.size w w') : addR S W r j v w' := by
  unfold addR at h ⊢
  split at h
  · exact h
  · exact h
  · exact h
  · exact h
  · exact h
  · exact h
  · exact h
  · obtain ⟨b, h1, h2, h3⟩ := h
    exact ⟨b, h1, Nat.lt_of_lt_of_le h2 hb.size, fun j u hj => (hb.cell h2).trans (h3 j u hj)⟩
  · exact owns_below_size h hb (Nat.le_refl _)
  · exact h
  · exact h
  · trivial

set_option maxRecDepth 100000 in
set_option maxHeartbeats 1000000 in
theorem add_first (S : Nat) (down : Bool) (r : RecV) (w : World) (h : Sto w S down (.slice none 0 0) []) :
    Calls Tryz.prog 155 #[.pointer (some ⟨S, 0, none⟩), r.val] w fun e w' =>
      e = .returned (.tuple #[]) ∧ ∃ v', Sto w' S down v' [r] ∧ (∀ b, v'.ownBlock = some b → w.heap.size ≤ b) ∧ Spared (fun b => b = S) w w' := by
  obtain ⟨a, c, hv, hst⟩ := h.st
  have hba := (Below.refl w.heap.size w).alloc (Nat.le_refl _) (.cells #[.string r.name, .int .i64 r.mode, .int .i64 r.t, .int .i64 r.l, .int .i64 r.size, .int .i64 r.epoch, .slice r.sa r.sn r.sc, .slice r.na r.nn r.nc] 152)
  have HP := hid (place_any S down a c [] r.name _ (hst.keeps hba (Nat.le_refl _)))
  rw [show posOf [] r.name = 0 from rfl, show hasName [] r.name = false by simp [hasName]] at HP
  have hSlt := hst.lt
  have HS := hid h
  clear h hst hv
  unfold RecV.val
  go_enter Tryz.func155, Tryz.ntmps155
  go_wp2_with fail
  refine HP.out.mono ?_
  rintro e w1 ⟨rfl, hb1⟩
  have hb01 : Below w.heap.size w w1 := hba.trans (hb1.mono (by simp))
  have hz1 : w.heap.size < w1.heap.size := by have := hb1.size; simp at this; omega
  have hc1 : ∀ o, w1.cell? ⟨w.heap.size, o, none⟩ = _ := fun o => (bcell hb1).1 w.heap.size o (by simp)
  go_wp2_with fail
  have d1 : w1.cell? ⟨S, 1, none⟩ = some (.slice none 0 0) := by rw [hb01.cell (p := ⟨S, 1, none⟩) hSlt, cells_at HS.out.hp]; rfl
  have HFX : ∀ a : Act, (∀ x ∈ [((0 : Nat), Value.pointer (some ⟨S, 0, none⟩)), (3, .pointer (some ⟨w.heap.size, 0, none⟩)), (4, .int .i64 0)], a.tmps.getD x.1 undef = x.2) → a.tmps[0]?.getD undef = .pointer (some ⟨S, 0, none⟩) ∧ a.tmps[3]?.getD undef = .pointer (some ⟨w.heap.size, 0, none⟩) ∧ a.tmps[4]?.getD undef = .int .i64 0 := by
    intro a h
    simpa using h
  have HCELL : ∀ w' : World, Below w1.heap.size { w1 with drawn := w1.drawn + 1 } w' → w'.cell? ⟨S, 1, none⟩ = some (.slice none 0 0) ∧ w'.cell? ⟨w.heap.size, 0, none⟩ = some (.string r.name) ∧ w'.cell? ⟨w.heap.size, 1, none⟩ = some (.int .i64 r.mode) ∧ w'.cell? ⟨w.heap.size, 2, none⟩ = some (.int .i64 r.t) ∧ w'.cell? ⟨w.heap.size, 3, none⟩ = some (.int .i64 r.l) ∧ w'.cell? ⟨w.heap.size, 4, none⟩ = some (.int .i64 r.size) ∧ w'.cell? ⟨w.heap.size, 5, none⟩ = some (.int .i64 r.epoch) ∧ w'.cell? ⟨w.heap.size, 6, none⟩ = some (.slice r.sa r.sn r.sc) ∧ w'.cell? ⟨w.heap.size, 7, none⟩ = some (.slice r.na r.nn r.nc) := by
    intro w' hb
    have e : ∀ b o, b < w1.heap.size → w'.cell? ⟨b, o, none⟩ = w1.cell? ⟨b, o, none⟩ := fun b o h => hb.cell h
    exact ⟨(e _ _ (by omega)).trans d1, by rw [e _ _ hz1, hc1]; simp, by rw [e _ _ hz1, hc1]; simp, by rw [e _ _ hz1, hc1]; simp, by rw [e _ _ hz1, hc1]; simp, by rw [e _ _ hz1, hc1]; simp, by rw [e _ _ hz1, hc1]; simp, by rw [e _ _ hz1, hc1]; simp, by rw [e _ _ hz1, hc1]; simp⟩
  refine wp_region_store (by kernel_rfl) (fun i => i + 14) (addR S w.heap.size r) [(0, .pointer (some ⟨S, 0, none⟩)), (3, .pointer (some ⟨w.heap.size, 0, none⟩)), (4, .int .i64 0)] 25 11 [0, 3, 4] (by kernel_rfl) (by kernel_rfl) rfl rfl rfl ?_ (addR_keeps S w.heap.size r) ?_ ?_
  · simp
  · refine ⟨?_, ?_, ?_, ?_, ?_, ?_, ?_, ?_, ?_, ?_, ?_, trivial⟩
    · intro a w' hb hf hd
      obtain ⟨f0, f3, f4⟩ := HFX a hf
      obtain ⟨c1, k0, k1, k2, k3, k4, k5, k6, k7⟩ := HCELL w' hb
      simp [addR] at hd
      exact .inl ⟨.pointer (some ⟨S, 0, none⟩), w', by go_simp, Below.refl _ _, rfl⟩
    · intro a w' hb hf hd
      obtain ⟨f0, f3, f4⟩ := HFX a hf
      obtain ⟨c1, k0, k1, k2, k3, k4, k5, k6, k7⟩ := HCELL w' hb
      simp [addR] at hd
      exact .inl ⟨.pointer (some ⟨S, 0, none⟩), w', by go_simp, Below.refl _ _, rfl⟩
    · intro a w' hb hf hd
      obtain ⟨f0, f3, f4⟩ := HFX a hf
      obtain ⟨c1, k0, k1, k2, k3, k4, k5, k6, k7⟩ := HCELL w' hb
      simp [addR] at hd
      exact .inl ⟨.pointer (some ⟨S, 0, none⟩), w', by go_simp, Below.refl _ _, rfl⟩
    · intro a w' hb hf hd
      obtain ⟨f0, f3, f4⟩ := HFX a hf
      obtain ⟨c1, k0, k1, k2, k3, k4, k5, k6, k7⟩ := HCELL w' hb
      simp [addR] at hd
      exact .inl ⟨.pointer (some ⟨S, 1, none⟩), w', by go_simp, Below.refl _ _, rfl⟩
    · intro a w' hb hf hd
      obtain ⟨f0, f3, f4⟩ := HFX a hf
      obtain ⟨c1, k0, k1, k2, k3, k4, k5, k6, k7⟩ := HCELL w' hb
      simp [addR] at hd
      exact .inl ⟨.slice none 0 0, w', by go_simp, Below.refl _ _, rfl⟩
    · intro a w' hb hf hd
      obtain ⟨f0, f3, f4⟩ := HFX a hf
      obtain ⟨c1, k0, k1, k2, k3, k4, k5, k6, k7⟩ := HCELL w' hb
      simp [addR] at hd
      exact .inl ⟨.int .i64 0, w', by go_simp, Below.refl _ _, rfl⟩
    · intro a w' hb hf hd
      obtain ⟨f0, f3, f4⟩ := HFX a hf
      obtain ⟨c1, k0, k1, k2, k3, k4, k5, k6, k7⟩ := HCELL w' hb
      simp [addR] at hd
      exact .inl ⟨.agg #[.string r.name, .int .i64 r.mode, .int .i64 r.t, .int .i64 r.l, .int .i64 r.size, .int .i64 r.epoch, .slice r.sa r.sn r.sc, .slice r.na r.nn r.nc], w', by go_simp, Below.refl _ _, rfl⟩
    · intro a w' hb hf hd
      obtain ⟨f0, f3, f4⟩ := HFX a hf
      obtain ⟨c1, k0, k1, k2, k3, k4, k5, k6, k7⟩ := HCELL w' hb
      simp [addR] at hd
      refine .inl ⟨.slice (some ⟨w'.heap.size, 0, none⟩) 1 1, w'.alloc (.cells #[.string r.name, .int .i64 r.mode, .int .i64 r.t, .int .i64 r.l, .int .i64 r.size, .int .i64 r.epoch, .slice r.sa r.sn r.sc, .slice r.na r.nn r.nc] 152), by go_simp, (Below.refl _ _).alloc (Nat.le_refl _) _, w'.heap.size, rfl, by simp, fun j u hj => ?_⟩
      rw [World.cell?_alloc_at _ _ _ _ rfl]
      simpa [RecV.cells] using hj
    · intro a w' hb hf hd
      obtain ⟨f0, f3, f4⟩ := HFX a hf
      obtain ⟨c1, k0, k1, k2, k3, k4, k5, k6, k7⟩ := HCELL w' hb
      simp [addR] at hd
      obtain ⟨h4, h5, b, h7, _, h7c⟩ := hd
      refine .inr ⟨197, #[.slice none 0 0, .int .i64 0, .slice (some ⟨b, 0, none⟩) 1 1], by go_simp, (insert_nil b r w' h7c).mono ?_⟩
      rintro e w'' ⟨v, rfl, hown, hb2⟩
      exact ⟨_, rfl, hb2, World.ownsRow.mono hown (by have := hb.size; simp at this; omega)⟩
    · intro a w' hb hf hd
      obtain ⟨f0, f3, f4⟩ := HFX a hf
      obtain ⟨c1, k0, k1, k2, k3, k4, k5, k6, k7⟩ := HCELL w' hb
      simp [addR] at hd
      exact .inl ⟨.pointer (some ⟨S, 0, none⟩), w', by go_simp, Below.refl _ _, rfl⟩
    · intro a w' hb hf hd
      obtain ⟨f0, f3, f4⟩ := HFX a hf
      obtain ⟨c1, k0, k1, k2, k3, k4, k5, k6, k7⟩ := HCELL w' hb
      simp [addR] at hd
      exact .inl ⟨.pointer (some ⟨S, 1, none⟩), w', by go_simp, Below.refl _ _, rfl⟩
  · intro a w' ol hol hdf hsz hb hf hr
    cases hol
    have r8 := hr 8 (by decide)
    have r10 := hr 10 (by decide)
    simp [addR] at r8 r10
    obtain ⟨g, cap, hv8, hg1, hg2⟩ := row_some r8 (by decide)
    have hbx : Below w.heap.size w w' := hb01.drew.trans (hb.mono (by show w.heap.size ≤ w1.heap.size; omega))
    have hpS : w'.heap[S]? = some (.cells #[.bool down, .slice none 0 0] 178) := by rw [hbx.block S hSlt]; exact HS.out.hp
    have c1 : w'.cell? ⟨S, 1, none⟩ = some (.slice none 0 0) := by rw [cells_at hpS]; rfl
    have f1 : w'.frozen? ⟨S, 1, none⟩ = false := cells_fz hpS
    refine wp_store_one 145 (.tmp 24) (.tmp 22) rfl S 1 (.slice (some ⟨g, 0, none⟩) 1 cap) (by simp [Act.eval]; exact r10) (by simp [Act.eval]; exact hv8) rfl rfl (by kernel_rfl) _ c1 f1 ?_
    rw [hv8] at r8
    refine bodyPost_end (by simp [results, Tryz.results155, go_sem]) hdf ⟨rfl, _, ⟨cells_set _ hpS, ?_, sorted_one r, by simp⟩, ?_, ?_⟩
    · exact owns_spared (World.ownsRow.mono r8 (Nat.zero_le _)) ((Spared.refl (fun b => b = S) w').setCell (p := ⟨S, 1, none⟩) rfl _) (fun b hb => by cases hb; show ¬ g = S; omega)
    · intro b hb; cases hb; exact hg1
    · exact (Spared.ofBelow (own := fun b => b = S) hbx (Nat.le_refl _)).setCell (p := ⟨S, 1, none⟩) rfl _
end Go.Proofs.YtcegdgmbponapaaGreatDoor
