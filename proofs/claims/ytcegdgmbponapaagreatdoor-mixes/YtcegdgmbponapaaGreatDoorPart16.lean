/-
  What is done to a store: Lay.
  A region that draws its order and ends in one operation that writes: all others come up ahead of it.
-/
import Derived.Test.YtcegdgmbponapaaGreatDoorPart15
import Derived.Test.YtcegdgmbponapaaGreatDoorPart13
namespace Go.Proofs.YtcegdgmbponapaaGreatDoor
open Go.RowKit
attribute [local go_sem ↓] Go.wp_at_zero Go.wp_at_succ

theorem row_some {w : World} {base n size : Nat} {e : TypeId} {L : List Value} {v : Value} (h : w.ownsRow base e size v n L) (hn : 0 < n) : ∃ g cap, v = .slice (some ⟨g, 0, none⟩) n cap ∧ base ≤ g ∧ g < w.heap.size := by
  rcases h with ⟨h1, ⟨h2, h3⟩ | ⟨g, cap, cur, rfl, h3, h4, _⟩⟩
  · omega
  · exact ⟨g, cap, rfl, h3, cells_lt h4⟩

set_option maxRecDepth 100000 in
set_option maxHeartbeats 1000000 in
theorem lay_yes (S : Nat) (down : Bool) (v : Value) (rs : List RecV) (r : RecV) (w : World) (h : Sto w S down v rs) (hyes : hasName rs r.name = true) :
    Calls Tryz.prog 183 #[.pointer (some ⟨S, 0, none⟩), r.val] w fun e w' =>
      e = .returned (.tuple #[]) ∧ Sto w' S down v (rs.set (posOf rs r.name) ((rs[posOf rs r.name]!).laid r)) ∧ Spared (fun b => v.ownBlock = some b) w w' := by
  obtain ⟨a, c, hv, hst⟩ := h.st
  have hba := (Below.refl w.heap.size w).alloc (Nat.le_refl _) (.cells #[.string r.name, .int .i64 r.mode, .int .i64 r.t, .int .i64 r.l, .int .i64 r.size, .int .i64 r.epoch, .slice r.sa r.sn r.sc, .slice r.na r.nn r.nc] 152)
  have HP := hid (place_any S down a c rs r.name _ (hst.keeps hba (Nat.le_refl _)))
  rw [hyes] at HP
  have hlt := has_lt hyes
  obtain ⟨g, cap, hv2, _, hg⟩ := row_some h.row (by omega)
  have HS := hid h
  obtain ⟨p, hp⟩ : ∃ p, p = posOf rs r.name := ⟨_, rfl⟩
  rw [← hp] at HP hlt ⊢
  have hSlt := hst.lt
  rw [hv] at hv2
  obtain ⟨rfl, _, rfl⟩ := (by simpa using hv2 : a = some ⟨g, 0, none⟩ ∧ True ∧ c = cap)
  have HV := hid hv
  have HPP := hid hp
  have hle := h.le
  clear h hyes hst hp hv
  unfold RecV.val
  go_enter Tryz.func183, Tryz.ntmps183
  go_wp2_with fail
  refine HP.out.mono ?_
  rintro e w1 ⟨rfl, hb1⟩
  have hb01 : Below w.heap.size w w1 := hba.trans (hb1.mono (by simp))
  have hS1 := HS.out.keeps (Spared.ofBelow (own := fun _ => False) hb01 (Nat.le_refl _)) (fun h => h) (fun _ _ h => h)
  have HS1 := hid hS1
  have c1 : w1.cell? ⟨S, 1, none⟩ = some (.slice (some ⟨g, 0, none⟩) rs.length c) := by rw [cells_at hS1.hp, HV.out]; rfl
  have hrow := hS1.row
  rw [HV.out] at hrow
  have k7 : ∃ x, w1.cell? ⟨g, p * 8 + 7, none⟩ = some x := by
    rw [hrow.cellAt _ (by omega)]
    exact ⟨_, List.getElem?_eq_getElem (by rw [recs_length]; omega)⟩
  obtain ⟨x7, k7⟩ := k7
  have f7 : w1.frozen? ⟨g, p * 8 + 7, none⟩ = false := hrow.frozenAt _
  have HROW := hid hrow
  have hc1 : ∀ o, w1.cell? ⟨w.heap.size, o, none⟩ = _ := fun o => (bcell hb1).1 w.heap.size o (by simp)
  have hlt' : (p : Int) < (rs.length : Int) := by omega
  have HLT := hid hlt
  generalize hn : rs.length = n at *
  have HN := hid hn
  clear hS1 hrow hn hlt
  go_wp2_with fail
  go_region
  have hne : S ≠ g := fun e => HS1.out.ne g (by rw [HV.out]; rfl) e.symm
  refine bodyPost_end (by simp [results, Tryz.results183, go_sem]) rfl ⟨rfl, Sto.drew ⟨?_, ?_, ?_, ?_⟩, ?_⟩
  · rw [Below.heap_setCell _ _ _ _ hne]; exact HS1.out.hp
  · rw [List.length_set, HN.out, HV.out, ← recs_set_at rs p 7 (.slice r.sa r.sn r.sc) _ (by rw [HN.out]; exact HLT.out) (by decide) rfl]
    exact (HROW.out.stored _ _).1
  · exact HS1.out.so.set p _ (by rw [HN.out]; exact HLT.out) rfl
  · rw [List.length_set]; exact HS1.out.le
  · exact ((Spared.ofBelow hb01 (Nat.le_refl _)).setCell (by show v.ownBlock = some g; rw [HV.out]; rfl) _).drew
end Go.Proofs.YtcegdgmbponapaaGreatDoor

namespace Go.Proofs.YtcegdgmbponapaaGreatDoor
open Go.RowKit

section
variable {P : Program} {ops : Array Oper} {Q : Exit → Act → World → Prop} {md : Region.Mode}

theorem wpAny_inv' (I : Array Bool → Act → World → Prop) (hacyc : ∀ (i : Nat) (o : Oper) (e : Edge), ops[i]? = some o → e ∈ o.after → e.on < i)
    (hstep : ∀ (listed : Array Bool) (a : Act) (w : World) (i : Nat) (o : Oper), I listed a w → listed.size = ops.size → ops[i]? = some o → listed.getD i false = false → (∀ e ∈ o.after, Region.binds md e = true → listed.getD e.on false = true) → wpOp P ops Q i (fun a' w' => I (listed.setIfInBounds i true) a' w') a w)
    (hend : ∀ listed a w, I listed a w → (∀ i, i < ops.size → listed.getD i false = true) → Q .normal a w) :
    ∀ (fuel : Nat) (listed : Array Bool) (a : Act) (w : World), listed.size = ops.size → todo ops listed ≤ fuel → I listed a w → wpAny P md ops Q fuel listed a w := by
  intro fuel
  induction fuel with
  | zero =>
    intro listed a w hs hf hI
    have hall : ∀ i, i < ops.size → listed.getD i false = true := by
      intro i hi
      have h0 : todo ops listed = 0 := by omega
      unfold todo at h0
      rw [List.countP_eq_zero] at h0
      have := h0 i (List.mem_range.2 hi)
      rw [← getD_flip (by omega)]
      simpa using this
    refine ⟨?_, hend _ _ _ hI hall⟩
    cases hr : Region.ready md ops listed with
    | nil => rfl
    | cons j r =>
      have hj : j ∈ Region.ready md ops listed := by rw [hr]; exact List.mem_cons_self ..
      obtain ⟨h0, o, ho, _⟩ := mem_ready.1 hj
      have hjs : j < ops.size := (Array.getElem?_eq_some_iff.1 ho).1
      rw [getD_flip (by omega), hall j hjs] at h0
      cases h0
  | succ fuel ih =>
    intro listed a w hs hf hI
    refine ⟨fun hr => hend _ _ _ hI (all_listed hacyc hs hr), fun i hi => ?_⟩
    obtain ⟨h0, o, ho, hall⟩ := mem_ready.1 hi
    have his : i < ops.size := (Array.getElem?_eq_some_iff.1 ho).1
    refine wpOp_mono (fun a' w' h' => ih _ a' w' (by simpa using hs) ?_ h') (hstep listed a w i o hI hs ho (by rw [← getD_flip (by omega)]; exact h0) hall)
    have : todo ops (listed.setIfInBounds i true) < todo ops listed := by
      unfold todo
      refine countP_less _ _ _ (fun x _ hx => ?_) i (List.mem_range.2 his) (by rw [h0]; rfl) (by simp [show i < listed.size by omega])
      by_cases hxi : i = x
      · subst hxi; rw [h0]; rfl
      · rw [getD_set_ne true hxi] at hx; exact hx
    omega

/-- What the operations ahead of the last one must look like. -/
def lastOk (ops : Array Oper) (slot : Nat → Nat) (N m : Nat) (keys : List Nat) : Bool :=
  ops.size == m + 1 && (List.range m).all fun i => match ops[i]? with
    | none => false
    | some o => o.dst == some (slot i) && decide (slot i < N) && o.guard.isNone && keys.all (fun k => k != slot i) && o.after.all (fun e => decide (e.on < i) && Region.binds .any e) && ((List.range m).all fun j => slot i != slot j || i == j) &&
      (List.range (m + 1)).any fun k => decide (i < k) && (match ops[k]? with | none => false | some o' => o'.after.any fun e => e.on == i)

def lastEdges (ops : Array Oper) (m : Nat) : Bool := match ops[m]? with
  | none => false
  | some o => o.guard.isNone && o.after.all fun e => decide (e.on < m) && Region.binds .any e

theorem wp_region_store {id : Nat} {a : Act} {w : World} (hm : P.follows .mixedOrders = true) (slot : Nat → Nat) (R : Nat → Value → World → Prop) (fixed : List (Nat × Value)) (N m : Nat) (keys : List Nat)
    (hok : lastOk ops slot N m keys = true) (hle : lastEdges ops m = true) (hk : fixed.map Prod.fst = keys)
    (ha : a.defers = []) (hN : a.tmps.size = N) (hfx : ∀ p ∈ fixed, a.tmps.getD p.1 undef = p.2)
    (hper : ∀ j v w w', R j v w → Below w.heap.size w w' → R j v w')
    (hstep : StepAll P slot R fixed { w with drawn := w.drawn + 1 } 0 (ops.toList.take m))
    (hlast : ∀ a w' o, ops[m]? = some o → a.defers = [] → a.tmps.size = N → Below w.heap.size { w with drawn := w.drawn + 1 } w' → (∀ p ∈ fixed, a.tmps.getD p.1 undef = p.2) → (∀ j, j < m → R j (a.tmps.getD (slot j) undef) w') → o.wp P a w' (fun a' w'' => Q .normal a' w'') Q) :
    (Code.region id ops true).wp P Q a w := by
  unfold lastOk at hok
  rw [Bool.and_eq_true] at hok
  obtain ⟨hsz, hok⟩ := hok
  have hsz : ops.size = m + 1 := by simpa using hsz
  rw [List.all_eq_true] at hok
  have hops : ∀ (i : Nat) (o : Oper), i < m → ops[i]? = some o → o.dst = some (slot i) ∧ slot i < N ∧ o.guard = none ∧ (∀ p ∈ fixed, p.1 ≠ slot i) ∧ (∀ e ∈ o.after, e.on < i ∧ Region.binds .any e = true) ∧ (∀ j, j < m → slot i = slot j → i = j) ∧ ∃ k o', i < k ∧ k ≤ m ∧ ops[k]? = some o' ∧ ∃ e ∈ o'.after, e.on = i := by
    intro i o hi ho
    have := hok i (List.mem_range.2 hi)
    simp only [ho, Bool.and_eq_true, beq_iff_eq, decide_eq_true_eq, Option.isNone_iff_eq_none, List.all_eq_true, bne_iff_ne, ne_eq, Array.all_eq_true_iff_forall_mem, Bool.or_eq_true, List.mem_range, List.any_eq_true] at this
    obtain ⟨⟨⟨⟨⟨⟨h1, h2⟩, h3⟩, h4⟩, h5⟩, h6⟩, k, hk1, hk2, hk3⟩ := this
    refine ⟨h1, h2, h3, fun p hp => h4 p.1 (by rw [← hk]; exact List.mem_map_of_mem hp), h5, fun j hj he => ?_, k, ?_⟩
    · rcases h6 j hj with h | h
      · exact absurd he h
      · exact h
    · cases hk4 : ops[k]? with
      | none => rw [hk4] at hk3; cases hk3
      | some o' =>
        rw [hk4] at hk3
        simp only [Array.any_eq_true', beq_iff_eq] at hk3
        exact ⟨o', hk2, by omega, rfl, hk3⟩
  obtain ⟨ol, hol⟩ : ∃ ol, ops[m]? = some ol := ⟨ops[m], by simp [hsz]⟩
  unfold lastEdges at hle
  rw [hol] at hle
  simp only [Bool.and_eq_true, Option.isNone_iff_eq_none, Array.all_eq_true_iff_forall_mem, decide_eq_true_eq] at hle
  have hidx : ∀ i o, ops[i]? = some o → i < m ∨ i = m := fun i o ho => by have := (Array.getElem?_eq_some_iff.1 ho).1; omega
  refine wp_region_any hm (wpAny_inv' (fun listed a' w' => (listed.getD m false = true ∧ (∀ i, i < ops.size → listed.getD i false = true) ∧ Q .normal a' w') ∨ (listed.getD m false = false ∧ (∀ (i : Nat) (o : Oper), ops[i]? = some o → listed.getD i false = true → ∀ e ∈ o.after, listed.getD e.on false = true) ∧ RI slot (fun j v w' => j < m → R j v w') fixed N { w with drawn := w.drawn + 1 } listed a' w')) ?_ ?_ ?_ ops.size _ _ _ (by simp) (by unfold todo; exact Nat.le_trans (List.countP_le_length ..) (by simp)) (.inr ⟨?_, ?_, ha, hN, Below.refl _ _, hfx, ?_⟩))
  · intro i o e ho he
    rcases hidx i o ho with hi | rfl
    · exact ((hops i o hi ho).2.2.2.2.1 e he).1
    · rw [hol] at ho; cases ho; exact (hle.2 e he).1
  · intro listed a1 w1 i o hI hs ho hno hall
    rcases hI with ⟨_, h2, _⟩ | ⟨hm0, hcl, hI⟩
    · rw [h2 i ((Array.getElem?_eq_some_iff.1 ho).1)] at hno; cases hno
    rcases hidx i o ho with hi | him
    · obtain ⟨h1, h2, h3, h4, h5, h6, _⟩ := hops i o hi ho
      have hok := hstep.at (P := P) (ops.toList.take m) 0 i o (by rw [List.getElem?_take, if_pos hi]; simpa using ho) a1 w1 hI.bl hI.fx (fun e he => hI.rs _ (hall e he (h5 e he).2) (by have := (h5 e he).1; omega))
      rw [Nat.zero_add] at hok
      unfold wpOp
      simp only [ho, Region.wanted, h3, if_true]
      refine .inl (hok.wp fun v w'' hp => .inr ⟨?_, ?_, ?_⟩)
      · rw [getD_set_ne false (by omega)]; exact hm0
      · intro j oj hoj hj e he
        by_cases hji : i = j
        · subst hji
          rw [ho] at hoj; cases hoj
          have := (h5 e he).1
          rw [getD_set_ne false (by omega)]
          exact hall e he (h5 e he).2
        · rw [getD_set_ne false hji] at hj
          have := hcl j oj hoj hj e he
          by_cases hei : i = e.on
          · rw [← hei]; simp [show i < listed.size by omega]
          · rw [getD_set_ne false hei]; exact this
      · rw [h1]
        refine ⟨hI.df, by simp [Act.put, hI.sz], hI.bl.trans (hp.1.mono hI.bl.size), fun p hp' => ?_, fun j hj hjm => ?_⟩
        · have := hI.fx p hp'
          simp only [Act.put]
          rw [← this]
          simp [Array.getElem?_setIfInBounds_ne (Ne.symm (h4 p hp'))]
        · by_cases hji : i = j
          · subst hji
            simp only [Act.put]
            have hz : slot i < a1.tmps.size := by rw [hI.sz]; exact h2
            simpa [hz] using hp.2
          · rw [getD_set_ne false hji] at hj
            have hsl : slot i ≠ slot j := fun e => hji (h6 j hjm e)
            simp only [Act.put]
            have := hper j _ _ _ (hI.rs j hj hjm) hp.1
            simpa [Array.getElem?_setIfInBounds_ne hsl] using this
    · have him' : m = i := him.symm
      subst him'
      rw [hol] at ho; cases ho
      have hlisted : ∀ d j, j + d = m → j < m → listed.getD j false = true := by
        intro d
        induction d using Nat.strongRecOn with
        | ind d ih =>
          intro j hd hj
          obtain ⟨oj, hoj⟩ : ∃ oj, ops[j]? = some oj := ⟨ops[j], by simp [show j < ops.size by omega]⟩
          obtain ⟨k, ok, hk1, hk2, hk3, e, he, hej⟩ := (hops j oj hj hoj).2.2.2.2.2.2
          rw [← hej]
          rcases Nat.lt_or_ge k m with hkm | hkm
          · exact hcl k ok hk3 (ih (m - k) (by omega) k (by omega) hkm) e he
          · have : k = m := by omega
            subst this
            rw [hol] at hk3; cases hk3
            exact hall e he (hle.2 e he).2
      unfold wpOp
      simp only [hol, Region.wanted, hle.1, if_true]
      refine .inl (Oper.wp_mono (fun a' w'' h => ?_) (hlast a1 w1 ol hol hI.df hI.sz hI.bl hI.fx (fun j hj => hI.rs j (hlisted (m - j) j (by omega) hj) hj)))
      refine .inl ⟨by simp [show m < listed.size by omega], fun j hj => ?_, h⟩
      by_cases hji : m = j
      · subst hji; simp [show m < listed.size by omega]
      · rw [getD_set_ne false hji]; exact hlisted (m - j) j (by omega) (by omega)
  · intro listed a1 w1 hI hall
    rcases hI with ⟨_, _, h⟩ | ⟨h0, _⟩
    · exact h
    · rw [hall m (by omega)] at h0; cases h0
  · simp [Array.getElem?_replicate]; split <;> simp
  · intro i o _ hi; simp [Array.getElem?_replicate] at hi; split at hi <;> simp at hi
  · intro j hj; simp [Array.getElem?_replicate] at hj; split at hj <;> simp at hj
end

theorem wp_store_one {P : Program} {o : Oper} {a : Act} {w : World} {K : Act → World → Prop} {Q : Exit → Act → World → Prop} (ty : TypeId) (x y : Operand) (ho : o.op = .store ty x y)
    (b off : Nat) (u : Value) (hx : a.eval x = .pointer (some ⟨b, off, none⟩)) (hy : a.eval y = u) (hu : u.oneCell' = true) (huc : u.cells = #[u]) (hi : (P.info? ty).map (·.size) = some 1)
    (old : Value) (hc : w.cell? ⟨b, off, none⟩ = some old) (hf : w.frozen? ⟨b, off, none⟩ = false)
    (h : K (a.put o.dst undef) (w.setCell ⟨b, off, none⟩ u)) : o.wp P a w K Q := by
  have hv : (storeVar ty ⟨b, off, none⟩ u).run P w = .ok () (w.setCell ⟨b, off, none⟩ u) := by
    cases hq : P.info? ty with
    | none => simp [hq] at hi
    | some i =>
      have hs' : i.size = 1 := by simpa [hq] using hi
      simp [storeVar, sizeOf, typeInfo, hq, huc, hs', storeCells, Addr.add]
      rw [run_store P w _ _ _ hu]
      simp [hc, hf]
  unfold Oper.wp execOp
  simp only [ho, hx, hy, Instr.storeAt, Instr.sureAddr, Sem.run_bind, Sem.run_pure, Result.andThen_ok, hv]
  exact h
end Go.Proofs.YtcegdgmbponapaaGreatDoor
