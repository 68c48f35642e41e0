/-
  A shard is made.
  bytes.Equal, bytes.HasPrefix, slices.Clone of bytes.
-/
import Derived.Test.YtcegdgmbponapaaGreatDoorPart21
import Derived.Test.YtcegdgmbponapaaGreatDoorPart03
import Derived.Lib.SliceRun
namespace Go.Proofs.YtcegdgmbponapaaGreatDoor
open Go.RowKit
attribute [local go_sem ↓] Go.wp_at_zero Go.wp_at_succ

/-- What is ahead of the tag, and the tag. -/
def Cof.sealed (key : Nat) (xs : List UInt8) : List UInt8 := xs ++ Cof.high (Cof.tag key xs) 8

theorem Cof.length_sealed (key : Nat) (xs : List UInt8) : (Cof.sealed key xs).length = xs.length + 8 := by simp [Cof.sealed, Cof.length_high]

theorem bs_append (xs ys : List UInt8) : bs (xs ++ ys) = bs xs ++ bs ys := by simp [bs]

theorem append_src2 {P : Program} (w : World) {ops : Array Oper} {rest : List Oper} {o : Oper} {a : Act} {Q : Exit → Act → World → Prop} (hgd : o.guard = none) (s x : Operand) (t : TypeId)
    (ho : o.op = .call { callee := .builtin .append, args := #[s, x], argTypes := #[t, t] })
    (base : Nat) (e : TypeId) (i : TypeInfo) (z : Value) (bytes : Nat) (ht : P.underlying t = some (.slice e)) (hi : P.info? e = some i) (hz : i.zero = some z) (hsize : i.size = 1) (hby : i.bytes = bytes) (hzs : z.cells.size = 1)
    (v : Value) (n : Nat) (xs : List Value) (hs : a.eval s = v) (hown : w.ownsRow base e 1 v n xs) (ao : Option Addr) (m c : Nat) (news : List Value) (hx : a.eval x = .slice ao m c) (hl : news.length = m) (hr : Rd w ao news)
    (h1 : ∀ u ∈ news, u.oneCell' = true) (hm : n + m ≤ 1000000) (hb : bytes ≤ 1000) (hbase : base ≤ w.heap.size)
    (h : ∀ v' w', w'.ownsRow base e 1 v' (n + m) (xs ++ news) → w.grownBy w' v.ownBlock → wpList P ops Q rest (a.put o.dst v') w') : wpList P ops Q (o :: rest) a w := by
  have hbb : (n + m) * bytes ≤ 140737488355328 := by
    have := Nat.mul_le_mul hm hb
    omega
  cases ao with
  | none =>
    have hm0 : news = [] := by
      cases news with
      | nil => rfl
      | cons v0 r => obtain ⟨b, o', h1, _⟩ := hr 0 v0 rfl; cases h1
    subst hm0
    simp at hl; subst hl
    refine wpList_plain hgd fun K hK => ?_
    have hrun : (Builtin.append_ #[t, t] o.type #[v, .slice none 0 c]).run P w = .ok v w := by
      rcases hown.2 with ⟨rfl, rfl⟩ | ⟨g, cap, cur, rfl, _, _, hnc, _⟩
      · simp [Builtin.append_, run_underlying ht, sizeOf, typeInfo, hi, Builtin.lenOf, Builtin.firstCells]
      · simp [Builtin.append_, run_underlying ht, sizeOf, typeInfo, hi, Builtin.lenOf, Builtin.firstCells, hnc, storeCells]
    unfold Oper.wp
    simp [execOp, ho, resolve, invoke, builtin, hs, hx, hrun, Result.andThen]
    exact hK _ _ (h v w (by simpa using hown) (World.grownBy.refl _ _))
  | some ad =>
    refine wpList_append_own w hgd s x t ho base e i z 1 bytes ht hi hz hsize hby hzs (by decide) v n xs hs hown ad m c news hx (by omega) ?_ h1 (by unfold maxLen; omega) hbb hbase ?_
    · intro j u hj
      obtain ⟨b, o', e1, e2, e3⟩ := hr j u hj
      cases e1
      rw [add_at]; exact e3
    · intro v' w' h1 h2 _
      exact h v' w' h1 h2

set_option maxRecDepth 100000 in
set_option maxHeartbeats 1000000 in
theorem made_any (mode t l n s epoch size key : Nat) (name : ByteArray) (aP : Option Addr) (m c : Nat) (P : List UInt8) (w : World) (hp : IsPlan mode t l n) (hs : s < n) (he : epoch ≤ 100) (hz : size ≤ 60) (hnm : name.size ≤ 12)
    (hk : key < 18446744073709551616) (em : m = P.length) (hr : Rd w aP (bs P)) (hm : m ≤ 60) :
    Calls Tryz.prog 138 #[.agg #[.string name, .int .i64 mode, .int .i64 t, .int .i64 l, .int .i64 size, .int .i64 epoch, .int .i64 n, .int .i64 s], .slice aP m c, .int .u64 key] w fun e w' =>
      ∃ v, e = .returned v ∧ w'.ownsRow w.heap.size 5 1 v (10 + name.size + m + 8) (bs (Cof.sealed key (Cof.head mode t l n s epoch size name.data.toList ++ P))) ∧ Below w.heap.size w w' := by
  obtain ⟨i0, hi, hz0, hz1, hz2⟩ := info_parts Tryz.info5
  have hba := (Below.refl w.heap.size w).alloc (Nat.le_refl _) (.cells #[.string name, .int .i64 mode, .int .i64 t, .int .i64 l, .int .i64 size, .int .i64 epoch, .int .i64 n, .int .i64 s] 224)
  have HH := hid (head_any mode t l n s epoch size name (w.alloc (.cells #[.string name, .int .i64 mode, .int .i64 t, .int .i64 l, .int .i64 size, .int .i64 epoch, .int .i64 n, .int .i64 s] 224)) hp hs he hz hnm)
  have hHL : (Cof.head mode t l n s epoch size name.data.toList).length = 10 + name.size := by rw [Cof.length_head]; simp
  have HR := hid hr
  have EM := hid (show (bs P).length = m by rw [bs_length, em])
  have EA := hid (show 10 + name.size + m = (Cof.head mode t l n s epoch size name.data.toList ++ P).length by rw [List.length_append, hHL, em])
  have HK := hid hk
  have HO1 := hid (fun u hu => bs_one P u hu)
  clear hr em hp hs he hz hk hHL
  generalize Cof.head mode t l n s epoch size name.data.toList = hd at *
  go_enter Tryz.func138, Tryz.ntmps138
  go_wp2_with fail
  refine HH.out.mono ?_
  rintro e w1 ⟨v1, rfl, hown1, hb1⟩
  have hb01 : Below w.heap.size w w1 := hba.trans (hb1.mono (by simp))
  have hz01 := hb01.size
  have HV1 := hid (hown1.mono (show w.heap.size ≤ _ by simp))
  clear hown1
  go_wp2_with (first | (at_builtin; refine append_src2 _ rfl (.tmp 9) (.tmp 10) 50 rfl w.heap.size 5 i0 (Value.int .u8 0) 1 Tryz.underlying50 hi hz0 hz1 hz2 rfl _ (10 + name.size) (bs hd) rfl HV1.out aP m c (bs P) rfl EM.out (HR.out.below hb01 (Nat.le_refl _)) HO1.out (by omega) (by omega) hz01 ?_; intro v2 w2 hown2 hgrow2; have hb02 : Below w.heap.size w w2 := hb01.grown hgrow2 hz01 (fun k hk => (HV1.out.lt k hk).1); obtain ⟨a2, c2, rfl, hrd2⟩ := owns_any_rd hown2; have HV2 := hid hown2; have HR2 := hid hrd2; clear hown2 hgrow2 hrd2) | fail)
  have HR3 := hid (show Rd w2 a2 (bs (hd ++ P)) by rw [bs_append]; exact HR2.out)
  refine (tagOf_any a2 (10 + name.size + m) c2 (hd ++ P) key _ EA.out HR3.out (by omega) HK.out).mono ?_
  rintro e w3 ⟨g3, rfl, hown3, hb3⟩
  have hb03 : Below w.heap.size w w3 := hb02.trans (hb3.mono hb02.size)
  have hz03 := hb03.size
  have HV3 := hid (owns_below HV2.out hb3 (Nat.le_refl _))
  have HT := hid (owns_rd hown3)
  clear hown3
  go_wp2_with (first | (at_builtin; refine append_src _ rfl (.tmp 12) (.tmp 15) 50 rfl w.heap.size 5 i0 (Value.int .u8 0) 1 Tryz.underlying50 hi hz0 hz1 hz2 rfl _ (10 + name.size + m) (bs hd ++ bs P) rfl HV3.out (some ⟨g3, 0, none⟩) 8 8 (bs (Cof.high (Cof.tag key (hd ++ P)) 8)) rfl (by rw [bs_length, Cof.length_high]) HT.out nofun (fun u hu => bs_one _ u hu) (by omega) (by omega) hz03 ?_; intro v4 w4 hown4 hgrow4; have hb04 : Below w.heap.size w w4 := hb03.grown hgrow4 hz03 (fun k hk => (HV3.out.lt k hk).1); have HV4 := hid hown4; clear hown4 hgrow4) | fail)
  go_ret
  refine ⟨_, rfl, ?_, hb04⟩
  unfold Cof.sealed
  rw [bs_append, bs_append]
  exact HV4.out
end Go.Proofs.YtcegdgmbponapaaGreatDoor

namespace Go.Proofs.YtcegdgmbponapaaGreatDoor
open Go.RowKit

set_option maxRecDepth 100000 in
theorem equal_any (a1 a2 : Option Addr) (n1 c1 n2 c2 : Nat) (xs ys : List UInt8) (w : World) (e1 : n1 = xs.length) (e2 : n2 = ys.length) (r1 : Rd w a1 (bs xs)) (r2 : Rd w a2 (bs ys)) :
    Calls Tryz.prog 219 #[.slice a1 n1 c1, .slice a2 n2 c2] w fun e w' => e = .returned (.bool (decide (xs = ys))) ∧ w' = w := by
  have h1 := conv_string w a1 c1 n1 xs e1 r1
  have h2 := conv_string w a2 c2 n2 ys e2 r2
  clear e1 e2 r1 r2
  go_enter Tryz.func219, Tryz.ntmps219
  go_wp2
  go_ret
  refine ⟨congrArg (fun b => Ending.returned (.bool b)) ?_, rfl⟩
  rw [Bool.eq_iff_iff]
  simp

set_option maxRecDepth 100000 in
theorem prefix_any (a1 a2 : Option Addr) (n1 c1 n2 c2 : Nat) (xs ys : List UInt8) (w : World) (e1 : n1 = xs.length) (e2 : n2 = ys.length) (hc : n1 ≤ c1) (r1 : Rd w a1 (bs xs)) (r2 : Rd w a2 (bs ys)) :
    Calls Tryz.prog 218 #[.slice a1 n1 c1, .slice a2 n2 c2] w fun e w' => e = .returned (.bool (decide (xs.take n2 = ys))) ∧ w' = w := by
  by_cases h : n2 ≤ n1
  · have h' : (n2 : Int) ≤ (n1 : Int) := by omega
    have h2 : (n2 : Int) ≤ (c1 : Int) := by omega
    have HE := hid (fun c => equal_any a1 a2 n2 c n2 c2 (xs.take n2) ys w (by rw [List.length_take]; omega) e2 (by intro k v hk; exact r1 k v (by simp only [bs, List.map_take] at hk ⊢; rw [List.getElem?_take] at hk; split at hk; exact hk; cases hk)) r2)
    clear e1 e2 r1 r2
    go_enter Tryz.func218, Tryz.ntmps218
    go_wp2_with (go_at_call 219; refine (HE.out _).mono ?_; rintro e w1 ⟨rfl, rfl⟩)
    go_ret
    exact ⟨rfl, rfl⟩
  · have h' : ¬ (n2 : Int) ≤ (n1 : Int) := by omega
    have HD := hid (show decide (xs.take n2 = ys) = false by
      apply decide_eq_false
      intro e
      have := congrArg List.length e
      rw [List.length_take] at this
      omega)
    clear e1 e2 r1 r2
    go_enter Tryz.func218, Tryz.ntmps218
    go_wp2
    go_ret
    rw [HD.out]
    exact ⟨rfl, rfl⟩

set_option maxRecDepth 100000 in
theorem cloneB (a : Option Addr) (n c : Nat) (xs : List UInt8) (w : World) (en : n = xs.length) (hr : Rd w a (bs xs)) (hn : n ≤ 1000) (hsome : a ≠ none) :
    Calls Tryz.prog 220 #[.slice a n c] w fun e w' => ∃ v, e = .returned v ∧ w'.ownsRow w.heap.size 5 1 v n (bs xs) ∧ Below w.heap.size w w' := by
  obtain ⟨i0, hi, hz0, hz1, hz2⟩ := info_parts Tryz.info5
  obtain ⟨b, rfl⟩ : ∃ b, a = some b := by cases a with | none => exact absurd rfl hsome | some b => exact ⟨b, rfl⟩
  have HL := hid (show (bs xs).length = n by rw [bs_length, en])
  have HR := hid hr
  have hba := (Below.refl w.heap.size w).alloc (Nat.le_refl _) (.cells #[] 5)
  have hq := Lib.run_eql_slice_nil (P := Tryz.prog) w 50 5 (some b) n c 0 0 Tryz.underlying50
  have HE := hid (show (w.alloc (.cells #[] 5)).ownsRow w.heap.size 5 1 (.slice (some ⟨w.heap.size, 0, none⟩) 0 0) 0 [] from owns_of_block (L := []) (by show (w.heap.push _)[w.heap.size]? = _; simp) (Nat.le_refl _) rfl (by unfold maxLen; omega))
  clear en hr hsome
  go_enter Tryz.func220, Tryz.ntmps220
  go_wp2_with (first | (at_builtin; refine append_src _ rfl (.tmp 5) (.tmp 6) 50 rfl w.heap.size 5 i0 (Value.int .u8 0) 1 Tryz.underlying50 hi hz0 hz1 hz2 rfl _ 0 [] rfl HE.out (some b) n c (bs xs) rfl HL.out (HR.out.below hba (Nat.le_refl _)) nofun (fun u hu => bs_one _ u hu) (by omega) (by omega) (by simp) ?_; intro v2 w2 hown2 hgrow2; rw [Nat.zero_add, List.nil_append] at hown2; have hb2 : Below w.heap.size w w2 := hba.grown hgrow2 (by simp) (fun k hk => (HE.out.lt k hk).1); have HO2 := hid hown2; clear hown2 hgrow2) | fail)
  go_ret
  exact ⟨_, rfl, HO2.out, hb2⟩
end Go.Proofs.YtcegdgmbponapaaGreatDoor
