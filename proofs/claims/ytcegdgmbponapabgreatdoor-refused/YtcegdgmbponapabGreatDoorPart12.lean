/-
  The writes of a call, one after another, where none crashes.
  A vault is opened.
  errors.Is over places: is it of that kind?
-/
import Derived.Test.YtcegdgmbponapabGreatDoorPart11
import Derived.Test.YtcegdgmbponapabGreatDoorPart06
namespace Go.Proofs.YtcegdgmbponapabGreatDoor
open Go.RowKit
attribute [local go_sem ↓] Go.wp_at_zero Go.wp_at_succ

theorem callFn {P : Program} {f : FuncId} {fn : Func} {c : Code} (hf : P.funcs[f]? = some fn) (hname : (fn.name == "runtime.NumGoroutine") = false) (hb : fn.body = some c) (args : Array Value) (w : World) : (callFunc f args).run P w = .ok (.enter f args) w := by
  have h1 : fn.name ≠ "runtime.NumGoroutine" := by simpa using hname
  simp [callFunc, hf, h1, hb]

/-- What holds behind t writes of a call. -/
structure Wrt (J : Nat → World → Prop) (own : Nat → Prop) (W : World) (V key n B bc : Nat) (sp : Nat → Nat) (t : Nat) (w : World) : Prop where
  vt : ∃ done ahead, Vt w V key n B bc sp done false ahead false
  j : J t w
  sp : Spared (fun b => b = V ∨ own b) W w

set_option maxRecDepth 100000 in
set_option maxHeartbeats 2000000 in
theorem write_free (c k : Nat) (fs : List Nat) (J : Nat → World → Prop) (own : Nat → Prop) (V key n B bc br rc : Nat) (sp : Nat → Nat) (xs : List RecV) (done ahead : Int) (w : World) (hk : fs.length = k) (hk2 : k ≤ 2) (hn8 : n ≤ 8)
    (hsteps : ∀ w, Calls Tryz.prog 89 #[.int .i64 c] w fun e w' => ∃ g, e = .returned (.slice (some ⟨g, 0, none⟩) k k) ∧ w.heap.size ≤ g ∧ Fns w' g fs ∧ Below w.heap.size w w')
    (hcall : ∀ (j f : Nat), fs[j]? = some f → ∀ args w, (callFunc f args).run Tryz.prog w = .ok (.enter f args) w)
    (hv : Vt w V key n B bc sp done false ahead false) (hxl : xs.length = n) (hx : Rd w (some ⟨br, 0, none⟩) (recs xs)) (hbr : br < w.heap.size)
    (hJ0 : ∀ w', Below w.heap.size w w' → J 0 w') (hJV : ∀ t w1 w2, J t w1 → Spared (fun b => b = V) w1 w2 → J t w2)
    (hown : ∀ b, own b → b < w.heap.size) (hoV : ¬ own V) (hoB : ¬ own B) (hor : ¬ own br) (hrV : br ≠ V) (hBV : B ≠ V)
    (hone : ∀ (j i f : Nat) w1, fs[j]? = some f → i < n → J (j * n + i) w1 → Spared (fun b => b = V ∨ own b) w w1 → Calls Tryz.prog f #[.pointer (some ⟨sp i, 0, none⟩), (xs[i]!).val] w1 fun e w2 => e = .returned (.tuple #[]) ∧ J (j * n + i + 1) w2 ∧ Spared own w1 w2) :
    Calls Tryz.prog 59 #[.pointer (some ⟨V, 0, none⟩), .int .i64 c, .slice (some ⟨br, 0, none⟩) n rc] w fun e w' =>
      e = .returned .nilIface ∧ Wrt J own w V key n B bc sp (k * n) w' := by
  have HST := hid hsteps
  have HCALL := hid hcall
  have HV := hid hv
  have HX := hid hx
  have HXL := hid hxl
  have HJ0 := hid hJ0
  have HJV := hid hJV
  have HOWN := hid hown
  have HO := hid (And.intro hoV (And.intro hoB (And.intro hor (And.intro hrV hBV))))
  have HONE := hid hone
  have HK := hid hk
  have hVlt := cells_lt hv.hp
  have HBLT := hid (show B < w.heap.size by obtain ⟨L, hL, _⟩ := hv.hb; exact cells_lt hL)
  clear hsteps hcall hv hx hxl hJ0 hJV hown hoV hoB hor hrV hBV hone hk
  go_enter Tryz.func59, Tryz.ntmps59
  go_wp2_with fail
  refine (HST.out _).mono ?_
  rintro e w1 ⟨g, rfl, hg, hfns, hb1⟩
  have HW1 := hid (show Wrt J own w V key n B bc sp 0 w1 from ⟨⟨done, ahead, HV.out.keeps (Spared.ofBelow (own := fun _ => False) hb1 (Nat.le_refl _)) (fun h => h) (fun h => h)⟩, HJ0.out _ hb1, Spared.ofBelow hb1 (Nat.le_refl _)⟩)
  have HF := hid hfns
  clear hfns
  go_wp2_with fail
  go_loopw [15] (fun u wr => ∃ j : Nat, j ≤ k ∧ u = .int .i64 j ∧ Wrt J own w V key n B bc sp (j * n) wr ∧ Fns wr g fs) (fun u _ => k - (intOf u).toNat)
  case atStart => exact ⟨0, Nat.zero_le _, rfl, by rw [Nat.zero_mul]; exact HW1.out, HF.out⟩
  case round =>
    obtain ⟨j, hj, rfl, hwrt, hfn⟩ := hrel
    by_cases hlt : j < k
    · obtain ⟨f, hf⟩ : ∃ f, fs[j]? = some f := ⟨_, List.getElem?_eq_getElem (by rw [HK.out]; exact hlt)⟩
      have cf := hfn.2 j f hf
      unfold fnV at cf
      have hlt' : (j : Int) < (k : Int) := by omega
      obtain ⟨wo, rfl⟩ : ∃ wo, wo = wr := ⟨_, rfl⟩
      obtain ⟨d1, a1, hvt⟩ := hwrt.vt
      have c1 := hvt.va.c1
      have HWO := hid hwrt
      have HFN := hid hfn
      have HFJ := hid hf
      clear hwrt hfn hf hvt
      go_wp2_with fail
      go_loopw [24] (fun u wr => ∃ i : Nat, i ≤ n ∧ u = .int .i64 i ∧ Wrt J own w V key n B bc sp (j * n + i) wr ∧ Fns wr g fs) (fun u _ => n - (intOf u).toNat)
      case atStart => exact ⟨0, Nat.zero_le _, rfl, HWO.out, HFN.out⟩
      case round =>
        obtain ⟨i, hi, rfl, hwi, hfi⟩ := hrel
        by_cases hli : i < n
        · obtain ⟨dn, an, hvt⟩ := hwi.vt
          have k1 : wr.cell? ⟨B, i, none⟩ = some (.pointer (some ⟨sp i, 0, none⟩)) := by have := hvt.va.st i hli; rwa [Nat.zero_add] at this
          have hli' : (i : Int) < (n : Int) := by omega
          have HNX := hid (next_free V _ _ dn an false wr hvt.hp)
          have hs2 : Spared (fun b => b = V ∨ own b) w (nextOf wr V dn an) := hwi.sp.trans ((nextOf_spared wr V dn an).mono fun b hb => .inl hb)
          have HJ2 := hid (HJV.out _ _ _ hwi.j (nextOf_spared wr V dn an))
          have HS2 := hid hs2
          have HFI2 := hid (hfi.keeps (nextOf_spared wr V dn an) (show ¬ g = V by omega))
          have HV2 := hid (show Vt (nextOf wr V dn an) V key n B bc sp (wrap64 (dn + 1)) false (wrap64 (an - 1)) false from ⟨nextOf_heap hvt.hp, by obtain ⟨L, hL, hLi⟩ := hvt.hb; exact ⟨L, (nextOf_spared wr V dn an).heap hL HO.out.2.2.2.2, hLi⟩⟩)
          have hrx : Rd (nextOf wr V dn an) (some ⟨br, 0, none⟩) (recs xs) := by
            intro q v hq
            obtain ⟨b', o', h1, h2, h3⟩ := HX.out q v hq
            simp at h1
            obtain ⟨rfl, rfl⟩ := h1
            refine ⟨br, 0, rfl, Nat.lt_of_lt_of_le hbr hs2.size, ?_⟩
            rw [World.cell?_of_block (hs2.block br hbr (fun h => h.elim HO.out.2.2.2.1 HO.out.2.2.1))]
            exact h3
          obtain ⟨_, r0, r1, r2, r3, r4, r5, r6, r7⟩ := rec_at hrx i (by rw [HXL.out]; exact hli)
          rw [Nat.zero_add] at r0 r1 r2 r3 r4 r5 r6 r7
          obtain ⟨W2, hW2⟩ : ∃ W2, W2 = nextOf wr V dn an := ⟨_, rfl⟩
          rw [← hW2] at r0 r1 r2 r3 r4 r5 r6 r7 HNX HJ2 HS2 HFI2 HV2
          have HONE2 := hid (HONE.out j i f W2 HFJ.out hli HJ2.out HS2.out)
          unfold RecV.val at HONE2
          generalize xs[i]! = x at *
          have hcf := HCALL.out j f HFJ.out
          clear hwi hfi hvt hs2 hrx hW2
          go_wp2_with (go_at_call 90; refine HNX.out.mono ?_; rintro e w2 ⟨rfl, rfl⟩)
          refine HONE2.out.mono ?_
          rintro e w3 ⟨rfl, hj3, hs3⟩
          have HJ3 := hid hj3
          have HS3 := hid hs3
          clear hj3 hs3
          go_wp2_with fail
          go_roundw
          case rel =>
            exact ⟨i + 1, by omega, by go_num, ⟨⟨_, _, HV2.out.keeps HS3.out HO.out.1 HO.out.2.1⟩, HJ3.out, HS2.out.trans (HS3.out.mono fun b hb => .inr hb)⟩, HFI2.out.keeps HS3.out (fun h => by have := HOWN.out g h; omega)⟩
          case measure => simp [intOf]; omega
        · have hin : i = n := by omega
          subst hin
          have HWI := hid hwi
          have HFI := hid hfi
          clear hwi hfi
          go_wp2
          go_roundw
          case rel => exact ⟨j + 1, by omega, by go_num, by rw [Nat.succ_mul]; exact HWI.out, HFI.out⟩
          case measure => simp [intOf]; omega
    · have hjk : j = k := by omega
      subst hjk
      go_wp2
      go_ret
      exact ⟨rfl, hwrt⟩

theorem Tryz.callAdd (args : Array Value) (w : World) : (callFunc 80 args).run Tryz.prog w = .ok (.enter 80 args) w := callFn Tryz.func80 (by kernel_rfl) rfl args w
theorem Tryz.callLay (args : Array Value) (w : World) : (callFunc 123 args).run Tryz.prog w = .ok (.enter 123 args) w := callFn Tryz.func123 (by kernel_rfl) rfl args w
theorem Tryz.callTurn (args : Array Value) (w : World) : (callFunc 124 args).run Tryz.prog w = .ok (.enter 124 args) w := callFn Tryz.func124 (by kernel_rfl) rfl args w
end Go.Proofs.YtcegdgmbponapabGreatDoor

namespace Go.Proofs.YtcegdgmbponapabGreatDoor
open Go.RowKit
attribute [local go_sem ↓] Go.wp_at_zero Go.wp_at_succ

theorem Tryz.infoP : (Tryz.prog.info? 97).map (fun i => (i.zero, i.size, i.bytes)) = some (some (.pointer none), 1, 8) := by kernel_rfl

theorem alloc_at (w : World) (o : Obj) : (w.alloc o).heap[w.heap.size]? = some o := by
  show (w.heap.push o)[w.heap.size]? = _
  simp

/-- Blocks of other kinds are no row of this one. -/
theorem row_ne {w : World} {base n size : Nat} {e e' : TypeId} {L : List Value} {v : Value} {b : Nat} {cs : Array Value} (h : w.ownsRow base e size v n L) (hb : w.heap[b]? = some (.cells cs e')) (he : e ≠ e') : v.ownBlock ≠ some b := by
  intro hv
  rcases h with ⟨_, ⟨rfl, _⟩ | ⟨g, cap, cur, rfl, _, h4, _⟩⟩
  · cases hv
  · cases hv
    rw [h4] at hb
    simp at hb
    exact he hb.2

def ptrs (ps : List Nat) : List Value := ps.map fun p => .pointer (some ⟨p, 0, none⟩)

/-- A vault of which k stores are made. -/
structure Opening (w : World) (key : Nat) (k : Nat) (ps : List Nat) (v : Value) (wr : World) : Prop where
  len : ps.length = k
  hp : wr.heap[w.heap.size]? = some (.cells #[.int .u64 key, v, .int .i64 0, .bool false, .int .i64 0, .bool false] 96)
  row : wr.ownsRow w.heap.size 97 1 v k (ptrs ps)
  st : ∀ s ∈ ps, wr.heap[s]? = some (.cells #[.bool false, .slice none 0 0] 100) ∧ w.heap.size < s
  nd : ps.Nodup
  bl : Below w.heap.size w wr

set_option maxRecDepth 100000 in
set_option maxHeartbeats 1000000 in
theorem vopen_any (n key : Nat) (w : World) (h1 : 1 ≤ n) (h8 : n ≤ 8) :
    Calls Tryz.prog 25 #[.int .i64 n, .int .u64 key] w fun e w' => ∃ ps v, e = .returned (.pointer (some ⟨w.heap.size, 0, none⟩)) ∧ Opening w key n ps v w' := by
  obtain ⟨i0, hi, hz0, hz1, hz2⟩ := info_parts Tryz.infoP
  have e1 : max (n : Int) 1 = n := by omega
  have e2 : min (n : Int) 8 = n := by omega
  go_enter Tryz.func25, Tryz.ntmps25
  go_wp2_with fail
  go_loopw [12] (fun u wr => ∃ (k : Nat) (ps : List Nat) (v : Value), k ≤ n ∧ u = .int .i64 k ∧ Opening w key k ps v wr) (fun u _ => n - (intOf u).toNat)
  case atStart => exact ⟨0, [], .slice none 0 0, Nat.zero_le _, rfl, rfl, alloc_at _ _, ⟨rfl, .inl ⟨rfl, rfl⟩⟩, nofun, List.nodup_nil, (Below.refl _ _).alloc (Nat.le_refl _) _⟩
  case round =>
    obtain ⟨k, ps, v, hk, rfl, hop⟩ := hrel
    by_cases hlt : k < n
    · have c1 : wr.cell? ⟨w.heap.size, 1, none⟩ = some v := by rw [cells_at hop.hp]; rfl
      obtain ⟨a, c, rfl, _⟩ := owns_rd_size hop.row
      have f1 : wr.frozen? ⟨w.heap.size, 1, none⟩ = false := cells_fz hop.hp
      have hz : w.heap.size < wr.heap.size := cells_lt hop.hp
      have hlt' : (k : Int) < (n : Int) := by omega
      have hba1 := (Below.refl wr.heap.size wr).alloc (Nat.le_refl _) (.cells #[.bool false, .slice none 0 0] 100)
      have hba2 := hba1.alloc (by simp) (.cells #[.pointer (some ⟨wr.heap.size, 0, none⟩)] 97)
      have HRW := hid (owns_below_size hop.row hba2 (Nat.le_refl _))
      have HOP := hid hop
      clear hop
      go_wp2_with (first | (at_builtin; refine wpList_append_own _ rfl (.tmp 18) (.tmp 20) 92 rfl w.heap.size 97 i0 _ 1 8 Tryz.underlying92 hi hz0 hz1 hz2 rfl (by decide) (.slice a k c) k (ptrs ps) rfl HRW.out ⟨wr.heap.size + 1, 0, none⟩ 1 1 [.pointer (some ⟨wr.heap.size, 0, none⟩)] rfl rfl (fun j u hj => by cases j with | zero => (simp at hj; subst hj; rw [add_at]; rw [World.cell?_alloc_at _ _ _ _ (by simp)]; rfl) | succ j => simp at hj) (fun u hu => by simp at hu; subst hu; rfl) (by unfold maxLen; omega) (by omega) (by simp; omega) ?_; intro v2 w2 hown2 hgrow2 _; (have HO2 := hid hown2); (have HG2 := hid hgrow2); (have HPV := hid (show w2.heap[w.heap.size]? = some (.cells #[.int .u64 key, .slice a k c, .int .i64 0, .bool false, .int .i64 0, .bool false] 96) from (hgrow2.block _ (by simp; omega) (fun e => row_ne HOP.out.row HOP.out.hp (by decide) e.symm)).trans ((hba2.block _ hz).trans HOP.out.hp))); (have c2 : w2.cell? ⟨w.heap.size, 1, none⟩ = some (.slice a k c) := by rw [cells_at HPV.out]; rfl); (have f2 : w2.frozen? ⟨w.heap.size, 1, none⟩ = false := cells_fz HPV.out); (obtain ⟨a2, cc2, rfl, _⟩ := owns_rd_size hown2); clear hown2 hgrow2) | fail)
      go_roundw
      case rel =>
        refine ⟨k + 1, ps ++ [wr.heap.size], .slice a2 (k + 1) cc2, by omega, by go_num, ?_, ?_, ?_, ?_, ?_, ?_⟩
        · simp [HOP.out.len]
        · exact cells_set _ HPV.out
        · have := owns_spared HO2.out ((Spared.refl (fun b => b = w.heap.size) w2).setCell (p := ⟨w.heap.size, 1, none⟩) rfl (.slice a2 (k + 1) cc2)) (fun b hb e => row_ne HO2.out HPV.out (by decide) (by rw [hb, e]))
          simpa [ptrs] using this
        · intro s hs
          rcases List.mem_append.1 hs with hs | hs
          · obtain ⟨h1, h2⟩ := HOP.out.st s hs
            have hlt := cells_lt h1
            refine ⟨?_, h2⟩
            rw [Below.heap_setCell _ _ _ _ (by show s ≠ w.heap.size; omega), HG2.out.block s (by simp; omega) (fun e => row_ne HOP.out.row h1 (by decide) e.symm), hba2.block s hlt]
            exact h1
          · have : s = wr.heap.size := by simpa using hs
            subst this
            refine ⟨?_, hz⟩
            rw [Below.heap_setCell _ _ _ _ (by show wr.heap.size ≠ w.heap.size; omega), HG2.out.block _ (by simp; omega) (fun e => by have := (HOP.out.row.lt _ e.symm).2; omega), Below.heap_alloc _ _ _ (by simp)]
            exact alloc_at _ _
        · refine List.nodup_append.2 ⟨HOP.out.nd, List.nodup_cons.2 ⟨nofun, List.nodup_nil⟩, fun s hs t ht => ?_⟩
          have : t = wr.heap.size := by simpa using ht
          have := cells_lt (HOP.out.st s hs).1
          omega
        · exact ((HOP.out.bl.trans (hba2.mono (by omega))).grown HG2.out (by simp; omega) (fun q hq => (HRW.out.lt q hq).1)).setCell (p := ⟨w.heap.size, 1, none⟩) (Nat.le_refl _) _
      case measure => simp [intOf]; omega
    · have hkn : k = n := by omega
      subst hkn
      have HOP := hid hop
      clear hop
      go_wp2
      go_ret
      exact ⟨ps, v, rfl, HOP.out⟩
end Go.Proofs.YtcegdgmbponapabGreatDoor

namespace Go.Proofs.YtcegdgmbponapabGreatDoor
open Go.RowKit Go.Extern.Stop Go.Stop Go.Extern
attribute [local go_sem ↓] Go.wp_at_zero Go.wp_at_succ

theorem Tryz.eqlPK (v : Value) (k : Int) (w : World) : (binOp .eql 76 (.iface 146 v) (.iface 109 (.int .i64 k))).run Tryz.prog w = .ok (.bool false) w := by kernel_rfl
theorem Tryz.eqlKK (j k : Int) (w : World) : (binOp .eql 76 (.iface 109 (.int .i64 j)) (.iface 109 (.int .i64 k))).run Tryz.prog w = .ok (.bool (j == k)) w := by kernel_rfl
theorem Tryz.eqlNN (w : World) : (binOp .eql 76 .nilIface .nilIface).run Tryz.prog w = .ok (.bool true) w := by kernel_rfl
theorem Tryz.eqlNK (v : Value) (w : World) : (binOp .eql 76 .nilIface (.iface 109 v)).run Tryz.prog w = .ok (.bool false) w := by kernel_rfl
theorem Tryz.eqlKN (v : Value) (w : World) : (binOp .eql 76 (.iface 109 v) .nilIface).run Tryz.prog w = .ok (.bool false) w := by kernel_rfl
theorem Tryz.eqlPN (v : Value) (w : World) : (binOp .eql 76 (.iface 146 v) .nilIface).run Tryz.prog w = .ok (.bool false) w := by kernel_rfl
theorem Tryz.methodComparable (h : Value) (w : World) : (Go.method 444 199 (.agg #[h]) "Comparable").run Tryz.prog w = .ok (246, .agg #[h]) w := by kernel_rfl
theorem Tryz.comparableE (w : World) : (ReflectliteType.method (fun t => do Rtype.noPackHeld "Comparable" t; (fun a => Value.bool a.comparable) <$> typeInfo t) #[.agg #[.pointer (some ⟨5, 109, none⟩)]]).run Tryz.prog w = .ok (.bool true) w := by kernel_rfl
theorem Tryz.assertIsP (v : Value) (w : World) : (Instr.typeAssert (.iface 146 v) 76 276 true).run Tryz.prog w = .ok (.tuple #[.nilIface, .bool false]) w := run_typeAssert_lacksB Tryz.underlying276 (by kernel_rfl) (by kernel_rfl) v _ w
theorem Tryz.assertIsK (v : Value) (w : World) : (Instr.typeAssert (.iface 109 v) 76 276 true).run Tryz.prog w = .ok (.tuple #[.nilIface, .bool false]) w := run_typeAssert_lacksB Tryz.underlying276 (by kernel_rfl) (by kernel_rfl) v _ w
theorem Tryz.assertUnK (v : Value) (w : World) : (Instr.typeAssert (.iface 109 v) 76 207 true).run Tryz.prog w = .ok (.tuple #[.nilIface, .bool false]) w := run_typeAssert_lacksB Tryz.underlying207 (by kernel_rfl) (by kernel_rfl) v _ w
theorem Tryz.assertUnsK (v : Value) (w : World) : (Instr.typeAssert (.iface 109 v) 76 208 true).run Tryz.prog w = .ok (.tuple #[.nilIface, .bool false]) w := run_typeAssert_lacksB Tryz.underlying208 (by kernel_rfl) (by kernel_rfl) v _ w

set_option maxRecDepth 100000 in
set_option maxHeartbeats 4000000 in
theorem is_any (k kt : Int) (w : World) (d : Nat) (e : Value) (hc : Chain w k d e) (hd : d ≤ 10) :
    Calls Tryz.prog 156 #[e, .iface 109 (.int .i64 kt), .bool true] w fun ev w' => ev = .returned (.bool (k == kt)) ∧ w' = w := by
  have q1 := Tryz.eqlPK
  have q2 := Tryz.eqlKK
  have sI := Tryz.assertIsP
  have sK := Tryz.assertIsK
  have sU := Tryz.assertUnwrap
  have sV := Tryz.assertUnK
  have sW := Tryz.assertUnsK
  have mU := Tryz.methodUnwrap
  have HC := hid hc
  clear hc
  go_enter Tryz.func156, Tryz.ntmps156
  go_wp2_with fail
  go_loopw [0] (fun e wr => ∃ d, d ≤ 10 ∧ Chain wr k d e ∧ wr = w) (fun e wr => deep wr 10 e)
  case atStart => exact ⟨d, hd, HC.out, rfl⟩
  case round =>
    obtain ⟨d', hd', hc', rfl⟩ := hrel
    have hm := hc'.deep 10 hd'
    cases hc' with
    | hit =>
      by_cases hk : k = kt
      · subst hk
        have hkk : (k == k) = true := by simp
        go_wp2_with fail
        go_ret
        exact ⟨congrArg (fun b => Ending.returned (.bool b)) hkk.symm, rfl⟩
      · have hkk : (k == kt) = false := by simp [hk]
        have HKK := hid hkk
        go_wp2_with fail
        go_ret
        exact ⟨congrArg (fun b => Ending.returned (.bool b)) HKK.out.symm, rfl⟩
    | place d2 b e2 h2 hcell hlt =>
      have h3 := h2.deep 10 (by omega)
      have HM := hid hm
      have H3 := hid h3
      have H2 := hid h2
      obtain ⟨te, ve, rfl⟩ := h2.shape
      clear hm h3 h2
      go_wp2_with (go_at_call 238; refine (unwrap_any b _ _ hcell).mono ?_; rintro ev w2 ⟨rfl, rfl⟩)
      exact ⟨⟨d2, by omega, H2.out, trivial⟩, by rw [H3.out, HM.out]; omega⟩

set_option maxRecDepth 100000 in
set_option maxHeartbeats 4000000 in
theorem Is_any (k kt : Int) (w : World) (d : Nat) (e : Value) (hc : Chain w k d e) (hd : d ≤ 10) :
    Calls Tryz.prog 115 #[e, .iface 109 (.int .i64 kt)] w fun ev w' => ev = .returned (.bool (k == kt)) ∧ w' = w := by
  have HI := hid (is_any k kt w d e hc hd)
  obtain ⟨te, ve, rfl⟩ := hc.shape
  have h1 := @run_callFunc_extern Tryz.prog 111 _ ReflectliteType.typeOf Tryz.func111 (by kernel_rfl) (by kernel_rfl) (by kernel_rfl) (by kernel_rfl)
  have h2 := @run_callFunc_extern Tryz.prog 246 _ (ReflectliteType.method (fun t => do Rtype.noPackHeld "Comparable" t; pure (.bool (← typeInfo t).comparable))) Tryz.func246 (by kernel_rfl) (by kernel_rfl) (by kernel_rfl) (by kernel_rfl)
  have tE := Tryz.typeOfE
  have mC := Tryz.methodComparable
  have cE := Tryz.comparableE
  have n1 := Tryz.eqlKN
  have hn : (binOp .eql 76 (.iface te ve) .nilIface).run Tryz.prog w = .ok (.bool false) w := by
    cases hc with
    | hit => exact Tryz.eqlKN _ _
    | place => exact Tryz.eqlPN _ _
  clear hc
  go_enter Tryz.func115, Tryz.ntmps115
  go_wp2_with (go_at_call 156; refine HI.out.mono ?_; rintro e w1 ⟨rfl, rfl⟩)
  go_ret
  exact ⟨rfl, rfl⟩

set_option maxRecDepth 100000 in
theorem Is_nil (kt : Int) (w : World) :
    Calls Tryz.prog 115 #[.nilIface, .iface 109 (.int .i64 kt)] w fun ev w' => ev = .returned (.bool false) ∧ w' = w := by
  have n1 := Tryz.eqlNN
  have n2 := Tryz.eqlNK
  go_enter Tryz.func115, Tryz.ntmps115
  go_wp2
  go_ret
  exact ⟨rfl, rfl⟩
end Go.Proofs.YtcegdgmbponapabGreatDoor
