/-
  fault.Number of an error that tells its kind.
  Reopen: a coffer out of images, or a refusal.
  cofferkeep.Anything.
  A slice of steps that is handed in.
-/
import Derived.Test.YtcegdgmbponapabGreatDoorPart34
import Derived.Deep.SlicePairs
namespace Go.Proofs.YtcegdgmbponapabGreatDoor
open Go.RowKit Go.Extern.Stop Go.Stop Go.Extern
attribute [local go_sem ↓] Go.wp_at_zero Go.wp_at_succ
theorem Tryz.methodUnwrapT (a:Option Addr) (w:World):(Go.method 444 149 (.pointer a) "Unwrap").run Tryz.prog w=.ok (240,.pointer a) w:=by kernel_rfl
theorem Tryz.typeOfTo (v:Value) (w:World):(ReflectliteType.typeOf #[.iface 149 v]).run Tryz.prog w=.ok (.iface 199 (.agg #[.pointer (some ⟨5,149,none⟩)])) w:=by kernel_rfl
theorem Tryz.assignableTo' (w:World):(ReflectliteType.relation "AssignableTo" ReflectliteType.assignableTo #[.agg #[.pointer (some ⟨5,149,none⟩)],.iface 199 (.agg #[.pointer (some ⟨5,109,none⟩)])]).run Tryz.prog w=.ok (.bool false) w:=by kernel_rfl
theorem Tryz.assertAsT (v:Value) (w:World):(Instr.typeAssert (.iface 149 v) 76 204 true).run Tryz.prog w=.ok (.tuple #[.nilIface,.bool false]) w:=run_typeAssert_lacksB Tryz.underlying204 (by kernel_rfl) (by kernel_rfl) v _ w
theorem Tryz.assertUnwrapT (v:Value) (w:World):(Instr.typeAssert (.iface 149 v) 76 207 true).run Tryz.prog w=.ok (.tuple #[.nilIface,.bool false]) w:=run_typeAssert_lacksB Tryz.underlying207 (by kernel_rfl) (by kernel_rfl) v _ w
theorem Tryz.assertUnwrapsT (v:Value) (w:World):(Instr.typeAssert (.iface 149 v) 76 208 true).run Tryz.prog w=.ok (.tuple #[.iface 149 v,.bool true]) w:=run_typeAssert_hasB Tryz.underlying208 (by kernel_rfl) v _ w
set_option maxRecDepth 100000 in
set_option maxHeartbeats 1000000 in
theorem told_unwrap (b:Nat) (k:Int) (te:TypeId) (ve:Value) (w:World) (h:w.heap[b]?=some (.cells #[.int .i64 k,.iface te ve] 151)) :
  Calls Tryz.prog 240 #[.pointer (some ⟨b,0,none⟩)] w fun e w'=>∃g,e=.returned (.slice (some ⟨g,0,none⟩) 2 2)∧w.heap.size≤g∧w'.heap[g]?=some (.cells #[.iface 109 (.int .i64 k),.iface te ve] 76)∧Below w.heap.size w w':=by
 have c0:w.cell? ⟨b,0,none⟩=some (.int .i64 k):=by rw [cells_at h];rfl
 have c1:w.cell? ⟨b,1,none⟩=some (.iface te ve):=by rw [cells_at h];rfl
 have hlt:=cells_lt h
 clear h
 go_enter Tryz.func240,Tryz.ntmps240
 go_wp2_with fail
 go_region_held3 (fun w'=>w'.cell? ⟨b,0,none⟩=some (.int .i64 k)∧w'.cell? ⟨b,1,none⟩=some (.iface te ve)) (first | exact ⟨c0,c1⟩|go_keep) (fail)
 go_wp2_with fail
 go_ret
 refine ⟨_,rfl,by simp,?_,?_⟩
 ·exact alloc_at _ _
 ·exact ((Below.refl w.heap.size w).drew).alloc (by simp) _
def ToldAt (w:World) (k:Int) (e:Value):Prop:=∃b,e=.iface 146 (.pointer (some ⟨b,0,none⟩))∧b<w.heap.size∧∃ev,w.cell? ⟨b,1,none⟩=some ev∧Told w k ev
theorem ToldAt.keeps {w w':World} {k:Int} {e:Value} (h:ToldAt w k e) (hb:Below w.heap.size w w'):ToldAt w' k e:=by
 obtain ⟨b,h1,h2,ev,h3,h4⟩:=h
 exact ⟨b,h1,Nat.lt_of_lt_of_le h2 hb.size,ev,(hb.cell h2).trans h3,h4.keeps hb⟩
theorem at_told (where_:ByteArray) (e:Value) (k:Int) (w:World) (hc:Told w k e) :
  Calls Tryz.prog 53 #[.string where_,e] w fun ev w'=>∃e',ev=.returned e'∧ToldAt w' k e'∧Below w.heap.size w w':=by
 obtain ⟨b,te,ve,rfl,hh⟩:=hc
 refine (fault_at where_ _ _ w).mono ?_
 rintro ev w' ⟨rfl,rfl⟩
 have hb:=(Below.refl w.heap.size w).alloc (Nat.le_refl _) (.cells #[.string where_,.iface 149 (.pointer (some ⟨b,0,none⟩))] 148)
 exact ⟨_,rfl,⟨_,rfl,by simp,_,by rw [cells_at (alloc_at _ _)];rfl,Told.keeps ⟨b,te,ve,rfl,hh⟩ hb⟩,hb⟩
def toldM:Value→Nat
 | .iface t _=>if t=146 then 1 else 0
 | _=>0
set_option maxRecDepth 100000 in
set_option maxHeartbeats 4000000 in
theorem as_told (tgt:Value) (a t:Addr) (old:Value) (k:Int) (w:World) (ha:w.cell? a=some (.pointer (some t))) (ht:w.cell? t=some old) (hf:w.frozen? t=false) (e:Value) (hc:ToldAt w k e) (ha1:a.block<w.heap.size) (ht1:t.block<w.heap.size) :
  Calls Tryz.prog 85 #[e,tgt,.agg #[.pointer (some ⟨5,111,none⟩),.pointer (some a),.int .u64 150],.iface 199 (.agg #[.pointer (some ⟨5,109,none⟩)])] w fun ev w'=>ev=.returned (.bool true) ∧
   w'.cell? t=some (.int .i64 k)∧Below t.block w w':=by
 have h80:=@run_callFunc_extern Tryz.prog 111 _ ReflectliteType.typeOf Tryz.func111 (by kernel_rfl) (by kernel_rfl) (by kernel_rfl) (by kernel_rfl)
 have h127:=@run_callFunc_extern Tryz.prog 245 _ (ReflectliteType.relation "AssignableTo" ReflectliteType.assignableTo) Tryz.func245 (by kernel_rfl) (by kernel_rfl) (by kernel_rfl) (by kernel_rfl)
 have tP:=Tryz.typeOfP
 have tT:=Tryz.typeOfTo
 have mA:=Tryz.methodAssignableTo
 have mU:=Tryz.methodUnwrap
 have mT:=Tryz.methodUnwrapT
 have aP:=Tryz.assignableP
 have aT:=Tryz.assignableTo'
 have sA:=Tryz.assertAs
 have sU:=Tryz.assertUnwrap
 have sAT:=Tryz.assertAsT
 have sUT:=Tryz.assertUnwrapT
 have sUsT:=Tryz.assertUnwrapsT
 have hba:=(Below.refl w.heap.size w).alloc (Nat.le_refl _) (.cells #[.pointer (some ⟨5,111,none⟩),.pointer (some a),.int .u64 150] 155)
 have HBX:=hid (alloc_at w (.cells #[.pointer (some ⟨5,111,none⟩),.pointer (some a),.int .u64 150] 155))
 obtain ⟨w1,hw1⟩:∃w1,w1=w.alloc (.cells #[.pointer (some ⟨5,111,none⟩),.pointer (some a),.int .u64 150] 155):=⟨_,rfl⟩
 rw [←hw1] at hba HBX
 have HC:=hid (hc.keeps hba)
 have HA1:=hid ((hba.cell ha1).trans ha)
 have HT1:=hid ((hba.cell ht1).trans ht)
 have HF1:=hid ((hba.frozen ht1).trans hf)
 have hs1:w.heap.size<w1.heap.size:=cells_lt HBX.out
 have HW1:=hid hw1
 clear hc ha ht hf hw1
 go_enter Tryz.func85,Tryz.ntmps85
 go_wp2_with fail
 rw [←HW1.out]
 go_loopw [0] (fun e wr=>(ToldAt w1 k e∨Told w1 k e)∧wr=w1) (fun e _=>toldM e)
 case atStart=>exact ⟨.inl HC.out,rfl⟩
 case round =>
  obtain ⟨hcase,rfl⟩:=hrel
  rcases hcase with ⟨b,rfl,hblt,ev,hcell,htold⟩|⟨b2,te,ve,rfl,hh⟩
  ·have HTO:=hid htold
   obtain ⟨b2,te,ve,rfl,hh⟩:=htold
   clear hh
   go_wp2_with (go_at_call 238;refine (unwrap_any b _ _ hcell).mono ?_;rintro ev w2 ⟨rfl,rfl⟩)
   exact ⟨⟨.inr HTO.out,trivial⟩,by simp [toldM]⟩
  ·have HU:=hid (told_unwrap b2 k te ve wr hh)
   clear hh
   go_wp2_with fail
   refine HU.out.mono ?_
   rintro e w2 ⟨g,rfl,hg,hgh,hb2⟩
   have g0:w2.cell? ⟨g,0,none⟩=some (.iface 109 (.int .i64 k)):=by rw [cells_at hgh];rfl
   have hglt:=cells_lt hgh
   have HB2:=hid ((hb2.block _ (cells_lt HBX.out)).trans HBX.out)
   have q0:w2.cell? ⟨w.heap.size,0,none⟩=some (.pointer (some ⟨5,111,none⟩)):=by rw [cells_at HB2.out];rfl
   have q1:w2.cell? ⟨w.heap.size,1,none⟩=some (.pointer (some a)):=by rw [cells_at HB2.out];rfl
   have q2:w2.cell? ⟨w.heap.size,2,none⟩=some (.int .u64 150):=by rw [cells_at HB2.out];rfl
   have ha2:a.block<wr.heap.size:=by omega
   have ht2:t.block<wr.heap.size:=by omega
   have HH:=hid (as_hit tgt a t old k w2 ((hb2.cell ha2).trans HA1.out) ((hb2.cell ht2).trans HT1.out) ((hb2.frozen ht2).trans HF1.out) 0 _ .hit (by decide) (Nat.lt_of_lt_of_le ha2 hb2.size) (Nat.lt_of_lt_of_le ht2 hb2.size))
   have HT2:=hid ((hb2.cell ht2).trans HT1.out)
   have hb02:=hba.trans (hb2.mono hba.size)
   have hsz2:=hb2.size
   clear hgh
   go_wp2_with fail
   go_loopw [50] (fun u wq=>u=.int .i64 0∧wq=w2) (fun _ _=>0)
   case atStart=>exact ⟨rfl,rfl⟩
   case round =>
    obtain ⟨rfl,rfl⟩:=hrel
    go_wp2_with (go_at_call 85;refine HH.out.mono ?_;rintro ev w3 ⟨rfl,rfl⟩)
    go_ret
    have hb4:=((Below.refl wr.heap.size wr).alloc (Nat.le_refl _) (.cells #[.pointer (some ⟨5,111,none⟩),.pointer (some a),.int .u64 150] 155)).alloc (by simp) (.cells #[.int .i64 k] 109)
    refine ⟨rfl,World.cell?_setCell_same _ _ _ ((hb4.cell (by show t.block<wr.heap.size;omega)).trans HT2.out),?_⟩
    exact ((hb02.mono (by omega)).trans (hb4.mono (by omega))).setCell (Nat.le_refl _) _
set_option maxRecDepth 100000 in
set_option maxHeartbeats 4000000 in
theorem As_told (t:Addr) (old:Value) (k:Int) (w:World) (ht:w.cell? t=some old) (hf:w.frozen? t=false) (e:Value) (hc:ToldAt w k e) (ht1:t.block<w.heap.size) (hg:ErrType w) :
  Calls Tryz.prog 55 #[e,.iface 111 (.pointer (some t))] w fun ev w'=>ev=.returned (.bool true)∧w'.cell? t=some (.int .i64 k)∧Below t.block w w':=by
 have h68:=@run_callFunc_extern Tryz.prog 82 _ (fun args=>ReflectliteValue.unpack (args.getD 0 (.tuple #[]))) Tryz.func82 (by kernel_rfl) (by kernel_rfl) (by kernel_rfl) (by kernel_rfl)
 have h69:=@run_callFunc_extern Tryz.prog 83 _ (ReflectliteValue.methodAny (ReflectliteValue.valueError "reflectlite.Value.Type" 0) (fun t _ _ _=>ReflectliteType.toType t)) Tryz.func83 (by kernel_rfl) (by kernel_rfl) (by kernel_rfl) (by kernel_rfl)
 have h70:=@run_callFunc_extern Tryz.prog 84 _ (ReflectliteValue.method (ReflectliteValue.valueError "reflectlite.Value.IsNil" 0) ReflectliteValue.isNil) Tryz.func84 (by kernel_rfl) (by kernel_rfl) (by kernel_rfl) (by kernel_rfl)
 have h117:=@run_callFunc_extern Tryz.prog 233 _ (ReflectliteType.abiMethod fun t=>do pure (.int .u8 (←Rtype.kind t))) Tryz.func233 (by kernel_rfl) (by kernel_rfl) (by kernel_rfl) (by kernel_rfl)
 have h129:=@run_callFunc_extern Tryz.prog 247 _ (ReflectliteType.method ReflectliteType.elem) Tryz.func247 (by kernel_rfl) (by kernel_rfl) (by kernel_rfl) (by kernel_rfl)
 have h130:=@run_callFunc_extern Tryz.prog 248 _ (ReflectliteType.relation "Implements" ReflectliteType.implements_) Tryz.func248 (by kernel_rfl) (by kernel_rfl) (by kernel_rfl) (by kernel_rfl)
 have f6:=Tryz.valueOfT
 have f7:=Tryz.typeT
 have mK:=Tryz.methodKind
 have mE:=Tryz.methodElem
 have mI:=Tryz.methodImplements
 have kT:=Tryz.kindT
 have kE:=Tryz.kindE
 have eT:=Tryz.elemT
 have iE:=Tryz.implementsE
 have hc0:=hc
 obtain ⟨bb,rfl,_⟩:=hc0
 have hb1:=(Below.refl w.heap.size w).alloc (Nat.le_refl _) (.cells #[.pointer (some t)] 111)
 have hb2:=hb1.alloc (by simp) (.cells #[.pointer (some ⟨5,111,none⟩),.pointer (some ⟨w.heap.size,0,none⟩),.int .u64 150] 155)
 have n8:=Tryz.isNilT ⟨w.heap.size,0,none⟩ t ((w.alloc (.cells #[.pointer (some t)] 111)).alloc (.cells #[.pointer (some ⟨5,111,none⟩),.pointer (some ⟨w.heap.size,0,none⟩),.int .u64 150] 155)) (by simp)
 have hg2:=(hg.keeps hb2 (Nat.le_refl _)).1
 have HC:=hid (hc.keeps (hb2.mono (Nat.le_refl _)))
 have HH:=hid (as_told (.iface 111 (.pointer (some t))) ⟨w.heap.size,0,none⟩ t old k ((w.alloc (.cells #[.pointer (some t)] 111)).alloc (.cells #[.pointer (some ⟨5,111,none⟩),.pointer (some ⟨w.heap.size,0,none⟩),.int .u64 150] 155)) (by simp) ((hb2.cell ht1).trans ht) ((hb2.frozen ht1).trans hf) _ (hc.keeps hb2) (by simp;omega) (by simp;omega))
 clear hc
 go_enter Tryz.func55,Tryz.ntmps55
 go_wp2_with (go_at_call 85;refine HH.out.mono ?_;rintro ev w2 ⟨rfl,hcell2,hbel2⟩)
 go_ret
 exact ⟨rfl,hcell2,(hb2.mono (by omega)).trans hbel2⟩
set_option maxRecDepth 100000 in
theorem number_told (k:Int) (w:World) (e:Value) (hc:ToldAt w k e) (hg:ErrType w) :
  Calls Tryz.prog 36 #[e] w fun ev w'=>ev=.returned (.int .i64 k)∧Below w.heap.size w w':=by
 have hc0:=hc
 obtain ⟨bb,rfl,_⟩:=hc0
 have hb1:=(Below.refl w.heap.size w).alloc (Nat.le_refl _) (.cells #[.int .i64 0] 109)
 have HH:=hid (As_told ⟨w.heap.size,0,none⟩ (.int .i64 0) k (w.alloc (.cells #[.int .i64 0] 109)) (by simp) (by simp) _ (hc.keeps hb1) (by simp) (hg.keeps hb1 (Nat.le_refl _)))
 clear hc hg
 go_enter Tryz.func36,Tryz.ntmps36
 go_wp2_with (go_at_call 55;refine HH.out.mono ?_;rintro ev w2 ⟨rfl,hcell,hb2⟩)
 go_ret
 exact ⟨rfl,hb1.trans (by simpa using hb2)⟩
end Go.Proofs.YtcegdgmbponapabGreatDoor
namespace Go.Proofs.YtcegdgmbponapabGreatDoor
open Go.RowKit
attribute [local go_sem ↓] Go.wp_at_zero Go.wp_at_succ
structure VBank (w:World) (base V key n B bc:Nat) (sp:Nat→Nat) (s:Sta):Prop where
 vp:Vp w V key n B bc sp s.p
 n1:1≤n
 n8:n≤8
 st:∀i,i<n→Sto w (sp i) (s.dn i) (s.vs i) (s.rss i)
 si:∀i j,i<n→j<n→i≠j→sp i≠sp j
 vi:∀i j,i<n→j<n→i≠j→∀b,(s.vs i).ownBlock=some b→(s.vs j).ownBlock≠some b
 G:Glob w base
 bV:base≤V
 bB:base≤B
 bsp:∀i,i<n→base≤sp i
 bv:∀i,i<n→∀b,(s.vs i).ownBlock=some b→base≤b
 ok:∀i,i<n→∀r∈s.rss i,RecGood w base n s.X r
 ap:Asunder n s.rss
section
variable {w w':World} {base V key n B bc:Nat} {sp:Nat→Nat} {s:Sta}
theorem VBank.bank (h:VBank w base V key n B bc sp s) {C:Nat} (hc:Cf w C V) (hC:base≤C) (hk:key<18446744073709551616):Bank w ⟨base,C,V,key,n,B,bc,sp⟩ s :=
 ⟨hc,h.vp,h.n1,h.n8,hk,h.st,h.si,h.vi,h.G,hC,h.bV,h.bB,h.bsp,h.bv,h.ok,h.ap⟩
theorem VBank.small (h:VBank w base V key n B bc sp s):Small n s.rss:=fun i hi r hr=>⟨by have:=(h.ok i hi r hr).e;omega,by have:=(h.ok i hi r hr).n12;omega⟩
theorem VBank.so (h:VBank w base V key n B bc sp s) (i:Nat) (hi:i<n):Sorted (s.rss i):=(h.st i hi).so
theorem VBank.below (h:VBank w base V key n B bc sp s) (hb:Below w.heap.size w w'):VBank w' base V key n B bc sp s:=by
 have hs:=Spared.ofBelow (own:=fun _=>False) hb (Nat.le_refl _)
 exact ⟨h.vp.keeps hs (fun h=>h) (fun h=>h),h.n1,h.n8,fun i hi=>(h.st i hi).keeps hs (fun h=>h) (fun _ _ h=>h),h.si,h.vi,h.G.below hb,h.bV,h.bB,h.bsp,h.bv,fun i hi r hr=>(h.ok i hi r hr).keeps hs (fun _ _ h=>h) (fun _ _=>rfl),h.ap⟩
theorem VBank.not_own (h:VBank w base V key n B bc sp s) {b:Nat} {cs:Array Value} {fz:Nat × Nat} (hb:w.heap[b]?=some (.cells cs 5 fz)):b≠V∧¬moveOwn n sp s.vs b:=by
 refine ⟨fun e=>?_,?_⟩
 ·rw [e,h.vp.hp] at hb;cases hb
 ·rintro ⟨i,hi,e | e⟩
  ·rw [e,(h.st i hi).hp] at hb;cases hb
  ·exact row_nf (h.st i hi).row hb (by decide) e
theorem VBank.settle (h:VBank w base V key n B bc sp s) (hp:s.p.crashes=false) :
  Calls Tryz.prog 52 #[.pointer (some ⟨V,0,none⟩)] w fun e w' =>
   (cutOf n s.rss=none∧(∃ev,e=.returned ev∧Chain w' 12 1 ev)∧Below w.heap.size w w') ∨
   (e=.returned .nilIface∧(∃o,cutOf n s.rss=some o)∧∃s' k,VBank w' base V key n B bc sp s'∧Even n s'.rss∧s'.dn=s.dn∧s'.X=s.X∧s'.p=s.p.ticks k∧(∀i,i<n→s'.rss i=settleL (cutOf n s.rss) (s.rss i))∧Spared (fun b=>base≤b) w w'):=by
 refine (settle_gen base V key n B bc sp s.dn s.vs s.rss s.p w h.vp h.n1 h.n8 h.st h.small h.si h.vi h.G h.bV h.bsp h.bv).mono ?_
 rintro e w' (⟨h0,h1,h2⟩|⟨f,h0,rfl,hb⟩|⟨f,c',t,h0,hc,⟨⟨_,_,hend⟩,us,hm⟩,hsp⟩)
 ·exact .inl ⟨h0,h1,h2⟩
 ·refine .inr ⟨rfl,⟨_,h0⟩,s,0,h.below hb,cut_even h.n1 h.so h.small h0,rfl,rfl,rfl,fun i _=>?_,Spared.ofBelow hb (Nat.le_refl _)⟩
  rw [h0]
  rfl
 ·have hown:∀b,(b=V∨moveOwn n sp s.vs b)→base≤b:=by
   rintro b (e | ⟨i,hi,e | e⟩)
   ·rw [e];exact h.bV
   ·rw [e];exact h.bsp i hi
   ·exact h.bv i hi b e
  rcases hend with ⟨rfl,rfl,hvp⟩|⟨_,hh,_⟩
  ·have hsm:Small t (fun i=>settled c' ⟨f.toArray⟩ (s.rss i)):=fun i hi r hr=>by
    have hg:=RecGood.settled (h.so i hi) (h.ok i hi) _ r hr
    exact ⟨by have:=hg.e;omega,by have:=hg.n12;omega⟩
   refine .inr ⟨rfl,⟨_,h0⟩,⟨s.dn,us,fun i=>settled c' ⟨f.toArray⟩ (s.rss i),s.p.ticks t,s.X⟩,t,?_,settled_even h.n1 h.so h0 hc hsm,rfl,rfl,rfl,fun i _=>?_,hsp.mono hown⟩
   ·refine ⟨hvp,h.n1,h.n8,fun i hi=>?_,h.si,hm.dis,h.G.spared hsp hown,h.bV,h.bB,h.bsp,fun i hi b hb=>?_,fun i hi r hr=>?_,h.ap.settled h.so _⟩
    ·have:=hm.st i hi
     rw [if_pos hi] at this
     exact this
    ·rcases hm.blk i hi with e | ⟨b',e,hge⟩
     ·exact h.bv i hi b (by rw [←e];exact hb)
     ·rw [show (us i).ownBlock=some b from hb] at e
      cases e
      exact Nat.le_trans h.G.bs hge
    ·refine RecGood.settled (h.so i hi) (fun q hq=>?_) _ r hr
     have hg:=h.ok i hi q hq
     refine hg.keeps hsp (fun b hb e=>?_) (fun _ _=>rfl)
     obtain ⟨_,cs,fz,hcs⟩:=hg.at hb
     obtain ⟨a1,a2⟩:=h.not_own hcs
     exact e.elim a1 a2
   ·rw [h0]
    show settled c' ⟨f.toArray⟩ (s.rss i)=if c'=5 then s.rss i else settled c' ⟨f.toArray⟩ (s.rss i)
    rw [if_neg (by omega)]
  ·rw [Pen.free s.p hp t] at hh
   cases hh
theorem VBank.fresh (h:VBank w base V key n B bc sp s):VBank (penNew w V 0) base V key n B bc sp ⟨s.dn,s.vs,s.rss,⟨0,false,0,false⟩,s.X⟩:=by
 have hsp:=penNew_spared w V 0
 obtain ⟨Lb,hL,hLi⟩:=h.vp.hb
 have hBV:B≠V:=fun e=>by rw [e,h.vp.hp] at hL;cases hL
 refine ⟨?_,h.n1,h.n8,fun i hi=>(h.st i hi).keeps hsp (fun e=>?_) (fun b hb e=>?_),h.si,h.vi,h.G.spared hsp (fun b e=>by rw [e];exact h.bV),h.bV,h.bB,h.bsp,h.bv,fun i hi r hr=>?_,h.ap⟩
 ·have h1:=h.vp.hp
  refine ⟨?_,Lb,hsp.heap hL hBV,hLi⟩
  unfold penNew
  rw [cells_set _ (cells_set _ (cells_set _ (cells_set _ h1)))]
  rfl
 ·have:=(h.st i hi).hp;rw [e,h.vp.hp] at this;cases this
 ·subst e;exact row_ne (h.st i hi).row h.vp.hp (by decide) hb
 ·have hg:=h.ok i hi r hr
  refine hg.keeps hsp (fun b hb e=>?_) (fun _ _=>rfl)
  obtain ⟨_,cs,fz,hcs⟩:=hg.at hb
  exact (h.not_own hcs).1 e
end
def Imaged (imgs:List ByteArray) (rss:Nat→List RecV) (X:Nat→List UInt8):Prop :=
 ∃rss0:Nat→List RecV,(∀i,i<imgs.length→Parses imgs.length i 10 (imgs[i]!) ⟨#[]⟩ ((rss0 i).map (RecV.ct X)))∧(∃o,cutOf imgs.length rss0=some o)∧∀i,i<imgs.length→rss i=settleL (cutOf imgs.length rss0) (rss0 i)
def Unread (imgs:List ByteArray):Prop :=
 imgs.length<1∨8<imgs.length∨(∃i,i<imgs.length∧∀L,¬Parses imgs.length i 10 (imgs[i]!) ⟨#[]⟩ L)∨∃(rss0:Nat→List RecV) (X:Nat→List UInt8),(∀i,i<imgs.length→Parses imgs.length i 10 (imgs[i]!) ⟨#[]⟩ ((rss0 i).map (RecV.ct X)))∧cutOf imgs.length rss0=none
set_option maxRecDepth 100000 in
set_option maxHeartbeats 4000000 in
theorem vreopen_any (imgs:List ByteArray) (a:Option Addr) (m c key:Nat) (w:World) (hm:m=imgs.length) (hml:m≤maxLen) (hrd:Rd w a (imgs.map .string)) (hsz:∀i,i<m→(imgs[i]!).size≤9223372036854775807) (hT:Tab w) (hE:ErrType w) :
  Calls Tryz.prog 35 #[.slice a m c,.int .u64 key] w fun e w' =>
   (∃ev,e=.returned (.tuple #[.pointer none,ev])∧ToldAt w' 15 ev∧Unread imgs∧Below w.heap.size w w') ∨
   (∃V B sp vs rss X,e=.returned (.tuple #[.pointer (some ⟨V,0,none⟩),.nilIface])∧VBank w' w.heap.size V key m B m sp ⟨fun _=>false,vs,rss,⟨0,false,0,false⟩,X⟩∧Even m rss∧Imaged imgs rss X∧Below w.heap.size w w'):=by
 have HST:=hid (storesOf_any imgs a m c w hm hml hrd hsz hT)
 have HT:=hid hT
 have HE:=hid hE
 have HM:=hid hm
 clear hrd hsz hT hE hm
 go_enter Tryz.func35,Tryz.ntmps35
 go_wp2_with fail
 refine HST.out.mono ?_
 rintro e w1 (⟨h1,h8,B,sp,vs,rss,X,rfl,hB,hmade,hb1⟩|⟨hno,ev,k,d,hd,rfl,hch,hb1⟩)
 ·rw [←HM.out] at h1 h8 hmade ⊢
  have HMD:=hid hmade
  have HB1:=hid hb1
  clear hmade
  have hal:=(Below.refl w1.heap.size w1).alloc (Nat.le_refl _) (.cells #[.int .u64 key,.slice (some ⟨B,0,none⟩) m m,.int .i64 0,.bool false,.int .i64 0,.bool false] 96)
  have HV2:=alloc_at w1 (.cells #[.int .u64 key,.slice (some ⟨B,0,none⟩) m m,.int .i64 0,.bool false,.int .i64 0,.bool false] 96)
  have hb02:Below w.heap.size w (w1.alloc (.cells #[.int .u64 key,.slice (some ⟨B,0,none⟩) m m,.int .i64 0,.bool false,.int .i64 0,.bool false] 96)):=hb1.trans (hal.mono hb1.size)
  have hvb:VBank (w1.alloc (.cells #[.int .u64 key,.slice (some ⟨B,0,none⟩) m m,.int .i64 0,.bool false,.int .i64 0,.bool false] 96)) w.heap.size w1.heap.size key m B m sp ⟨fun _=>false,vs,rss,⟨0,false,0,false⟩,X⟩:=by
   have hmd:=HMD.out.below hal
   obtain ⟨P,hP,_,hPi⟩:=hmd.row
   exact ⟨⟨HV2,P,hP,hPi⟩,h1,h8,hmd.st,hmd.si,hmd.vi,⟨HT.out.keeps hb02 (Nat.le_refl _),HE.out.keeps hb02 (Nat.le_refl _),HT.out.2,HE.out.2,hb02.size⟩,hb1.size,hB,hmd.bsp,hmd.bv,hmd.ok,hmd.ap⟩
  have HPA:=hid (show ∀i,i<m→Parses m i 10 (imgs[i]!) ⟨#[]⟩ ((rss i).map (RecV.ct X)) from HMD.out.pa)
  have HSE:=hid (hvb.settle rfl)
  have HB02:=hid hb02
  clear hvb HV2 hal hb02 HMD HST h1 h8
  go_wp2_with fail
  generalize w1.alloc (.cells #[.int .u64 key,.slice (some ⟨B,0,none⟩) m m,.int .i64 0,.bool false,.int .i64 0,.bool false] 96)=w2 at *
  refine HSE.out.mono ?_
  rintro e w3 (⟨hcut,⟨ev,rfl,hch⟩,hb3⟩|⟨rfl,hcut,s',k,hvb',hev,hdn,hX,hp,hrs,hsp⟩)
  ·have hch0:=hch
   obtain ⟨te,ve,rfl⟩:=hch0.shape
   have HB03:=hid (HB02.out.trans (hb3.mono HB02.out.size))
   have HUN:=hid (show Unread imgs from .inr (.inr (.inr ⟨rss,X,by rw [←HM.out];exact HPA.out,by rw [←HM.out];exact hcut⟩)))
   clear hch hch0 hcut HSE
   go_wp2_with (first | (go_at_call 54;refine (as_any 15 te ve _).mono ?_;rintro e w4 ⟨e4,rfl,htold,hb4⟩;(have HTO:=hid htold);(obtain ⟨bq,tq,vq,rfl,_⟩:=htold))|(go_at_call 53;refine (at_told _ _ 15 _ HTO.out).mono ?_;rintro e w5 ⟨e5,rfl,htat,hb5⟩;(have HTA:=hid htat);clear htat))
   go_ret2
   exact .inl ⟨e5,rfl,HTA.out,HUN.out,HB03.out.trans ((hb4.mono HB03.out.size).trans (hb5.mono (Nat.le_trans HB03.out.size hb4.size)))⟩
  ·have HVB:=hid hvb'
   have HEV:=hid hev
   have HDN:=hid hdn
   have HXX:=hid hX
   have HRS:=hid hrs
   have HCUT:=hid hcut
   have HSP:=hid hsp
   obtain ⟨hVh,_⟩:=hvb'.vp
   have c2:w3.cell? ⟨w1.heap.size,2,none⟩=some (.int .i64 s'.p.done):=by rw [cells_at hVh];rfl
   have c3:w3.cell? ⟨w1.heap.size,3,none⟩=some (.bool s'.p.crashes):=by rw [cells_at hVh];rfl
   have c4:w3.cell? ⟨w1.heap.size,4,none⟩=some (.int .i64 s'.p.ahead):=by rw [cells_at hVh];rfl
   have c5:w3.cell? ⟨w1.heap.size,5,none⟩=some (.bool s'.p.crashed):=by rw [cells_at hVh];rfl
   have f2:w3.frozen? ⟨w1.heap.size,2,none⟩=false:=cells_fz hVh
   have f3:w3.frozen? ⟨w1.heap.size,3,none⟩=false:=cells_fz hVh
   have f4:w3.frozen? ⟨w1.heap.size,4,none⟩=false:=cells_fz hVh
   have f5:w3.frozen? ⟨w1.heap.size,5,none⟩=false:=cells_fz hVh
   have HW:=hid (show Below w.heap.size w (penNew w3 w1.heap.size 0) from HB02.out.trans ((hsp.below w.heap.size HB02.out.size (fun _ h=>h)).trans ((penNew_spared w3 w1.heap.size 0).below w.heap.size (by have h1:=hsp.size;have h2:=HB02.out.size;omega) (fun b e=>by have:=hb1.size;omega))))
   clear hVh hvb' hev hdn hX hrs hcut hsp hp HSE
   go_wp2_with fail
   go_ret2
   have hf:=HVB.out.fresh
   rw [HDN.out,HXX.out] at hf
   refine .inr ⟨w1.heap.size,B,sp,s'.vs,s'.rss,X,rfl,hf,HEV.out,⟨rss,?_,?_,?_⟩,HW.out⟩
   ·rw [←HM.out];exact HPA.out
   ·rw [←HM.out];exact HCUT.out
   ·rw [←HM.out];exact HRS.out
 ·have hch0:=hch
  obtain ⟨te,ve,rfl⟩:=hch0.shape
  have HUN:=hid (show Unread imgs from hno.imp id (fun h=>h.imp id .inl))
  clear hch hch0 hno
  go_wp2_with (first | (go_at_call 54;refine (as_any 15 te ve _).mono ?_;rintro e w3 ⟨e3,rfl,htold,hb3⟩;(have HTO:=hid htold);(obtain ⟨bq,tq,vq,rfl,_⟩:=htold))|(go_at_call 53;refine (at_told _ _ 15 _ HTO.out).mono ?_;rintro e w4 ⟨e4,rfl,htat,hb4⟩;(have HTA:=hid htat);clear htat))
  go_ret2
  have hal:=(Below.refl w1.heap.size w1).alloc (Nat.le_refl _) (.cells #[.int .u64 key,.slice none 0 0,.int .i64 0,.bool false,.int .i64 0,.bool false] 96)
  have hb02:=hb1.trans (hal.mono hb1.size)
  have hb03:=hb02.trans (hb3.mono hb02.size)
  exact .inl ⟨e4,rfl,HTA.out,HUN.out,hb03.trans (hb4.mono hb03.size)⟩
set_option maxRecDepth 100000 in
set_option maxHeartbeats 4000000 in
theorem creopen_any (imgs:List ByteArray) (a:Option Addr) (m c key:Nat) (w:World) (hm:m=imgs.length) (hml:m≤maxLen) (hrd:Rd w a (imgs.map .string)) (hsz:∀i,i<m→(imgs[i]!).size≤9223372036854775807) (hk:key<18446744073709551616) (hT:Tab w) (hE:ErrType w) :
  Calls Tryz.prog 10 #[.slice a m c,.int .u64 key] w fun e w' =>
   (e=.returned (.tuple #[.pointer none,.int .i64 15])∧Unread imgs∧Below w.heap.size w w') ∨
   (∃C V B sp vs rss X,e=.returned (.tuple #[.pointer (some ⟨C,0,none⟩),.int .i64 0])∧Bank w' ⟨w.heap.size,C,V,key,m,B,m,sp⟩ ⟨fun _=>false,vs,rss,⟨0,false,0,false⟩,X⟩∧Calm ⟨w.heap.size,C,V,key,m,B,m,sp⟩ ⟨fun _=>false,vs,rss,⟨0,false,0,false⟩,X⟩∧Imaged imgs rss X∧Below w.heap.size w w'):=by
 have HV:=hid (vreopen_any imgs a m c key w hm hml hrd hsz hT hE)
 have HE:=hid hE
 clear hrd hsz hT hE hm
 go_enter Tryz.func10,Tryz.ntmps10
 go_wp2_with fail
 refine HV.out.mono ?_
 rintro e w1 (⟨ev,rfl,htat,hun,hb1⟩|⟨V,B,sp,vs,rss,X,rfl,hvb,hev,himg,hb1⟩)
 ·have HNU:=hid (number_told 15 w1 ev htat (HE.out.keeps hb1 (Nat.le_refl _)))
  obtain ⟨b,rfl,_⟩:=htat
  have HUN:=hid hun
  clear HV hun
  go_wp2_with (go_at_call 36;refine HNU.out.mono ?_;rintro e w2 ⟨rfl,hb2⟩)
  go_ret2
  exact .inl ⟨rfl,HUN.out,hb1.trans (hb2.mono hb1.size)⟩
 ·have hal:=(Below.refl w1.heap.size w1).alloc (Nat.le_refl _) (.cells #[.pointer (some ⟨V,0,none⟩)] 59)
  have HBK:=hid ((hvb.below hal).bank (C:=w1.heap.size) (alloc_at w1 _) hb1.size hk)
  have HEV:=hid hev
  have HIM:=hid himg
  have HB:=hid (hb1.trans (hal.mono hb1.size))
  clear HV hvb hev himg hal
  go_wp2_with fail
  go_ret2
  exact .inr ⟨w1.heap.size,V,B,sp,vs,rss,X,rfl,HBK.out,⟨rfl,HEV.out⟩,HIM.out,HB.out⟩
def stepCells (ss:List StepV):List Value:=ss.flatMap fun s=>s.cells.toList
theorem stepCells_length (ss:List StepV):(stepCells ss).length=ss.length*10:=by
 induction ss with
 | nil=>rfl
 | cons s ss ih=>simp only [stepCells,List.flatMap_cons,List.length_append] at ih ⊢;rw [ih];simp [StepV.cells];omega
theorem stepCells_at (ss:List StepV) (k j:Nat) (hk:k<ss.length) (hj:j<10):(stepCells ss)[k*10+j]?=(ss[k]).cells.toList[j]?:=by
 induction ss generalizing k with
 | nil=>simp at hk
 | cons s ss ih =>
  cases k with
  | zero =>
   simp only [stepCells,List.flatMap_cons,List.getElem_cons_zero,Nat.zero_mul,Nat.zero_add]
   rw [List.getElem?_append_left (by simp [StepV.cells];exact hj)]
  | succ k =>
   have:=ih k (by simpa using hk)
   simp only [stepCells,List.flatMap_cons,List.getElem_cons_succ] at this ⊢
   rw [←this,List.getElem?_append_right (by simp [StepV.cells];omega),show (k+1)*10+j-s.cells.toList.length=k*10+j by simp [StepV.cells];omega]
theorem step_at {w:World} {b o:Nat} {ss:List StepV} (h:Rd w (some ⟨b,o,none⟩) (stepCells ss)) (k:Nat) (hk:k<ss.length) (s:StepV) (hs:s=ss[k]):b<w.heap.size ∧
  w.cell? ⟨b,o+k*10,none⟩=some (.int .i64 s.kind)∧w.cell? ⟨b,o+k*10+1,none⟩=some (.int .i64 s.a)∧w.cell? ⟨b,o+k*10+2,none⟩=some (.int .i64 s.b)∧w.cell? ⟨b,o+k*10+3,none⟩=some (.int .i64 s.c)∧w.cell? ⟨b,o+k*10+4,none⟩=some (.int .i64 s.d) ∧
  w.cell? ⟨b,o+k*10+5,none⟩=some (.string s.v)∧w.cell? ⟨b,o+k*10+6,none⟩=some (.string s.tp)∧w.cell? ⟨b,o+k*10+7,none⟩=some (.int .i64 s.m)∧w.cell? ⟨b,o+k*10+8,none⟩=some (.int .i64 s.t)∧w.cell? ⟨b,o+k*10+9,none⟩=some (.int .i64 s.l):=by
 subst hs
 have key:∀j (hj:j<10) v,(ss[k]).cells.toList[j]?=some v→b<w.heap.size∧w.cell? ⟨b,o+k*10+j,none⟩=some v:=fun j hj v hv=>by
  obtain ⟨b',o',e,hlt,hc⟩:=h (k*10+j) v ((stepCells_at ss k j hk hj).trans hv)
  cases e
  exact ⟨hlt,by rw [Nat.add_assoc];exact hc⟩
 exact ⟨(key 0 (by decide) _ rfl).1,(key 0 (by decide) _ rfl).2,(key 1 (by decide) _ rfl).2,(key 2 (by decide) _ rfl).2,(key 3 (by decide) _ rfl).2,(key 4 (by decide) _ rfl).2,(key 5 (by decide) _ rfl).2,(key 6 (by decide) _ rfl).2,(key 7 (by decide) _ rfl).2,(key 8 (by decide) _ rfl).2,(key 9 (by decide) _ rfl).2⟩
set_option maxRecDepth 100000 in
set_option maxHeartbeats 4000000 in
theorem anything_any (imgs:List ByteArray) (a:Option Addr) (m c key:Nat) (ss:List StepV) (sa:Option Addr) (q sc:Nat) (w:World) (hm:m=imgs.length) (hml:m≤maxLen) (hrd:Rd w a (imgs.map .string)) (hsz:∀i,i<m→(imgs[i]!).size≤9223372036854775807) (hk:key<18446744073709551616)
  (hq:q=ss.length) (hql:q≤maxLen) (hsr:Rd w sa (stepCells ss)) (hok:∀s∈ss,s.Ok) (hT:Tab w) (hE:ErrType w) :
  Calls Tryz.prog 13 #[.slice a m c,.int .u64 key,.slice sa q sc] w fun e w'=>e=.returned (.bool true)∧Below w.heap.size w w':=by
 have HRE:=hid (creopen_any imgs a m c key w hm hml hrd hsz hk hT hE)
 have HQ:=hid hq
 have HSR:=hid hsr
 have HOK:=hid hok
 unfold maxLen at hql
 clear hm hrd hsz hk hT hE hq hsr hok
 go_enter Tryz.func13,Tryz.ntmps13
 go_wp2_with fail
 refine HRE.out.mono ?_
 rintro e w1 (⟨rfl,_,hb1⟩|⟨C,V,B,sp,vs,rss,X,rfl,hbank,hcalm,himg,hb1⟩)
 ·clear HRE
  go_wp2_with fail
  go_ret
  exact ⟨rfl,hb1⟩
 ·have hm1:¬(m:Int)<1:=by have:=hbank.n1;simp at this;omega
  have hm8:¬(8:Int)<(m:Int):=by have:=hbank.n8;simp at this;omega
  have HBK:=hid hbank
  have HCA:=hid hcalm
  clear HRE hbank hcalm himg
  go_wp2_with fail
  go_loopw [9] (fun u wr=>∃(k:Nat) (s:Sta),u=.int .i64 k∧k≤q∧Bank wr ⟨w.heap.size,C,V,key,m,B,m,sp⟩ s∧(Calm ⟨w.heap.size,C,V,key,m,B,m,sp⟩ s∨Torn ⟨w.heap.size,C,V,key,m,B,m,sp⟩ s)∧Below w.heap.size w wr) (fun u _=>q-(intOf u).toNat)
  case atStart=>exact ⟨0,_,rfl,Nat.zero_le _,HBK.out,.inl HCA.out,hb1⟩
  case round =>
   obtain ⟨k,s,rfl,hkq,hbank,hst,hbr⟩:=hrel
   have HB:=hid hbank
   have HST:=hid hst
   by_cases hlt:k<q
   ·have hlt':(k:Int)<(q:Int):=by omega
    obtain ⟨b,o,rfl,hblt,_⟩:=HSR.out.pos (by rw [stepCells_length,←HQ.out];omega)
    obtain ⟨st,hste⟩:∃st,st=ss[k]'(by rw [←HQ.out];exact hlt):=⟨_,rfl⟩
    obtain ⟨_,k0,k1,k2,k3,k4,k5,k6,k7,k8,k9⟩:=step_at (HSR.out.below hbr (Nat.le_refl _)) k (by rw [←HQ.out];exact hlt) st hste
    have hsok:st.Ok:=by rw [hste];exact HOK.out _ (List.getElem_mem _)
    have HDO:=hid (do_any hbank hst st hsok)
    have HNA:=hid (fun w'=>name_any st.b w' hsok.b)
    unfold StepV.val at HDO
    have HK2:=hid (show ∀w',Below w.heap.size wr w'→w'.cell? ⟨b,o+k*10+2,none⟩=some (.int .i64 st.b) from fun w' hb=>(hb.cell hblt).trans k2)
    obtain ⟨xkind,xa,xb,xc,xd,xv,xtp,xm,xt,xl⟩:=st
    simp only at *
    clear hste hsok hbank hst
    go_wp2_with fail
    refine HDO.out.mono ?_
    rintro e w2 ⟨v,rfl,kk,s2,rfl,hb2,hdid,hsp⟩
    have hbel:Below w.heap.size wr w2:=HB.out.lower hsp
    clear hsp
    have HB2:=hid hb2
    have HC2:=hid (hdid.or HST.out)
    have q2:=HK2.out w2 hbel
    clear hb2 hdid k0 k1 k2 k3 k4 k5 k6 k7 k8 k9
    go_wp2_with (first | (go_at_call 28;refine (HNA.out w2).mono ?_;rintro e w3 ⟨rfl,hb3⟩;(have HB3:=hid (HB2.out.below hb3)))|(go_at_call 23;refine (HB3.out.get_any HC2.out (nameB xb)).mono ?_;rintro e w4 ⟨⟨gv,gk,rfl⟩,hb4⟩;(have HB4:=hid (HB3.out.below hb4))))
    go_roundw
    case rel=>exact ⟨k+1,s2,by go_num,hlt,HB4.out,HC2.out,hbr.trans (hbel.trans ((hb3.mono (by have h1:=hbr.size;have h2:=hbel.size;omega)).trans (hb4.mono (by have h1:=hbr.size;have h2:=hbel.size;have h3:=hb3.size;omega))))⟩
    case measure=>simp [intOf];omega
   ·have hkk:k=q:=by omega
    subst hkk
    clear hbank hst
    rcases HST.out with hc | ht
    ·have HOB:=hid (HB.out.objects_go hc.1)
     have hle:=(HB.out.st 0 HB.out.n1).le
     obtain ⟨ln,hln⟩:∃ln,ln=(s.rss 0).length:=⟨_,rfl⟩
     rw [←hln] at HOB hle
     have hle':(ln:Int)≤10:=by omega
     clear hc hln
     go_wp2_with fail
     refine HOB.out.mono ?_
     rintro e w3 ⟨ov,rfl,hown,hb3⟩
     obtain ⟨oa,oc,rfl,_⟩:=owns_rd_size hown
     clear hown HOB
     go_wp2_with fail
     go_ret
     exact ⟨rfl,hbr.trans (hb3.mono hbr.size)⟩
    ·have HOB:=hid (cobjects_crash C V wr HB.out.cf (by have:=HB.out.cell5;rw [ht.1] at this;exact this))
     clear ht
     go_wp2_with fail
     refine HOB.out.mono ?_
     rintro e w3 ⟨rfl,rfl⟩
     go_wp2_with fail
     go_ret
     exact ⟨rfl,hbr⟩
end Go.Proofs.YtcegdgmbponapabGreatDoor
namespace Go.Proofs.YtcegdgmbponapabGreatDoor
open Go.ChangeShapes Go.WideShapes Go.ChangeAt Go.RowKit Go.Joins
instance : Inhabited StepV:=⟨⟨0,0,0,0,0,ByteArray.empty,ByteArray.empty,0,0,0⟩⟩
theorem Tryz.cellsStep:Tryz.prog.cellsOf 31=10:=by kernel_rfl
set_option maxRecDepth 100000 in
set_option maxHeartbeats 1000000 in
theorem open_stepsArg {H:Type} {enc:TypeId × Value→H} {W:World} {base:Nat} {v:Value} {d:DataW H} {p:List MemPlace} (hv:Value.okWide Tryz.prog W .any base 23 v) (h:DataW.Trod enc Tryz.prog W 0 (fun _=>true) true 23 v d p) :
  ∃(a:Option Addr) (len cap:Nat) (ss:List StepV),v=.slice a len cap∧len=ss.length∧len≤maxLen∧Rd W a (stepCells ss)∧(∀s∈ss,s.Ok):=by
 obtain ⟨a0,len,cap,rfl⟩:=okWide_slice Tryz.underlying23 hv
 obtain ⟨fuel,hf⟩:=h
 rcases Deep.open_slice Tryz.underlying23 hf with ⟨hcs,hx⟩|⟨a,len',cap',m,n,D,Pl,hcs,_,hl,hmx,hm,hx,hall⟩
 ·simp [Value.cells] at hcs
  obtain ⟨rfl,rfl,rfl⟩:=hcs
  exact ⟨_,_,_,[],rfl,rfl,by unfold maxLen;omega,Rd.nil _ _,fun z hz=>by cases hz⟩
 ·simp [Value.cells] at hcs
  obtain ⟨rfl,rfl,rfl⟩:=hcs
  simp only [if_true] at hm
  have each:∀i,i<len→∃s:StepV,s.Ok∧∀j,j<10→W.cell? ((a.add (i*10)).add j)=s.cells.toList[j]?:=fun i hi=>by
   obtain ⟨cs',h1,h2⟩:=hall i (by omega)
   rw [Tryz.cellsStep] at h1
   obtain ⟨_,hlen,hcell⟩:=World.cells?_some h1
   obtain ⟨xs,k,hk,hxy,_,hxl,hfl⟩:=DataW.trod_struct Tryz.underlying31 h2
   match xs,hxl,cs',hlen with
   | [y0,y1,y2,y3,y4,y5,y6,y7],_,[v0,v1,v2,v3,v4,v5,v6,v7,v8,v9],_ =>
    have g0:=hfl 0 _ rfl
    have g1:=hfl 1 _ rfl
    have g2:=hfl 2 _ rfl
    have g3:=hfl 3 _ rfl
    have g4:=hfl 4 _ rfl
    have g5:=hfl 5 _ rfl
    have g6:=hfl 6 _ rfl
    have g7:=hfl 7 _ rfl
    simp [Tryz.cellsInt,Tryz.cellsText,Tryz.cellsPlan] at g0 g1 g2 g3 g4 g5 g6 g7
    obtain ⟨z0,e0,_,w0⟩:=DataW.trod_int Tryz.underlying3 g0
    obtain ⟨z1,e1,_,w1⟩:=DataW.trod_int Tryz.underlying3 g1
    obtain ⟨z2,e2,_,w2⟩:=DataW.trod_int Tryz.underlying3 g2
    obtain ⟨z3,e3,_,w3⟩:=DataW.trod_int Tryz.underlying3 g3
    obtain ⟨z4,e4,_,w4⟩:=DataW.trod_int Tryz.underlying3 g4
    obtain ⟨s5,e5,_,w5⟩:=DataW.trod_string Tryz.underlying9 g5
    obtain ⟨s6,e6,_,w6⟩:=DataW.trod_string Tryz.underlying9 g6
    obtain ⟨ys,n2,_,_,_,hyl,hyf⟩:=DataW.trod_struct Tryz.underlying29 g7
    have t0:=hyf 0 _ rfl
    have t1:=hyf 1 _ rfl
    have t2:=hyf 2 _ rfl
    obtain ⟨q0,hq0⟩:∃q0,ys[0]?=some q0:=⟨_,List.getElem?_eq_getElem (by rw [hyl];decide)⟩
    obtain ⟨q1,hq1⟩:∃q1,ys[1]?=some q1:=⟨_,List.getElem?_eq_getElem (by rw [hyl];decide)⟩
    obtain ⟨q2,hq2⟩:∃q2,ys[2]?=some q2:=⟨_,List.getElem?_eq_getElem (by rw [hyl];decide)⟩
    rw [hq0] at t0
    rw [hq1] at t1
    rw [hq2] at t2
    simp [Tryz.cellsInt] at t0 t1 t2
    obtain ⟨z7,e7,_,w7⟩:=DataW.trod_int Tryz.underlying3 t0
    obtain ⟨z8,e8,_,w8⟩:=DataW.trod_int Tryz.underlying3 t1
    obtain ⟨z9,e9,_,w9⟩:=DataW.trod_int Tryz.underlying3 t2
    simp at e0 e1 e2 e3 e4 e5 e6 e7 e8 e9
    subst e0 e1 e2 e3 e4 e5 e6 e7 e8 e9
    exact ⟨⟨z0,z1,z2,z3,z4,s5,s6,z7,z8,z9⟩,⟨i64_of_wf w0,i64_of_wf w1,i64_of_wf w2,i64_of_wf w3,i64_of_wf w4,w5,w6,i64_of_wf w7,i64_of_wf w8,i64_of_wf w9⟩,fun j hj=>hcell j hj⟩
  obtain ⟨f,hfs⟩:=Deep.choose_lt each
  refine ⟨_,_,_,(List.range len).map f,rfl,by simp,by omega,?_,fun s hs=>?_⟩
  ·intro k u hku
   have hkl:k<len*10:=by
    rcases Nat.lt_or_ge k (len*10) with h' | h'
    ·exact h'
    ·rw [List.getElem?_eq_none (by rw [stepCells_length];simpa using h')] at hku;simp at hku
   have hi:k / 10<len:=by omega
   have hj:k % 10<10:=Nat.mod_lt _ (by decide)
   have hc:=(hfs (k / 10) hi).2 (k % 10) hj
   have hat:=stepCells_at ((List.range len).map f) (k / 10) (k % 10) (by simpa using hi) hj
   rw [show k / 10*10+k % 10=k by omega,hku] at hat
   simp only [List.getElem_map,List.getElem_range] at hat
   rw [←hat,Deep.add_add,show k / 10*10+k % 10=k by omega] at hc
   obtain ⟨b,off,spot⟩:=a
   have hspot:spot=none:=by
    have h0:=(hfs 0 (by omega)).2 0 (by decide)
    rw [Deep.add_add] at h0
    have h0':W.cell? ((⟨b,off,spot⟩:Addr).add 0)=some (.int .i64 (f 0).kind):=h0
    simpa [Addr.add] using World.cell?_spot h0'
   subst hspot
   rw [add_at] at hc
   exact ⟨b,off,rfl,World.block_lt_of_cell? W _ hc,hc⟩
  ·obtain ⟨i,hi,rfl⟩:=List.mem_map.1 hs
   exact (hfs i (List.mem_range.1 hi)).1
end Go.Proofs.YtcegdgmbponapabGreatDoor