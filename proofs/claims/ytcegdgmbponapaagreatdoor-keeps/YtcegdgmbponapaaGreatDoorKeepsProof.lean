import Derived.Test.YtcegdgmbponapaaGreatDoorPart41
set_option maxRecDepth 100000
set_option maxHeartbeats 4000000
namespace Go.Proofs.YtcegdgmbponapaaGreatDoor
open Go.ChangeShapes Go.WideShapes Go.ChangeAt Go.RowKit Go.Joins
open Go.ChangeMaps (open_string shut_string)
theorem qgs (os:Os) (started:os.Started) (H:Type) (enc:TypeId × Value→H) :
  ReturnsInHanded {} Tryz.checked os 3 .any (fun w args=>(Rows.keepsSpec.pre enc Tryz.prog Tryz.f3 [] false w args∧laidMetH Tryz.prog Rows.keepsRow.laid w)∧sizedMet enc Tryz.prog Tryz.f3 (OpenSpec.ofChange Rows.keepsSpec) false w args)
   (Rows.keepsSpec.post enc Tryz.prog Tryz.f3 false true false false):=by
 refine returnsInHanded_of_change_and (C:=Tryz.checked) (X:=fun w _=>laidMetH Tryz.prog Rows.keepsRow.laid w) (fun _ _ _ hh h=>h.of_heap hh) own started (by kernel_rfl) Tryz.func3
  (ChangeSpec.witness_shaped (enc:=enc) (C:=Tryz.checked) (os:=os) (X:=fun w _=>laidMetH Tryz.prog Rows.keepsRow.laid w) false (World.doorLaid Tryz.prog 31 os) #[.int .i64 0,.int .u64 0,.slice none 0 0] 8 rfl (World.shaped_of_RefB (by kernel_rfl) (by kernel_rfl)) (by kernel_rfl) (by kernel_rfl) (by kernel_rfl) (door_met os _)) ?_
 intro W base args ds gs before hval0 hW _ hZ hX _
 have hval:∀(j:Nat) t v,Tryz.f3.params[j]?=some t→args[j]?=some v→Value.okWide Tryz.prog W .any base t v:=hval0
 have hW':=hW
 obtain ⟨p,q,hA0,hV,rfl,hfz,hnd⟩:=hW
 have hA:DataW.TrodAll enc Tryz.prog W 0 (fun _=>true) true Tryz.f3.params.toList args.toList ds p:=hA0
 rw [Tryz.params3] at hA hval
 obtain ⟨v0,vs0,d0,ds0,p0,q0,hargs,rfl,rfl,h0,r0⟩:=trodAll_cons hA
 obtain ⟨v1,vs1,d1,ds1,p1,q1,rfl,rfl,rfl,h1,r1⟩:=trodAll_cons r0
 obtain ⟨v2,vs2,d2,ds2,p2,q2,rfl,rfl,rfl,h2,r2⟩:=trodAll_cons r1
 obtain ⟨rfl,rfl,rfl⟩:=trodAll_nil r2
 obtain rfl:args=#[v0,v1,v2]:=by cases args;simp_all
 obtain ⟨rfl,rfl⟩:=trodVars_none hV
 obtain ⟨a0,rfl,rfl,rfl,w0⟩:=open_int Tryz.underlying3 (hval 0 3 v0 rfl rfl) h0
 obtain ⟨a1,rfl,rfl,rfl,w1⟩:=open_int Tryz.underlying22 (hval 1 22 v1 rfl rfl) h1
 clear hA0 hval0
 simp only [List.append_nil,List.nil_append] at hW'
 have hlt2:∀x∈p2,x.block<W.heap.size:=fun x hx=>by simpa using hW'.lt x (by simp [hx])
 have h2k:=h2
 obtain ⟨aS,nS,cS,ss,rfl,eS,hSr,hSk,hsl⟩:=qeA (hval 2 23 v2 rfl rfl) h2
 have hM:(4*nS+12)*24≤140737488355328:=by
  rcases Nat.eq_zero_or_pos nS with h | h
  ·omega
  ·obtain ⟨es,sp,rfl,hle⟩:=hsl h
   have hz1:(es.length+sp.length)*Tryz.prog.bytesOf 91≤reachBytes:=sized_slice hZ (j:=2) (t:=23) (e:=91) (by rw [Tryz.params3];rfl) rfl Tryz.underlying23
   rw [Tryz.bytesLStep] at hz1
   unfold reachBytes at hz1
   omega
 obtain ⟨key,rfl,hkey⟩:∃key:Nat,a1=(key:Int)∧key<18446744073709551616:=by
  have:=bounds_u64 w1
  exact ⟨a1.toNat,by omega,by omega⟩
 refine (qjp a0 key ss aS nS cS W (qby w0) hkey eS hM hSr hSk (qkO hX) (qgB hX)).mono fun e W' ⟨he,hg⟩=>?_
 subst he
 refine ⟨_,rfl,_,_,_,[],p2,[],hW',?_,?_,?_,hg.frame _,fun h=>by cases h⟩
 ·exact trodAll_cons_mk (shut_bool Tryz.underlying4 _) trodAll_mk0
 ·have hq:=trodAll_cons_mk (shut_int Tryz.underlying3 w0) (trodAll_cons_mk (shut_int Tryz.underlying22 w1) (trodAll_cons_mk (Below.trod Tryz.laidOut (by kernel_rfl) (of_decide_eq_true (by kernel_rfl)) h2k hg hlt2) trodAll_mk0))
  simp only [List.append_nil,List.nil_append] at hq
  exact hq
 ·rfl
theorem qi8:Rows.KeepsSaid :=
 OpenClaim.holds_of_wide 3 Tryz.f3 rfl rfl rfl rfl rfl rfl rfl ⟨rfl,rfl,rfl,rfl,rfl⟩ rfl rfl rfl rfl rfl qiz Tryz.func3 qfP qeF qfH
  (fun os started H enc _=>qgs os started H enc)
theorem qgQ (f:FuncId) (fn:Func) (hf:Tryz.pinned.checked.prog.funcNamed "coffer/cofferlaw.Keeps" = some f) (hfn:Tryz.pinned.checked.prog.funcs[f]?=some fn) :
  true=Tryz.pinned.checked.prog.looks []∧∀(j:Nat) t,fn.params[j]?=some t→Tryz.pinned.checked.prog.wantsStandIn t=false:=by
 obtain rfl:f=3:=Option.some.inj ((show Tryz.prog.funcNamed "coffer/cofferlaw.Keeps" = some 3 by kernel_rfl).symm.trans hf) |>.symm
 obtain rfl:fn=Tryz.f3:=(Option.some.inj (Tryz.func3.symm.trans hfn)).symm
 refine ⟨by kernel_rfl,fun j t ht=>?_⟩
 rw [Tryz.params3] at ht
 have hm:t=3∨t=22∨t=23:=by
  have:=Array.mem_of_getElem? ht
  simp at this
  rcases this with h | h | h<;>simp [h]
 rcases hm with rfl | rfl | rfl
 ·exact (show Tryz.prog.wantsStandIn 3=false by kernel_rfl)
 ·exact (show Tryz.prog.wantsStandIn 22=false by kernel_rfl)
 ·exact (show Tryz.prog.wantsStandIn 23=false by kernel_rfl)
theorem keeps_card:Rows.KeepsCardSaid :=
 Claim7.holds_tied_plain_at .later [] _ _ _ _ qi8 (fun _ h=>by cases h) (by kernel_rfl) (fun _ h=>by cases h) keeps_row_tie rfl ⟨rfl,rfl⟩ (by kernel_rfl) rfl qgQ (by kernel_rfl)
#print axioms keeps_card
end Go.Proofs.YtcegdgmbponapaaGreatDoor