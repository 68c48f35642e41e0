import Derived.Test.YtcegdgmbponapaaGreatDoorPart32
set_option maxRecDepth 100000
set_option maxHeartbeats 4000000
namespace Go.Proofs.YtcegdgmbponapaaGreatDoor
open Go.RowKit
attribute [local go_sem ↓] Go.wp_at_zero Go.wp_at_succ
theorem Tryz.infoBool:(Tryz.prog.info? 4).map (fun i=>(i.zero,i.size,i.bytes))=some (some (.bool false),1,1):=by kernel_rfl
def qbw (n:Int):Nat:=if n<1 then 1 else if 8<n then 8 else n.toNat
theorem qis (nr:Int) (key:Nat) (w:World) (hk:key<18446744073709551616) :
  Calls Tryz.prog 39 #[.int .i64 nr,.int .u64 key] w fun e w'=>∃P dv,e=.returned (.pointer (some ⟨P,0,none⟩))∧Wd w' P (qbw nr) key (fun _=>false) dv []∧w.heap.size≤P∧Below w.heap.size w w'∧∀b,dv.ownBlock=some b→w.heap.size≤b:=by
 obtain ⟨i0,hi,hz0,hz1,hz2⟩:=info_parts Tryz.infoBool
 have hn1:1≤qbw nr:=by unfold qbw;split<;>(try split)<;>omega
 have hn8:qbw nr≤8:=by unfold qbw;split<;>(try split)<;>omega
 obtain ⟨n,hn⟩:∃n,n=qbw nr:=⟨_,rfl⟩
 rw [←hn] at hn1 hn8 ⊢
 have fin:∀w1:World,w1.ownsRow w.heap.size 4 1 (.slice (some ⟨w.heap.size,0,none⟩) n n) n (madeCells (Value.bool false).cells (n*1)).toList→Below w.heap.size w w1→∃P dv,Ending.returned (.pointer (some ⟨w1.heap.size,0,none⟩))=.returned (.pointer (some ⟨P,0,none⟩))∧Wd (w1.alloc (.cells #[.int .i64 n,.int .u64 key,.slice (some ⟨w.heap.size,0,none⟩) n n,.slice none 0 0] 130)) P n key (fun _=>false) dv []∧w.heap.size≤P∧Below w.heap.size w (w1.alloc (.cells #[.int .i64 n,.int .u64 key,.slice (some ⟨w.heap.size,0,none⟩) n n,.slice none 0 0] 130))∧∀b,dv.ownBlock=some b→w.heap.size≤b:=fun w1 ho hb=>by
  refine ⟨w1.heap.size,.slice (some ⟨w.heap.size,0,none⟩) n n,rfl,⟨⟨_,alloc_at _ _,World.ownsRow_nil _ _ _ _⟩,?_,fun x hx=>(by cases hx),hn1,hn8,by decide,hk⟩,hb.size,hb.alloc hb.size _,fun b hb=>by cases hb;exact Nat.le_refl _⟩
  have e:bools (fun _=>false) n=List.replicate n (.bool false):=by
   unfold bools
   rw [List.map_const']
   simp
  have e2:(madeCells (Value.bool false).cells (n*1)).toList=List.replicate n (.bool false):=by
   rw [Nat.mul_one]
   show (madeCells #[Value.bool false] n).toList=_
   rw [toList_madeCells_one]
  rw [e2] at ho
  rw [e]
  exact qaf (ho.alloc _) (Nat.zero_le _)
 have FIN:=hid fin
 clear fin
 have HN:=hid hn
 have cases3:(nr<1∧n=1)∨(8<nr∧n=8)∨((1≤nr∧nr≤8)∧nr=(n:Int)):=by
  rw [hn];unfold qbw
  split
  ·exact .inl ⟨by assumption,rfl⟩
  ·split
   ·exact .inr (.inl ⟨by assumption,rfl⟩)
   ·exact .inr (.inr ⟨⟨by omega,by omega⟩,by omega⟩)
 clear hn hk
 rcases cases3 with ⟨h,rfl⟩|⟨h,rfl⟩|⟨⟨h1,h2⟩,rfl⟩
 ·go_enter Tryz.func39,Tryz.ntmps39
  go_wp2_with (first | (at_make;refine wpList_make_full _ rfl (.tmp 11) (.tmp 11) 127 rfl w.heap.size 4 i0 (.bool false) 1 Tryz.underlying127 hi hz0 hz1 .i64 .i64 _ _ 1 rfl rfl rfl rfl (by rw [hz2];omega) (by unfold maxLen;omega) nl ?_;intro w1 hown1 hgrow1;have hb1:=grown_below hgrow1;have HO1:=hid hown1;clear hown1 hgrow1)|fail)
  go_ret
  exact FIN.out _ HO1.out hb1
 ·go_enter Tryz.func39,Tryz.ntmps39
  go_wp2_with (first | (at_make;refine wpList_make_full _ rfl (.tmp 11) (.tmp 11) 127 rfl w.heap.size 4 i0 (.bool false) 1 Tryz.underlying127 hi hz0 hz1 .i64 .i64 _ _ 8 rfl rfl rfl rfl (by rw [hz2];omega) (by unfold maxLen;omega) nl ?_;intro w1 hown1 hgrow1;have hb1:=grown_below hgrow1;have HO1:=hid hown1;clear hown1 hgrow1)|fail)
  go_ret
  exact FIN.out _ HO1.out hb1
 ·go_enter Tryz.func39,Tryz.ntmps39
  go_wp2_with (first | (at_make;refine wpList_make_full _ rfl (.tmp 11) (.tmp 11) 127 rfl w.heap.size 4 i0 (.bool false) 1 Tryz.underlying127 hi hz0 hz1 .i64 .i64 _ _ n rfl rfl rfl rfl (by rw [hz2];omega) (by unfold maxLen;omega) nl ?_;intro w1 hown1 hgrow1;have hb1:=grown_below hgrow1;have HO1:=hid hown1;clear hown1 hgrow1)|fail)
  go_ret
  exact FIN.out _ HO1.out hb1
section
variable {w:World} {P n key:Nat} {dn:Nat→Bool} {dv:Value} {xs:List RObj}
def qja (dn:Nat→Bool) (i:Nat) (b:Bool):Nat→Bool:=fun j=>if j=i then b else dn j
theorem qj5 (dn:Nat→Bool) (n i:Nat) (b:Bool):(bools dn n).set i (.bool b)=bools (qja dn i b) n:=by
 apply List.ext_getElem?
 intro j
 rw [List.getElem?_set]
 by_cases hj:i=j
 ·subst hj
  by_cases hi:i<n
  ·rw [if_pos rfl,if_pos (by rw [qaU];exact hi),qcA _ _ _ hi]
   simp [qja]
  ·rw [if_pos rfl,if_neg (by rw [qaU];exact hi),List.getElem?_eq_none (by rw [qaU];omega)]
 ·rw [if_neg hj]
  by_cases hi:j<n
  ·rw [qcA _ _ _ hi,qcA _ _ _ hi]
   simp [qja,Ne.symm hj]
  ·rw [List.getElem?_eq_none (by rw [qaU];omega),List.getElem?_eq_none (by rw [qaU];omega)]
theorem Wd.up_bad (h:Wd w P n key dn dv xs) (i:Int) (up:Bool) (hi:i<0∨(n:Int)≤i) :
  Calls Tryz.prog 116 #[.pointer (some ⟨P,0,none⟩),.int .i64 i,.bool up] w fun e w'=>e=.returned (.int .i64 13)∧w'=w:=by
 obtain ⟨oa,oc,h1,hrd⟩:=h.hp
 have hn8:=h.n8
 have c0:w.cell? ⟨P,0,none⟩=some (.int .i64 n):=cq h1 rfl
 clear hrd h1 h
 by_cases hi0:i<0
 ·clear hi
  go_enter Tryz.func116,Tryz.ntmps116
  go_wp2_with fail
  go_ret
  exact ⟨rfl,rfl⟩
 ·have hi1:(n:Int)≤i:=by omega
  have hi2:(0:Int)≤i:=by omega
  clear hi
  go_enter Tryz.func116,Tryz.ntmps116
  go_wp2_with fail
  go_ret
  exact ⟨rfl,rfl⟩
theorem Wd.up_go (h:Wd w P n key dn dv xs) (i:Nat) (up:Bool) (hi:i<n) :
  Calls Tryz.prog 116 #[.pointer (some ⟨P,0,none⟩),.int .i64 i,.bool up] w fun e w'=>e=.returned (.int .i64 0)∧∃D,dv.ownBlock=some D∧Wd w' P n key (qja dn i (!up)) dv xs∧qaa (fun b=>b=D) w w':=by
 obtain ⟨ov,h1,hob⟩:=h.obj
 obtain ⟨D,c,hdv,_,_⟩:=h.down.form h.n1
 subst hdv
 have hn8:=h.n8
 have c0:w.cell? ⟨P,0,none⟩=some (.int .i64 n):=cq h1 rfl
 have c2:w.cell? ⟨P,2,none⟩=some (.slice (some ⟨D,0,none⟩) n c):=cq h1 rfl
 have hi1:(i:Int)<(n:Int):=by omega
 have hf:=h.down.frozenAt i
 have hc:=(h.down.cellAt i (by omega)).trans (qcA dn n i hi)
 have hsp:qaa (fun b=>b=D) w (w.setCell ⟨D,i,none⟩ (.bool (!up))):=qaa.setCell (own:=fun b=>b=D) (p:=⟨D,i,none⟩) sr rfl _
 have HW:=hid (show Wd (w.setCell ⟨D,i,none⟩ (.bool (!up))) P n key (qja dn i (!up)) (.slice (some ⟨D,0,none⟩) n c) xs from by
  have hst:=(h.down.stored i (.bool (!up))).1
  rw [qj5] at hst
  have hD:∃cs fz,w.heap[D]?=some (.cells cs 4 fz):=by
   rcases h.down.2 with ⟨h8,_⟩|⟨g,cap,cur,h8,_,h4,_⟩
   ·cases h8
   ·cases h8
    exact ⟨_,_,h4⟩
  obtain ⟨cs,fz,hD⟩:=hD
  have hne:∀{b:Nat} {cs':Array Value} {t:TypeId} {fz':Nat × Nat},w.heap[b]?=some (.cells cs' t fz')→t≠4→¬b=D:=fun hb ht e=>by
   rw [e,hD] at hb
   cases hb
   exact ht rfl
  have key1:∀{e:TypeId} {size m:Nat} {v:Value} {l:List Value},e≠4→w.ownsRow 0 e size v m l→(w.setCell ⟨D,i,none⟩ (.bool (!up))).ownsRow 0 e size v m l:=fun he ho=>qab ho hsp fun b hb=>by
   rcases ho.2 with ⟨h8,_⟩|⟨g,cap,cur,h8,_,h4,_⟩
   ·rw [h8] at hb;cases hb
   ·rw [h8] at hb
    cases hb
    exact hne h4 he
  exact ⟨⟨ov,hsp.heap h1 (hne h1 (by decide)),key1 (by decide) hob⟩,hst,fun x hx=>⟨(h.shs x hx).1,key1 (by decide) (h.shs x hx).2⟩,h.n1,h.n8,h.len,h.hk⟩)
 clear h h1 hob
 go_enter Tryz.func116,Tryz.ntmps116
 go_wp2_with fail
 go_ret
 exact ⟨rfl,D,rfl,HW.out,hsp⟩
theorem qaQ (l:List ByteArray) (i:Nat) (h:i<l.length):(l.map Value.string)[i]?=some (.string (l[i]!)):=by
 rw [List.getElem?_map,List.getElem?_eq_getElem h,getElem!_pos l i h]
 rfl
theorem Wd.shard_bad (h:Wd w P n key dn dv xs) (i:Int) (nm:ByteArray) (hi:i<0∨(n:Int)≤i) :
  Calls Tryz.prog 114 #[.pointer (some ⟨P,0,none⟩),.int .i64 i,.string nm] w fun e w'=>e=.returned (.tuple #[.string ⟨#[]⟩,.int .i64 13])∧w'=w:=by
 obtain ⟨oa,oc,h1,hrd⟩:=h.hp
 have hn8:=h.n8
 have c0:w.cell? ⟨P,0,none⟩=some (.int .i64 n):=cq h1 rfl
 clear hrd h1 h
 by_cases hi0:i<0
 ·clear hi
  go_enter Tryz.func114,Tryz.ntmps114
  go_wp2_with fail
  go_ret2
  exact ⟨rfl,rfl⟩
 ·have hi1:(n:Int)≤i:=by omega
  have hi2:(0:Int)≤i:=by omega
  clear hi
  go_enter Tryz.func114,Tryz.ntmps114
  go_wp2_with fail
  go_ret2
  exact ⟨rfl,rfl⟩
theorem Wd.shard_no (h:Wd w P n key dn dv xs) (i:Nat) (nm:ByteArray) (hi:i<n) (hno:∀j,j<xs.length→(xs[j]!).ob.name≠nm) :
  Calls Tryz.prog 114 #[.pointer (some ⟨P,0,none⟩),.int .i64 i,.string nm] w fun e w'=>e=.returned (.tuple #[.string ⟨#[]⟩,.int .i64 9])∧w'=w:=by
 have HF:=hid (h.find_any nm (-1) (fun _=>rfl) (fun k hk e _=>absurd e (hno k hk)))
 obtain ⟨oa,oc,h1,hrd⟩:=h.hp
 have hn8:=h.n8
 have c0:w.cell? ⟨P,0,none⟩=some (.int .i64 n):=cq h1 rfl
 have hi1:(i:Int)<(n:Int):=by omega
 clear hrd h1 h hno
 go_enter Tryz.func114,Tryz.ntmps114
 go_wp2_with fail
 refine HF.out.mono ?_
 rintro e w2 ⟨rfl,hw2⟩
 obtain rfl:=hw2.symm
 go_wp2_with fail
 go_ret2
 exact ⟨rfl,rfl⟩
theorem Wd.shard_yes (h:Wd w P n key dn dv xs) (i:Nat) (nm:ByteArray) (hi:i<n) (k:Nat) (hk:k<xs.length) (hnm:(xs[k]!).ob.name=nm) (hbef:∀j,j<xs.length→(xs[j]!).ob.name=nm→j=k) :
  Calls Tryz.prog 114 #[.pointer (some ⟨P,0,none⟩),.int .i64 i,.string nm] w fun e w'=>e=.returned (.tuple #[.string ((xs[k]!).sh[i]!),.int .i64 0])∧w'=w:=by
 have HF:=hid (h.find_any nm k (fun hno=>absurd hnm (hno k hk)) (fun j hj e _=>by rw [hbef j hj e]))
 obtain ⟨oa,oc,h1,hrd⟩:=h.hp
 have hn8:=h.n8
 have hl10:=h.len
 have c0:w.cell? ⟨P,0,none⟩=some (.int .i64 n):=cq h1 rfl
 have c3:w.cell? ⟨P,3,none⟩=some (.slice oa xs.length oc):=cq h1 rfl
 have hi1:(i:Int)<(n:Int):=by omega
 obtain ⟨b,o,rfl,hblt,_⟩:=hrd.pos (by rw [qar];omega)
 obtain ⟨_,_,_,_,_,_,_,k6⟩:=qbf hrd k hk (xs[k]!) (getElem!_pos xs k hk)
 have hmem:xs[k]! ∈ xs:=by rw [getElem!_pos xs k hk];exact List.getElem_mem _
 obtain ⟨hsl,hsr⟩:=h.sh _ hmem
 obtain ⟨b2,o2,hsa,hb2,hc2⟩:=hsr.pos (by rw [List.length_map];omega)
 have k7:=hc2 i _ (qaQ (xs[k]!).sh i (by omega))
 rw [hsa] at k6
 obtain ⟨m,hm⟩:∃m,m=xs.length:=⟨_,rfl⟩
 have hkm:(k:Int)<(m:Int):=by omega
 rw [←hm] at c3 hl10
 generalize (xs[k]!).sc=oc2 at *
 generalize (xs[k]!).sh[i]! = S at *
 clear hrd h1 h hbef hnm hmem hsl hsr hc2 hsa hm
 go_enter Tryz.func114,Tryz.ntmps114
 go_wp2_with fail
 refine HF.out.mono ?_
 rintro e w2 ⟨rfl,hw2⟩
 obtain rfl:=hw2.symm
 go_wp2_with fail
 go_ret2
 exact ⟨rfl,rfl⟩
end
def Gm (w:World) (G C n key:Nat) (wv:Value) (wr:Int) (ov:Value):Prop :=
 w.heap[G]?=some (.cells #[.pointer (some ⟨C,0,none⟩),.int .i64 n,.int .u64 key,wv,.int .i64 wr,.bool false,.int .i64 0,.bool false,.slice none 0 0,.slice none 0 0,ov] 87)
theorem Bank.writes_go {w:World} {L:Seat} {s:Sta} (h:Bank w L s) :
  Calls Tryz.prog 115 #[.pointer (some ⟨L.C,0,none⟩)] w fun e w'=>e=.returned (.int .i64 s.p.done)∧w'=w:=by
 have c0:w.cell? ⟨L.C,0,none⟩=some (.pointer (some ⟨L.V,0,none⟩)):=cq h.cf rfl
 have c2:w.cell? ⟨L.V,2,none⟩=some (.int .i64 s.p.done):=cq h.vp.hp rfl
 have HV:=hid (show Calls Tryz.prog 168 #[.pointer (some ⟨L.V,0,none⟩)] w fun e w'=>e=.returned (.int .i64 s.p.done)∧w'=w from by
  clear c0 h
  go_enter Tryz.func168,Tryz.ntmps168
  go_wp2_with fail
  go_ret
  exact ⟨rfl,rfl⟩)
 clear h c2
 go_enter Tryz.func115,Tryz.ntmps115
 go_wp2_with fail
 refine HV.out.mono ?_
 rintro e w2 ⟨rfl,hw2⟩
 obtain rfl:=hw2.symm
 go_wp2_with fail
 go_ret
 exact ⟨rfl,rfl⟩
theorem Gm.done_any {w:World} {L:Seat} {s:Sta} {G n key:Nat} {wv ov:Value} {wr:Int} (hg:Gm w G L.C n key wv wr ov) (h:Bank w L s) :
  Calls Tryz.prog 66 #[.pointer (some ⟨G,0,none⟩)] w fun e w'=>e=.returned (.int .i64 (wrap64 (s.p.done-wr)))∧Gm w' G L.C n key wv s.p.done ov∧qaa (fun b=>b=G) w w':=by
 have HW:=hid h.writes_go
 have g0:w.cell? ⟨G,0,none⟩=some (.pointer (some ⟨L.C,0,none⟩)):=cq hg rfl
 have g4:w.cell? ⟨G,4,none⟩=some (.int .i64 wr):=cq hg rfl
 have f4:w.frozen? ⟨G,4,none⟩=false:=qam hg
 have HG:=hid hg
 generalize L.C=C at *
 generalize s.p.done=d at *
 clear h hg
 go_enter Tryz.func66,Tryz.ntmps66
 go_wp2_with fail
 refine HW.out.mono ?_
 rintro e w2 ⟨rfl,hw2⟩
 obtain rfl:=hw2.symm
 go_wp2_with fail
 go_ret
 exact ⟨rfl,qan _ HG.out,qaa.setCell (own:=fun b=>b=G) (p:=⟨G,4,none⟩) sr rfl _⟩
theorem Tryz.infoPW:(Tryz.prog.info? 88).map (fun i=>(i.zero,i.size,i.bytes))=some (some (.pointer none),1,8):=by kernel_rfl
theorem qi3 (n:Int):min (max n 1) 8=(qbw n:Int):=by
 unfold qbw
 split
 ·omega
 ·split
  ·omega
  ·omega
def qbV (w:World) (n key:Nat) (e:Ending) (w':World):Prop:=∃(G:Nat) (L:Seat) (s:Sta) (P:Nat) (dv wv:Value),e=.returned (.pointer (some ⟨G,0,none⟩))∧Bank w' L s∧L.base=w.heap.size∧L.n=n∧L.key=key∧(∀i,s.rss i=[])∧(∀i,s.dn i=false)∧s.p=⟨0,false,0,false⟩ ∧
 Gm w' G L.C n key wv 0 (.slice none 0 0)∧w'.ownsRow w.heap.size 88 1 wv 1 [.pointer (some ⟨P,0,none⟩)]∧Wd w' P n key (fun _=>false) dv []∧w.heap.size≤P∧w.heap.size≤G∧Below w.heap.size w w'∧∀b,dv.ownBlock=some b→w.heap.size≤b
theorem qjK (nr:Int) (key:Nat) (w:World) (hnr:I64 nr) (hk:key<18446744073709551616) (hT:Tab w) (hE:qaJ w) :
  Calls Tryz.prog 10 #[.int .i64 nr,.int .u64 key] w fun e w'=>qbV w (qbw nr) key e w':=by
 have hn1:1≤qbw nr:=by unfold qbw;split<;>(try split)<;>omega
 have hn8:qbw nr≤8:=by unfold qbw;split<;>(try split)<;>omega
 obtain ⟨i0,hi,hz0,hz1,hz2⟩:=info_parts Tryz.infoPW
 have HOP:=hid (qfy nr (qbw nr) key w (qi3 nr) hn1 hn8 hk hT hE)
 have HBE:=hid (fun w'=>qis nr key w' hk)
 obtain ⟨n,hn⟩:∃n,n=qbw nr:=⟨_,rfl⟩
 rw [←hn] at HOP HBE hn1 hn8 ⊢
 have HN:=hid hn
 have cases3:(nr<1∧n=1)∨(8<nr∧n=8)∨((1≤nr∧nr≤8)∧nr=(n:Int)):=by
  rw [hn];unfold qbw
  split
  ·exact .inl ⟨by assumption,rfl⟩
  ·split
   ·exact .inr (.inl ⟨by assumption,rfl⟩)
   ·exact .inr (.inr ⟨⟨by omega,by omega⟩,by omega⟩)
 clear hn hT hE hk
 rcases cases3 with ⟨h,rfl⟩|⟨h,rfl⟩|⟨⟨h1,h2⟩,rfl⟩
 ·go_enter Tryz.func10,Tryz.ntmps10
  go_wp2_with fail
  refine HOP.out.mono ?_
  rintro e w1 ⟨L,s,rfl,hbank,hLb,hLn,hLk,hrs,hdn,hp,hb1⟩
  have HBK:=hid (show Bank w1 L s∧L.base=w.heap.size∧L.n=1∧L.key=key∧(∀i,s.rss i=[])∧(∀i,s.dn i=false)∧s.p=⟨0,false,0,false⟩ from ⟨hbank,hLb,hLn,hLk,hrs,hdn,hp⟩)
  clear hbank hLb hLn hLk hrs hdn hp HOP
  go_wp2_with fail
  obtain ⟨w2,hw2⟩:∃w2,w2=w1.alloc (.cells #[.pointer (some ⟨L.C,0,none⟩),.int .i64 1,.int .u64 key,.slice none 0 0,.int .i64 0,.bool false,.int .i64 0,.bool false,.slice none 0 0,.slice none 0 0,.slice none 0 0] 87):=⟨_,rfl⟩
  have hb12:Below w1.heap.size w1 w2:=by rw [hw2];exact (Below.refl _ _).alloc nl _
  have hG2:w2.heap[w1.heap.size]?=some (.cells #[.pointer (some ⟨L.C,0,none⟩),.int .i64 1,.int .u64 key,.slice none 0 0,.int .i64 0,.bool false,.int .i64 0,.bool false,.slice none 0 0,.slice none 0 0,.slice none 0 0] 87):=by rw [hw2];exact alloc_at _ _
  rw [←hw2]
  clear hw2
  refine (HBE.out w2).mono ?_
  rintro e w3 ⟨P,dv,rfl,hwd,hPg,hb23,hdvb⟩
  have HWD:=hid hwd
  have hG3:=(hb23.block w1.heap.size (cells_lt hG2)).trans hG2
  have HG3:=hid hG3
  have g3:w3.cell? ⟨w1.heap.size,3,none⟩=some (.slice none 0 0):=cq hG3 rfl
  have hb13:=hb12.trans (hb23.mono hb12.size)
  have hz13:=hb13.size
  have hG3l:=cells_lt hG3
  have hPl3:P<w3.heap.size:=by obtain ⟨_,_,h1,_⟩:=hwd.hp;exact cells_lt h1
  clear hwd hG2 hG3 HBE
  go_wp2_with (first | (at_builtin;refine wpList_append_lies _ rfl (.tmp 35) (.tmp 37) 81 rfl w3.heap.size 88 i0 (.pointer none) 1 8 Tryz.underlying81 hi hz0 hz1 hz2 rfl (by decide) (.slice none 0 0) 0 [] rfl (World.ownsRow_nil _ _ _ _) ⟨w3.heap.size,0,none⟩ 1 1 [.pointer (some ⟨P,0,none⟩)] rfl rfl (World.news_of_block (cs:=#[.pointer (some ⟨P,0,none⟩)]) (t:=88) (fr:=(0,0)) (heap_alloc_new w3 _)) (by simp [Value.oneCell']) (by decide) (by unfold maxLen;omega) (by omega) (by simp<;>omega) (w3.heap.size+1) (by simp) ?_;intro g4 c4 w4 hown4 hgrow4 hat4 _;have HO4:=hid hown4;have hb34:Below w3.heap.size w3 w4:=((Below.refl w3.heap.size w3).alloc nl _).grown hgrow4 (by simp<;>omega) (fun b hb=>by cases hb);have hG4:=(hb34.block w1.heap.size hG3l).trans HG3.out;have HG4:=hid hG4;have g43:w4.cell? ⟨w1.heap.size,3,none⟩=some (.slice none 0 0):=(cq hG4 rfl);have gf4:w4.frozen? ⟨w1.heap.size,3,none⟩=false:=qam hG4;clear hown4 hgrow4 hat4 hG4)|fail)
  go_ret
  obtain ⟨hbk,hLb,hLn,hLk,hrs,hdn,hp⟩:=HBK.out
  have hb14:Below w1.heap.size w1 w4:=hb13.trans (hb34.mono hb13.size)
  have hsG:qaa (fun b=>b=w1.heap.size) w4 (w4.setCell ⟨w1.heap.size,3,none⟩ (.slice (some ⟨g4,0,none⟩) 1 c4)):=qaa.setCell (own:=fun b=>b=w1.heap.size) (p:=⟨w1.heap.size,3,none⟩) sr rfl _
  have hbf:Below w1.heap.size w1 (w4.setCell ⟨w1.heap.size,3,none⟩ (.slice (some ⟨g4,0,none⟩) 1 c4)):=hb14.setCell nl _
  have ho4:w4.ownsRow w.heap.size 88 1 (.slice (some ⟨g4,0,none⟩) 1 c4) 1 [.pointer (some ⟨P,0,none⟩)]:=qaf HO4.out (Nat.le_trans hb1.size hz13)
  unfold qbV
  refine ⟨w1.heap.size,L,s,P,dv,.slice (some ⟨g4,0,none⟩) 1 c4,rfl,hbk.below hbf,hLb,hLn,hLk,hrs,hdn,hp,qan _ HG4.out,qab ho4 hsG (fun b hb e=>by rw [e] at hb;exact qaz ho4 HG4.out (by decide) hb),?_,Nat.le_trans hb1.size (Nat.le_trans hb12.size hPg),hb1.size,hb1.trans (hbf.mono hb1.size),fun b hb=>Nat.le_trans hb1.size (Nat.le_trans hb12.size (hdvb b hb))⟩
  exact (HWD.out.below hb34 nl).spared hsG (fun b cs t fz hb ht e=>by
   rw [e,HG4.out] at hb
   cases hb
   rcases ht with h | h | h | h<;>cases h)
 ·go_enter Tryz.func10,Tryz.ntmps10
  go_wp2_with fail
  refine HOP.out.mono ?_
  rintro e w1 ⟨L,s,rfl,hbank,hLb,hLn,hLk,hrs,hdn,hp,hb1⟩
  have HBK:=hid (show Bank w1 L s∧L.base=w.heap.size∧L.n=8∧L.key=key∧(∀i,s.rss i=[])∧(∀i,s.dn i=false)∧s.p=⟨0,false,0,false⟩ from ⟨hbank,hLb,hLn,hLk,hrs,hdn,hp⟩)
  clear hbank hLb hLn hLk hrs hdn hp HOP
  go_wp2_with fail
  obtain ⟨w2,hw2⟩:∃w2,w2=w1.alloc (.cells #[.pointer (some ⟨L.C,0,none⟩),.int .i64 8,.int .u64 key,.slice none 0 0,.int .i64 0,.bool false,.int .i64 0,.bool false,.slice none 0 0,.slice none 0 0,.slice none 0 0] 87):=⟨_,rfl⟩
  have hb12:Below w1.heap.size w1 w2:=by rw [hw2];exact (Below.refl _ _).alloc nl _
  have hG2:w2.heap[w1.heap.size]?=some (.cells #[.pointer (some ⟨L.C,0,none⟩),.int .i64 8,.int .u64 key,.slice none 0 0,.int .i64 0,.bool false,.int .i64 0,.bool false,.slice none 0 0,.slice none 0 0,.slice none 0 0] 87):=by rw [hw2];exact alloc_at _ _
  rw [←hw2]
  clear hw2
  refine (HBE.out w2).mono ?_
  rintro e w3 ⟨P,dv,rfl,hwd,hPg,hb23,hdvb⟩
  have HWD:=hid hwd
  have hG3:=(hb23.block w1.heap.size (cells_lt hG2)).trans hG2
  have HG3:=hid hG3
  have g3:w3.cell? ⟨w1.heap.size,3,none⟩=some (.slice none 0 0):=cq hG3 rfl
  have hb13:=hb12.trans (hb23.mono hb12.size)
  have hz13:=hb13.size
  have hG3l:=cells_lt hG3
  have hPl3:P<w3.heap.size:=by obtain ⟨_,_,h1,_⟩:=hwd.hp;exact cells_lt h1
  clear hwd hG2 hG3 HBE
  go_wp2_with (first | (at_builtin;refine wpList_append_lies _ rfl (.tmp 35) (.tmp 37) 81 rfl w3.heap.size 88 i0 (.pointer none) 1 8 Tryz.underlying81 hi hz0 hz1 hz2 rfl (by decide) (.slice none 0 0) 0 [] rfl (World.ownsRow_nil _ _ _ _) ⟨w3.heap.size,0,none⟩ 1 1 [.pointer (some ⟨P,0,none⟩)] rfl rfl (World.news_of_block (cs:=#[.pointer (some ⟨P,0,none⟩)]) (t:=88) (fr:=(0,0)) (heap_alloc_new w3 _)) (by simp [Value.oneCell']) (by decide) (by unfold maxLen;omega) (by omega) (by simp<;>omega) (w3.heap.size+1) (by simp) ?_;intro g4 c4 w4 hown4 hgrow4 hat4 _;have HO4:=hid hown4;have hb34:Below w3.heap.size w3 w4:=((Below.refl w3.heap.size w3).alloc nl _).grown hgrow4 (by simp<;>omega) (fun b hb=>by cases hb);have hG4:=(hb34.block w1.heap.size hG3l).trans HG3.out;have HG4:=hid hG4;have g43:w4.cell? ⟨w1.heap.size,3,none⟩=some (.slice none 0 0):=(cq hG4 rfl);have gf4:w4.frozen? ⟨w1.heap.size,3,none⟩=false:=qam hG4;clear hown4 hgrow4 hat4 hG4)|fail)
  go_ret
  obtain ⟨hbk,hLb,hLn,hLk,hrs,hdn,hp⟩:=HBK.out
  have hb14:Below w1.heap.size w1 w4:=hb13.trans (hb34.mono hb13.size)
  have hsG:qaa (fun b=>b=w1.heap.size) w4 (w4.setCell ⟨w1.heap.size,3,none⟩ (.slice (some ⟨g4,0,none⟩) 1 c4)):=qaa.setCell (own:=fun b=>b=w1.heap.size) (p:=⟨w1.heap.size,3,none⟩) sr rfl _
  have hbf:Below w1.heap.size w1 (w4.setCell ⟨w1.heap.size,3,none⟩ (.slice (some ⟨g4,0,none⟩) 1 c4)):=hb14.setCell nl _
  have ho4:w4.ownsRow w.heap.size 88 1 (.slice (some ⟨g4,0,none⟩) 1 c4) 1 [.pointer (some ⟨P,0,none⟩)]:=qaf HO4.out (Nat.le_trans hb1.size hz13)
  unfold qbV
  refine ⟨w1.heap.size,L,s,P,dv,.slice (some ⟨g4,0,none⟩) 1 c4,rfl,hbk.below hbf,hLb,hLn,hLk,hrs,hdn,hp,qan _ HG4.out,qab ho4 hsG (fun b hb e=>by rw [e] at hb;exact qaz ho4 HG4.out (by decide) hb),?_,Nat.le_trans hb1.size (Nat.le_trans hb12.size hPg),hb1.size,hb1.trans (hbf.mono hb1.size),fun b hb=>Nat.le_trans hb1.size (Nat.le_trans hb12.size (hdvb b hb))⟩
  exact (HWD.out.below hb34 nl).spared hsG (fun b cs t fz hb ht e=>by
   rw [e,HG4.out] at hb
   cases hb
   rcases ht with h | h | h | h<;>cases h)
 ·go_enter Tryz.func10,Tryz.ntmps10
  go_wp2_with fail
  refine HOP.out.mono ?_
  rintro e w1 ⟨L,s,rfl,hbank,hLb,hLn,hLk,hrs,hdn,hp,hb1⟩
  have HBK:=hid (show Bank w1 L s∧L.base=w.heap.size∧L.n=n∧L.key=key∧(∀i,s.rss i=[])∧(∀i,s.dn i=false)∧s.p=⟨0,false,0,false⟩ from ⟨hbank,hLb,hLn,hLk,hrs,hdn,hp⟩)
  clear hbank hLb hLn hLk hrs hdn hp HOP
  go_wp2_with fail
  obtain ⟨w2,hw2⟩:∃w2,w2=w1.alloc (.cells #[.pointer (some ⟨L.C,0,none⟩),.int .i64 n,.int .u64 key,.slice none 0 0,.int .i64 0,.bool false,.int .i64 0,.bool false,.slice none 0 0,.slice none 0 0,.slice none 0 0] 87):=⟨_,rfl⟩
  have hb12:Below w1.heap.size w1 w2:=by rw [hw2];exact (Below.refl _ _).alloc nl _
  have hG2:w2.heap[w1.heap.size]?=some (.cells #[.pointer (some ⟨L.C,0,none⟩),.int .i64 n,.int .u64 key,.slice none 0 0,.int .i64 0,.bool false,.int .i64 0,.bool false,.slice none 0 0,.slice none 0 0,.slice none 0 0] 87):=by rw [hw2];exact alloc_at _ _
  rw [←hw2]
  clear hw2
  refine (HBE.out w2).mono ?_
  rintro e w3 ⟨P,dv,rfl,hwd,hPg,hb23,hdvb⟩
  have HWD:=hid hwd
  have hG3:=(hb23.block w1.heap.size (cells_lt hG2)).trans hG2
  have HG3:=hid hG3
  have g3:w3.cell? ⟨w1.heap.size,3,none⟩=some (.slice none 0 0):=cq hG3 rfl
  have hb13:=hb12.trans (hb23.mono hb12.size)
  have hz13:=hb13.size
  have hG3l:=cells_lt hG3
  have hPl3:P<w3.heap.size:=by obtain ⟨_,_,h1,_⟩:=hwd.hp;exact cells_lt h1
  clear hwd hG2 hG3 HBE
  go_wp2_with (first | (at_builtin;refine wpList_append_lies _ rfl (.tmp 35) (.tmp 37) 81 rfl w3.heap.size 88 i0 (.pointer none) 1 8 Tryz.underlying81 hi hz0 hz1 hz2 rfl (by decide) (.slice none 0 0) 0 [] rfl (World.ownsRow_nil _ _ _ _) ⟨w3.heap.size,0,none⟩ 1 1 [.pointer (some ⟨P,0,none⟩)] rfl rfl (World.news_of_block (cs:=#[.pointer (some ⟨P,0,none⟩)]) (t:=88) (fr:=(0,0)) (heap_alloc_new w3 _)) (by simp [Value.oneCell']) (by decide) (by unfold maxLen;omega) (by omega) (by simp<;>omega) (w3.heap.size+1) (by simp) ?_;intro g4 c4 w4 hown4 hgrow4 hat4 _;have HO4:=hid hown4;have hb34:Below w3.heap.size w3 w4:=((Below.refl w3.heap.size w3).alloc nl _).grown hgrow4 (by simp<;>omega) (fun b hb=>by cases hb);have hG4:=(hb34.block w1.heap.size hG3l).trans HG3.out;have HG4:=hid hG4;have g43:w4.cell? ⟨w1.heap.size,3,none⟩=some (.slice none 0 0):=(cq hG4 rfl);have gf4:w4.frozen? ⟨w1.heap.size,3,none⟩=false:=qam hG4;clear hown4 hgrow4 hat4 hG4)|fail)
  go_ret
  obtain ⟨hbk,hLb,hLn,hLk,hrs,hdn,hp⟩:=HBK.out
  have hb14:Below w1.heap.size w1 w4:=hb13.trans (hb34.mono hb13.size)
  have hsG:qaa (fun b=>b=w1.heap.size) w4 (w4.setCell ⟨w1.heap.size,3,none⟩ (.slice (some ⟨g4,0,none⟩) 1 c4)):=qaa.setCell (own:=fun b=>b=w1.heap.size) (p:=⟨w1.heap.size,3,none⟩) sr rfl _
  have hbf:Below w1.heap.size w1 (w4.setCell ⟨w1.heap.size,3,none⟩ (.slice (some ⟨g4,0,none⟩) 1 c4)):=hb14.setCell nl _
  have ho4:w4.ownsRow w.heap.size 88 1 (.slice (some ⟨g4,0,none⟩) 1 c4) 1 [.pointer (some ⟨P,0,none⟩)]:=qaf HO4.out (Nat.le_trans hb1.size hz13)
  unfold qbV
  refine ⟨w1.heap.size,L,s,P,dv,.slice (some ⟨g4,0,none⟩) 1 c4,rfl,hbk.below hbf,hLb,hLn,hLk,hrs,hdn,hp,qan _ HG4.out,qab ho4 hsG (fun b hb e=>by rw [e] at hb;exact qaz ho4 HG4.out (by decide) hb),?_,Nat.le_trans hb1.size (Nat.le_trans hb12.size hPg),hb1.size,hb1.trans (hbf.mono hb1.size),fun b hb=>Nat.le_trans hb1.size (Nat.le_trans hb12.size (hdvb b hb))⟩
  exact (HWD.out.below hb34 nl).spared hsG (fun b cs t fz hb ht e=>by
   rw [e,HG4.out] at hb
   cases hb
   rcases ht with h | h | h | h<;>cases h)
section
variable {P:Program} {ops:Array Oper} {Q:Exit→Act→World→Prop}
structure RIO (slot:Nat→Nat) (R:Nat→Value→World→Prop) (fixed:List (Nat × Value)) (N m0:Nat) (O:Nat→Prop) (w0:World) (listed:Array Bool) (a:Act) (w:World):Prop where
 df:a.defers=[]
 sz:a.tmps.size=N
 sp:qaa O w0 w
 no:listed.getD m0 false=false→qaa (fun _=>False) w0 w
 fx:∀p∈fixed,a.tmps.getD p.1 undef=p.2
 rs:∀j,listed.getD j false=true→R j (a.tmps.getD (slot j) undef) w
def qeb (P:Program) (slot:Nat→Nat) (R:Nat→Value→World→Prop) (fixed:List (Nat × Value)) (m0:Nat) (O:Nat→Prop) (w0:World):Nat→List Oper→Prop
 | _,[]=>True
 | i,o :: rest=>(∀a w,qaa O w0 w→(i=m0→qaa (fun _=>False) w0 w)→(∀p∈fixed,a.tmps.getD p.1 undef=p.2)→(∀e∈o.after,R e.on (a.tmps.getD (slot e.on) undef) w)→qbc P o a w fun v w'=>(i≠m0→qaa (fun _=>False) w w')∧qaa O w w'∧R i v w')∧qeb P slot R fixed m0 O w0 (i+1) rest
theorem qeb.at {slot:Nat→Nat} {R:Nat→Value→World→Prop} {fixed:List (Nat × Value)} {m0:Nat} {O:Nat→Prop} {w0:World}:∀(l:List Oper) (k i:Nat) (o:Oper),qeb P slot R fixed m0 O w0 k l→l[i]?=some o →
  ∀a w,qaa O w0 w→(k+i=m0→qaa (fun _=>False) w0 w)→(∀p∈fixed,a.tmps.getD p.1 undef=p.2)→(∀e∈o.after,R e.on (a.tmps.getD (slot e.on) undef) w)→qbc P o a w fun v w'=>(k+i≠m0→qaa (fun _=>False) w w')∧qaa O w w'∧R (k+i) v w':=by
 intro l
 induction l with
 | nil=>intro k i o _ hi;simp at hi
 | cons x l ih =>
  intro k i o h hi
  cases i with
  | zero =>
   simp at hi
   subst hi
   exact h.1
  | succ i =>
   have:=ih (k+1) i o h.2 (by simpa using hi)
   rw [show k+(i+1)=k+1+i by omega]
   exact this
theorem qbA {id:Nat} {a:Act} {w:World} (hm:P.follows .mixedOrders=true) (slot:Nat→Nat) (R:Nat→Value→World→Prop) (O:Nat→Prop) (fixed:List (Nat × Value)) (N m m0:Nat) (keys:List Nat)
  (hok:qeU ops slot N m keys=true) (hle:qbX ops m=true) (hk:fixed.map Prod.fst=keys)
  (ha:a.defers=[]) (hN:a.tmps.size=N) (hfx:∀p∈fixed,a.tmps.getD p.1 undef=p.2)
  (hper:∀j v w w',R j v w→qaa (fun _=>False) w w'→R j v w') (hperO:∀j v w w',j≠m0→R j v w→qaa O w w'→R j v w')
  (hstep:qeb P slot R fixed m0 O { w with drawn:=w.drawn+1 } 0 (ops.toList.take m))
  (hlast:∀a w' o,ops[m]?=some o→a.defers=[]→a.tmps.size=N→qaa O { w with drawn:=w.drawn+1 } w'→(∀p∈fixed,a.tmps.getD p.1 undef=p.2)→(∀j,j<m→R j (a.tmps.getD (slot j) undef) w')→o.wp P a w' (fun a' w''=>Q .normal a' w'') Q) :
  (Code.region id ops true).wp P Q a w:=by
 unfold qeU at hok
 rw [Bool.and_eq_true] at hok
 obtain ⟨hsz,hok⟩:=hok
 have hsz:ops.size=m+1:=by simpa using hsz
 rw [List.all_eq_true] at hok
 have hops:∀(i:Nat) (o:Oper),i<m→ops[i]?=some o→o.dst=some (slot i)∧slot i<N∧o.guard=none∧(∀p∈fixed,p.1≠slot i)∧(∀e∈o.after,e.on<i∧Region.binds .any e=true)∧(∀j,j<m→slot i=slot j→i=j)∧∃k o',i<k∧k≤m∧ops[k]?=some o'∧∃e∈o'.after,e.on=i:=by
  intro i o hi ho
  have:=hok i (List.mem_range.2 hi)
  simp only [ho,Bool.and_eq_true,beq_iff_eq,decide_eq_true_eq,Option.isNone_iff_eq_none,List.all_eq_true,bne_iff_ne,ne_eq,Array.all_eq_true_iff_forall_mem,Bool.or_eq_true,List.mem_range,List.any_eq_true] at this
  obtain ⟨⟨⟨⟨⟨⟨h1,h2⟩,h3⟩,h4⟩,h5⟩,h6⟩,k,hk1,hk2,hk3⟩:=this
  refine ⟨h1,h2,h3,fun p hp=>h4 p.1 (by rw [←hk];exact List.mem_map_of_mem hp),h5,fun j hj he=>?_,k,?_⟩
  ·rcases h6 j hj with h | h
   ·exact absurd he h
   ·exact h
  ·cases hk4:ops[k]? with
   | none=>rw [hk4] at hk3;cases hk3
   | some o' =>
    rw [hk4] at hk3
    simp only [Array.any_eq_true',beq_iff_eq] at hk3
    exact ⟨o',hk2,by omega,rfl,hk3⟩
 obtain ⟨ol,hol⟩:∃ol,ops[m]?=some ol:=⟨ops[m],by simp [hsz]⟩
 unfold qbX at hle
 rw [hol] at hle
 simp only [Bool.and_eq_true,Option.isNone_iff_eq_none,Array.all_eq_true_iff_forall_mem,decide_eq_true_eq] at hle
 have hidx:∀i o,ops[i]?=some o→i<m∨i=m:=fun i o ho=>by have:=(Array.getElem?_eq_some_iff.1 ho).1;omega
 refine wp_region_any hm (qeI (fun listed a' w'=>(listed.getD m false=true∧(∀i,i<ops.size→listed.getD i false=true)∧Q .normal a' w')∨(listed.getD m false=false∧(∀(i:Nat) (o:Oper),ops[i]?=some o→listed.getD i false=true→∀e∈o.after,listed.getD e.on false=true)∧RIO slot (fun j v w'=>j<m→R j v w') fixed N m0 O { w with drawn:=w.drawn+1 } listed a' w')) ?_ ?_ ?_ ops.size _ _ _ (by simp) (by unfold todo;exact Nat.le_trans (List.countP_le_length ..) (by simp)) (.inr ⟨?_,?_,ha,hN,sr,fun _=>qaa.refl _ _,hfx,?_⟩))
 ·intro i o e ho he
  rcases hidx i o ho with hi | rfl
  ·exact ((hops i o hi ho).2.2.2.2.1 e he).1
  ·rw [hol] at ho;cases ho;exact (hle.2 e he).1
 ·intro listed a1 w1 i o hI hs ho hno hall
  rcases hI with ⟨_,h2,_⟩|⟨hm0,hcl,hI⟩
  ·rw [h2 i ((Array.getElem?_eq_some_iff.1 ho).1)] at hno;cases hno
  rcases hidx i o ho with hi | him
  ·obtain ⟨h1,h2,h3,h4,h5,h6,_⟩:=hops i o hi ho
   have hok:=hstep.at (P:=P) (ops.toList.take m) 0 i o (by rw [List.getElem?_take,if_pos hi];simpa using ho) a1 w1 hI.sp (fun e=>hI.no (by rw [←e,Nat.zero_add];exact hno)) hI.fx (fun e he=>hI.rs _ (hall e he (h5 e he).2) (by have:=(h5 e he).1;omega))
   rw [Nat.zero_add] at hok
   unfold wpOp
   simp only [ho,Region.wanted,h3,if_true]
   refine .inl (hok.wp fun v w'' hp=>.inr ⟨?_,?_,?_⟩)
   ·rw [getD_set_ne false (by omega)];exact hm0
   ·intro j oj hoj hj e he
    by_cases hji:i=j
    ·subst hji
     rw [ho] at hoj;cases hoj
     have:=(h5 e he).1
     rw [getD_set_ne false (by omega)]
     exact hall e he (h5 e he).2
    ·rw [getD_set_ne false hji] at hj
     have:=hcl j oj hoj hj e he
     by_cases hei:i=e.on
     ·rw [←hei];simp [show i<listed.size by omega]
     ·rw [getD_set_ne false hei];exact this
   ·rw [h1]
    refine ⟨hI.df,by simp [Act.put,hI.sz],hI.sp.trans hp.2.1,fun hn=>?_,fun p hp'=>?_,fun j hj hjm=>?_⟩
    ·by_cases him:i=m0
     ·subst him
      simp [show i<listed.size by omega] at hn
     ·rw [getD_set_ne false him] at hn
      exact (hI.no hn).trans (hp.1 him)
    ·have:=hI.fx p hp'
     simp only [Act.put]
     rw [←this]
     simp [Array.getElem?_setIfInBounds_ne (Ne.symm (h4 p hp'))]
    ·by_cases hji:i=j
     ·subst hji
      simp only [Act.put]
      have hz:slot i<a1.tmps.size:=by rw [hI.sz];exact h2
      simpa [hz] using hp.2.2
     ·rw [getD_set_ne false hji] at hj
      have hsl:slot i≠slot j:=fun e=>hji (h6 j hjm e)
      simp only [Act.put]
      have:R j (a1.tmps.getD (slot j) undef) w'':=by
       by_cases him:i=m0
       ·exact hperO j _ _ _ (fun e=>hji (him.trans e.symm)) (hI.rs j hj hjm) hp.2.1
       ·exact hper j _ _ _ (hI.rs j hj hjm) (hp.1 him)
      simpa [Array.getElem?_setIfInBounds_ne hsl] using this
  ·have him':m=i:=him.symm
   subst him'
   rw [hol] at ho;cases ho
   have hlisted:∀d j,j+d=m→j<m→listed.getD j false=true:=by
    intro d
    induction d using Nat.strongRecOn with
    | ind d ih =>
     intro j hd hj
     obtain ⟨oj,hoj⟩:∃oj,ops[j]?=some oj:=⟨ops[j],by simp [show j<ops.size by omega]⟩
     obtain ⟨k,ok,hk1,hk2,hk3,e,he,hej⟩:=(hops j oj hj hoj).2.2.2.2.2.2
     rw [←hej]
     rcases Nat.lt_or_ge k m with hkm | hkm
     ·exact hcl k ok hk3 (ih (m-k) (by omega) k (by omega) hkm) e he
     ·have:k=m:=by omega
      subst this
      rw [hol] at hk3;cases hk3
      exact hall e he (hle.2 e he).2
   unfold wpOp
   simp only [hol,Region.wanted,hle.1,if_true]
   refine .inl (Oper.wp_mono (fun a' w'' h=>?_) (hlast a1 w1 ol hol hI.df hI.sz hI.sp hI.fx (fun j hj=>hI.rs j (hlisted (m-j) j (by omega) hj) hj)))
   refine .inl ⟨by simp [show m<listed.size by omega],fun j hj=>?_,h⟩
   by_cases hji:m=j
   ·subst hji;simp [show m<listed.size by omega]
   ·rw [getD_set_ne false hji];exact hlisted (m-j) j (by omega) (by omega)
 ·intro listed a1 w1 hI hall
  rcases hI with ⟨_,_,h⟩|⟨h0,_⟩
  ·exact h
  ·rw [hall m (by omega)] at h0;cases h0
 ·simp [Array.getElem?_replicate];split<;>simp
 ·intro i o _ hi;simp [Array.getElem?_replicate] at hi;split at hi<;>simp at hi
 ·intro j hj;simp [Array.getElem?_replicate] at hj;split at hj<;>simp at hj
end
def cpA (X P D n c B:Nat) (dn:Nat→Bool):Nat→Value→World→Prop
 | 0,v,_=>v=.pointer (some ⟨X,0,none⟩)
 | 1,v,_=>v=.pointer (some ⟨X,0,none⟩)
 | 2,v,_=>v=.pointer (some ⟨X,0,none⟩)
 | 3,v,_=>v=.pointer (some ⟨X,2,none⟩)
 | 4,v,_=>v=.slice none 0 0
 | 5,v,_=>v=.pointer (some ⟨P,0,none⟩)
 | 6,v,_=>v=.pointer (some ⟨P,0,none⟩)
 | 7,v,_=>v=.pointer (some ⟨P,2,none⟩)
 | 8,v,_=>v=.slice (some ⟨D,0,none⟩) n c
 | 9,v,w=>w.ownsRow B 4 1 v n (bools dn n)
 | 10,v,_=>v=.pointer (some ⟨X,0,none⟩)
 | 11,v,_=>v=.pointer (some ⟨X,2,none⟩)
 | _,_,_=>False
theorem qgr (X P D n c B:Nat) (dn:Nat→Bool) (j:Nat) (v:Value) (w w':World) (h:cpA X P D n c B dn j v w) (hs:qaa (fun _=>False) w w'):cpA X P D n c B dn j v w':=by
 unfold cpA at h ⊢
 split at h<;>first | exact h | exact qab h hs (fun _ _ h=>h)
theorem qiP (dn:Nat→Bool) (n:Nat) (u:Value) (h:u∈bools dn n):u.oneCell'=true:=by
 simp only [bools,List.mem_map] at h
 obtain ⟨i,_,rfl⟩:=h
 rfl
def cpB (Y P ob oo m oc k sb so n sc B w0:Nat) (sh:List ByteArray):Nat→Value→World→Prop
 | 0,v,_=>v=.pointer (some ⟨Y,6,none⟩)
 | 1,v,_=>v=.slice none 0 0
 | 2,v,_=>v=.pointer (some ⟨P,0,none⟩)
 | 3,v,_=>v=.pointer (some ⟨P,0,none⟩)
 | 4,v,_=>v=.pointer (some ⟨P,3,none⟩)
 | 5,v,_=>v=.slice (some ⟨ob,oo,none⟩) m oc
 | 6,v,_=>v=.int .i64 k
 | 7,v,_=>v=.pointer (some ⟨ob,oo+k*7,none⟩)
 | 8,v,_=>v=.pointer (some ⟨ob,oo+k*7+6,none⟩)
 | 9,v,_=>v=.slice (some ⟨sb,so,none⟩) n sc
 | 10,v,w=>w.ownsRow B 9 1 v n (sh.map .string)∧∃g,v.ownBlock=some g∧w0≤g
 | 11,v,_=>v=.pointer (some ⟨Y,6,none⟩)
 | _,_,_=>False
theorem qfM (Y P ob oo m oc k sb so n sc B w0:Nat) (sh:List ByteArray) (j:Nat) (v:Value) (w w':World) (h:cpB Y P ob oo m oc k sb so n sc B w0 sh j v w) (hs:qaa (fun _=>False) w w'):cpB Y P ob oo m oc k sb so n sc B w0 sh j v w':=by
 unfold cpB at h ⊢
 split at h<;>first | exact h | exact ⟨qab h.1 hs (fun _ _ h=>h),h.2⟩
def cpC (X:Nat) (ov:Value) (cs:Array Value) (k B w0:Nat) (L:List Value):Nat→Value→World→Prop
 | 0,v,_=>v=.pointer (some ⟨X,0,none⟩)
 | 1,v,_=>v=.pointer (some ⟨X,0,none⟩)
 | 2,v,_=>v=.pointer (some ⟨X,0,none⟩)
 | 3,v,_=>v=.pointer (some ⟨X,3,none⟩)
 | 4,v,_=>v=ov
 | 5,v,_=>v=.agg cs
 | 6,v,w=>∃g,v=.slice (some ⟨g,0,none⟩) 1 1∧w.heap[g]?=some (.cells cs 198)∧w0≤g
 | 7,v,w=>w.ownsRow B 198 7 v (k+1) (L++cs.toList)∧(v.ownBlock=ov.ownBlock∨∃g,v.ownBlock=some g∧w0≤g)
 | 8,v,_=>v=.pointer (some ⟨X,0,none⟩)
 | 9,v,_=>v=.pointer (some ⟨X,3,none⟩)
 | _,_,_=>False
theorem qjd (X:Nat) (ov:Value) (cs:Array Value) (k B w0:Nat) (L:List Value) (j:Nat) (v:Value) (w w':World) (h:cpC X ov cs k B w0 L j v w) (hs:qaa (fun _=>False) w w'):cpC X ov cs k B w0 L j v w':=by
 unfold cpC at h ⊢
 split at h<;>first | exact h | exact ⟨qab h.1 hs (fun _ _ h=>h),h.2⟩|(obtain ⟨g,h1,h2,h3⟩:=h;exact ⟨g,h1,hs.heap h2 (fun h=>h),h3⟩)
theorem qix (X:Nat) (ov:Value) (cs:Array Value) (k B w0:Nat) (L:List Value) (hov:∀b,ov.ownBlock=some b→b<w0) (j:Nat) (v:Value) (w w':World) (hj:j≠7) (h:cpC X ov cs k B w0 L j v w) (hs:qaa (fun b=>ov.ownBlock=some b) w w'):cpC X ov cs k B w0 L j v w':=by
 unfold cpC at h ⊢
 split at h<;>first | exact h | exact absurd rfl hj | (obtain ⟨g,h1,h2,h3⟩:=h;exact ⟨g,h1,hs.heap h2 (fun h=>by have:=hov g h;omega),h3⟩)
theorem qhs (l:List ByteArray) (u:Value) (h:u∈l.map Value.string):u.oneCell'=true:=by
 simp only [List.mem_map] at h
 obtain ⟨i,_,rfl⟩:=h
 rfl
theorem qaa.cell {own:Nat→Prop} {w w':World} (h:qaa own w w') {a:Addr} (hb:a.block<w.heap.size) (ho:¬own a.block):w'.cell? a=w.cell? a:=by
 simp [World.cell?,h.block _ hb ho]
theorem Tryz.infoRObj:(Tryz.prog.info? 198).map (fun i=>(i.zero,i.size,i.bytes))=some (some (.agg #[.string ⟨#[]⟩,.int .i64 0,.int .i64 0,.int .i64 0,.int .i64 0,.int .i64 0,.slice none 0 0]),7,80):=by kernel_rfl
structure CpJ (wr w:World) (X n key B:Nat) (dn:Nat→Bool) (dv:Value) (xs:List RObj) (k:Nat) (ov:Value) (ys:List RObj):Prop where
 hX:wr.heap[X]?=some (.cells #[.int .i64 n,.int .u64 key,dv,ov] 130)
 down:wr.ownsRow B 4 1 dv n (bools dn n)
 obj:wr.ownsRow B 198 7 ov k (qat n ys)
 len:ys.length=k
 same:∀j,j<k→(ys[j]!).ob=(xs[j]!).ob∧(ys[j]!).sh=(xs[j]!).sh
 shs:∀j,j<k→wr.ownsRow B 9 1 (.slice (ys[j]!).sa n (ys[j]!).sc) n ((ys[j]!).sh.map .string)
 dis:∀i j,i<j→j<k→∀b,(Value.slice (ys[i]!).sa n (ys[i]!).sc).ownBlock=some b→(Value.slice (ys[j]!).sa n (ys[j]!).sc).ownBlock≠some b
 bel:Below w.heap.size w wr
theorem CpJ.below {wr wr' w:World} {X n key B:Nat} {dn:Nat→Bool} {dv:Value} {xs:List RObj} {k:Nat} {ov:Value} {ys:List RObj} (h:CpJ wr w X n key B dn dv xs k ov ys) (hb:Below wr.heap.size wr wr'):CpJ wr' w X n key B dn dv xs k ov ys :=
 ⟨(hb.block X (cells_lt h.hX)).trans h.hX,qae h.down hb nl,qab (own:=fun _=>False) h.obj (qaa.ofBelow hb nl) (fun _ _ h=>h),h.len,h.same,fun j hj=>qae (h.shs j hj) hb nl,h.dis,h.bel.trans (hb.mono h.bel.size)⟩
theorem qcH {w:World} {B B' n m size size':Nat} {e e':TypeId} {v u:Value} {l l':List Value} (h:w.ownsRow B e size v n l) (h':w.ownsRow B' e' size' u m l') (he:e≠e'):∀b,v.ownBlock=some b→¬u.ownBlock=some b:=fun b hb hu=>by
 rcases h.2 with ⟨h8,_⟩|⟨g,cap,cur,h8,_,h4,_⟩
 ·rw [h8] at hb;cases hb
 ·rcases h'.2 with ⟨h9,_⟩|⟨g',cap',cur',h9,_,h5,_⟩
  ·rw [h9] at hu;cases hu
  ·rw [h8] at hb
   rw [h9] at hu
   cases hb
   cases hu
   rw [h4] at h5
   cases h5
   exact he rfl
theorem CpJ.next {wz w' w:World} {X n key B:Nat} {dn:Nat→Bool} {dv:Value} {xs:List RObj} {k:Nat} {ov ov':Value} {ys:List RObj} (h:CpJ wz w X n key B dn dv xs k ov ys) (hB:B=w.heap.size) (hX:w.heap.size≤X) (hs:qaa (fun b=>ov.ownBlock=some b) wz w') (y:RObj)
  (hr:w'.ownsRow B 198 7 ov' (k+1) (qat n ys++y.cells n)) (hyx:y.ob=(xs[k]!).ob∧y.sh=(xs[k]!).sh) (hsh:wz.ownsRow B 9 1 (.slice y.sa n y.sc) n (y.sh.map .string))
  (hnew:∀j,j<k→∀b,(Value.slice (ys[j]!).sa n (ys[j]!).sc).ownBlock=some b→(Value.slice y.sa n y.sc).ownBlock≠some b):CpJ (w'.setCell ⟨X,3,none⟩ ov') w X n key B dn dv xs (k+1) ov' (ys++[y]):=by
 have hXO:¬ov.ownBlock=some X:=fun e=>qaz h.obj h.hX (by decide) e
 have hX':=hs.heap (b:=X) h.hX hXO
 have hsX:qaa (fun b=>b=X) w' (w'.setCell ⟨X,3,none⟩ ov'):=qaa.setCell (own:=fun b=>b=X) (p:=⟨X,3,none⟩) sr rfl _
 have keep:∀{e:TypeId} {size m:Nat} {v:Value} {l:List Value},e≠130→e≠198→wz.ownsRow B e size v m l→(w'.setCell ⟨X,3,none⟩ ov').ownsRow B e size v m l:=fun h1 h2 ho=>by
  have h3:=qab ho hs (fun b hb hob=>qcH ho h.obj h2 b hb hob)
  exact qab h3 hsX (fun b hb e=>by rw [e] at hb;exact qaz h3 hX' h1 hb)
 have hys:∀j,j<k→(ys++[y])[j]! = ys[j]! := fun j hj=>by
  rw [getElem!_pos _ j (by simp [h.len];omega),getElem!_pos _ j (by rw [h.len];exact hj),List.getElem_append_left]
 have hyk:(ys++[y])[k]! = y:=by
  rw [getElem!_pos _ k (by simp [h.len]),List.getElem_append_right (by rw [h.len];exact Nat.le_refl _)]
  simp [h.len]
 refine ⟨qan ov' hX',keep (by decide) (by decide) h.down,?_,by simp [h.len],fun j hj=>?_,fun j hj=>?_,fun i j hij hj b hb1 hb2=>?_,?_⟩
 ·have:=qab hr hsX (fun b hb e=>by rw [e] at hb;exact qaz hr hX' (by decide) hb)
  rw [qbh]
  simpa [qat] using this
 ·rcases Nat.lt_or_eq_of_le (Nat.lt_succ_iff.1 hj) with h' | rfl
  ·rw [hys j h'];exact h.same j h'
  ·rw [hyk];exact hyx
 ·rcases Nat.lt_or_eq_of_le (Nat.lt_succ_iff.1 hj) with h' | rfl
  ·rw [hys j h'];exact keep (by decide) (by decide) (h.shs j h')
  ·rw [hyk];exact keep (by decide) (by decide) hsh
 ·rcases Nat.lt_or_eq_of_le (Nat.lt_succ_iff.1 hj) with h' | rfl
  ·rw [hys j h'] at hb2
   rw [hys i (by omega)] at hb1
   exact h.dis i j hij h' b hb1 hb2
  ·rw [hyk] at hb2
   rw [hys i hij] at hb1
   exact hnew i hij b hb1 hb2
 ·have h1:=h.bel.trans (hs.below w.heap.size h.bel.size (fun b hb=>by rw [←hB];exact (h.obj.lt b hb).1))
  exact h1.trans (hsX.below w.heap.size h1.size (fun b hb=>by rw [hb];exact hX))
theorem qjv (t:Array Value) (h:t.size=69):∃f:Nat→Value,(∀k,t.getD k undef=f k)∧t=#[f 0,f 1,f 2,f 3,f 4,f 5,f 6,f 7,f 8,f 9,f 10,f 11,f 12,f 13,f 14,f 15,f 16,f 17,f 18,f 19,f 20,f 21,f 22,f 23,f 24,f 25,f 26,f 27,f 28,f 29,f 30,f 31,f 32,f 33,f 34,f 35,f 36,f 37,f 38,f 39,f 40,f 41,f 42,f 43,f 44,f 45,f 46,f 47,f 48,f 49,f 50,f 51,f 52,f 53,f 54,f 55,f 56,f 57,f 58,f 59,f 60,f 61,f 62,f 63,f 64,f 65,f 66,f 67,f 68]:=⟨fun k=>t.getD k undef,fun _=>rfl,qco t 69 h⟩
theorem Wd.copied_any {w:World} {P n key:Nat} {dn:Nat→Bool} {dv:Value} {xs:List RObj} (h:Wd w P n key dn dv xs) :
  Calls Tryz.prog 117 #[.pointer (some ⟨P,0,none⟩)] w fun e w'=>∃X dv' ov ys,e=.returned (.pointer (some ⟨X,0,none⟩))∧CpJ w' w X n key w.heap.size dn dv' xs xs.length ov ys∧w.heap.size≤X:=by
 obtain ⟨i0,hi,hz0,hz1,hz2⟩:=info_parts Tryz.infoBool
 obtain ⟨iS,hiS,hs0',hs1,hs2⟩:=info_parts Tryz.infoS
 obtain ⟨iO,hiO,hO0,hO1,hO2⟩:=info_parts Tryz.infoRObj
 obtain ⟨oa,oc,h1,hrd⟩:=h.hp
 have hPl:=cells_lt h1
 have hn1:=h.n1
 have hn8:=h.n8
 have hl10:=h.len
 obtain ⟨D,c,hdv,_,_⟩:=h.down.form h.n1
 subst hdv
 have c0:w.cell? ⟨P,0,none⟩=some (.int .i64 n):=cq h1 rfl
 have c1:w.cell? ⟨P,1,none⟩=some (.int .u64 key):=cq h1 rfl
 have HP:=hid h1
 have HRD:=hid hrd
 have HW:=hid h
 have HDR0:=hid (qaC h.down)
 have HDL0:=hid (h.down.lt D rfl).2
 clear h1 hrd h
 go_enter Tryz.func117,Tryz.ntmps117
 go_wp2_with fail
 go_region
 obtain ⟨w1,hw1⟩:∃w1,w1=(w.alloc (.cells #[.int .i64 n,.int .u64 key,.slice none 0 0,.slice none 0 0] 130)).drew:=⟨_,rfl⟩
 have hb1:Below w.heap.size w w1:=by rw [hw1];exact ((Below.refl _ _).alloc nl _).drew
 have hX1:w1.heap[w.heap.size]?=some (.cells #[.int .i64 n,.int .u64 key,.slice none 0 0,.slice none 0 0] 130):=by rw [hw1];exact alloc_at _ _
 have hP1:=(hb1.block P hPl).trans HP.out
 rw [←hw1]
 clear hw1 c0 c1
 obtain ⟨X,hX⟩:∃X,X=w.heap.size:=⟨_,rfl⟩
 rw [←hX] at hX1 ⊢
 have HXE:=hid hX
 have HX1:=hid hX1
 have HP1:=hid hP1
 have hXl:=cells_lt hX1
 have hPl1:=cells_lt hP1
 have HDR:=hid (HDR0.out.below hb1 nl)
 have HDL:=hid (Nat.lt_of_lt_of_le HDL0.out hb1.size)
 clear hX1 hP1 hX
 obtain ⟨B,hBe⟩:∃B,B=w.heap.size:=⟨_,rfl⟩
 have HB:=hid (show B≤w1.heap.size by rw [hBe];exact hb1.size)
 have HBE:=hid hBe
 clear hBe
 go_wp2_with fail
 have HFX:∀a:Act,(∀x∈[((0:Nat),Value.pointer (some ⟨P,0,none⟩)),(2,.pointer none),(3,.pointer (some ⟨X,0,none⟩))],a.tmps.getD x.1 undef=x.2)→a.tmps[0]?.getD undef=.pointer (some ⟨P,0,none⟩)∧a.tmps[3]?.getD undef=.pointer (some ⟨X,0,none⟩):=by
  intro a h
  have:=h (0,.pointer (some ⟨P,0,none⟩)) (by simp)
  have h3:=h (3,.pointer (some ⟨X,0,none⟩)) (by simp)
  exact ⟨by simpa using this,by simpa using h3⟩
 have HC2:∀w':World,qaa (fun _=>False) { w1 with drawn:=w1.drawn+1 } w'→w'.cell? ⟨P,2,none⟩=some (.slice (some ⟨D,0,none⟩) n c)∧w'.cell? ⟨X,2,none⟩=some (.slice none 0 0):=by
  intro w' hs
  exact ⟨cq (hs.heap (b:=P) HP1.out (fun h=>h)) rfl,cq (hs.heap (b:=X) HX1.out (fun h=>h)) rfl⟩
 refine qbA (by kernel_rfl) (fun i=>i+16) (cpA X P D n c B dn) (fun _=>False) [(0,.pointer (some ⟨P,0,none⟩)),(2,.pointer none),(3,.pointer (some ⟨X,0,none⟩))] 69 12 9 [0,2,3] (by kernel_rfl) (by kernel_rfl) rfl rfl rfl ?_ (qgr X P D n c B dn) (fun j v w w' _=>qgr X P D n c B dn j v w w') ?_ ?_
 ·simp
 ·refine ⟨?_,?_,?_,?_,?_,?_,?_,?_,?_,?_,?_,?_,trivial⟩
  all_goals
   intro a w' hs hno hf hd
   obtain ⟨f0,f3⟩:=HFX a hf
   obtain ⟨c2,x2⟩:=HC2 w' hs
   simp [cpA] at hd
   try (refine .inl ⟨_,w',?_,fun _=>qaa.refl _ _,sr,rfl⟩;go_simp;done)
  ·obtain ⟨hd1,hd2⟩:=hd
   have hs0:=hno rfl
   refine qcf (.tmp 20) (.tmp 24) 127 rfl B 4 i0 (.bool false) 1 1 Tryz.underlying127 hi hz0 hz1 hz2 rfl (by decide) (.slice none 0 0) 0 [] (by simp [Act.eval];exact hd1) (World.ownsRow_nil _ _ _ _) ⟨D,0,none⟩ n c (bools dn n) (by simp [Act.eval];exact hd2) (by rw [qaU];omega) (fun j u hj=>?_) (qiP dn n) (by unfold maxLen;omega) (by omega) (Nat.le_trans HB.out (Nat.le_trans (by exact Nat.le_refl _) hs0.size)) (by omega) ?_
   ·obtain ⟨b',o',e1,_,e2⟩:=HDR.out j u hj
    cases e1
    rw [qaW]
    exact (hs0.cell (by exact HDL.out) (fun h=>h)).trans e2
   ·intro v' w'' hown hgrow _
    refine ⟨fun h=>absurd rfl h,(qa5 hgrow).mono (fun b hb=>by cases hb),?_⟩
    rw [List.nil_append,Nat.zero_add] at hown
    exact hown
 ·intro a w' oo hoo hdf hsz hs hf hr
  obtain ⟨f0,f3⟩:=HFX a hf
  cases hoo
  have r9:=hr 9 (by decide)
  have r11:=hr 11 (by decide)
  simp [cpA] at r9 r11
  obtain ⟨c2,x2⟩:=HC2 w' hs
  obtain ⟨dv',hdv'⟩:∃dv',dv'=a.tmps.getD 25 undef:=⟨_,rfl⟩
  have r9':w'.ownsRow B 4 1 dv' n (bools dn n):=by rw [hdv'];simpa using r9
  obtain ⟨gd,cd,hdd,_,_⟩:=r9'.form hn1
  have hX':=hs.heap (b:=X) HX1.out (fun h=>h)
  refine qaF 127 (.tmp 27) (.tmp 25) rfl X 2 dv' (by simp [Act.eval];exact r11) (by simp [Act.eval];rw [hdv'];simp) (by rw [hdd];rfl) (by rw [hdd];rfl) (by kernel_rfl) (.slice none 0 0) x2 (qam hX') ?_
  obtain ⟨w2,hw2⟩:∃w2,w2=w'.setCell ⟨X,2,none⟩ dv':=⟨_,rfl⟩
  have hX2:w2.heap[X]?=some (.cells #[.int .i64 n,.int .u64 key,dv',.slice none 0 0] 130):=by rw [hw2];exact qan dv' hX'
  have hsX:qaa (fun b=>b=X) w' w2:=by rw [hw2];exact qaa.setCell (own:=fun b=>b=X) (p:=⟨X,2,none⟩) sr rfl _
  have hb2:Below w.heap.size w w2:=by
   have h1:Below w.heap.size w w':=hb1.trans ((Below.drew bl).trans (hs.below w.heap.size hb1.size (fun _ h=>h.elim)))
   exact h1.trans (hsX.below w.heap.size h1.size (fun b hb=>by rw [hb,HXE.out];exact Nat.le_refl _))
  have hd2:w2.ownsRow B 4 1 dv' n (bools dn n):=qab r9' hsX (fun b hb e=>by
   rw [e] at hb
   exact qaz r9' hX' (by decide) hb)
  rw [←hw2]
  obtain ⟨tm,df⟩:=a
  simp only at hdf hsz hf hr
  subst hdf
  obtain ⟨f,hfk,rfl⟩:=qjv tm hsz
  have e0:f 0=.pointer (some ⟨P,0,none⟩):=(hfk 0).symm.trans (hf (0,_) (by simp))
  have e2:f 2=.pointer none:=(hfk 2).symm.trans (hf (2,_) (by simp))
  have e3:f 3=.pointer (some ⟨X,0,none⟩):=(hfk 3).symm.trans (hf (3,_) (by simp))
  simp only [Act.put,e0,e2,e3]
  have HX2:=hid hX2
  have HD2:=hid hd2
  clear hr hsz hf hfk e0 e2 e3 r9 r9' r11 hdv' c2 x2 hs hX' hsX hw2 hX2 hd2 HFX HC2 f0 f3 hdd
  go_wp2_with fail
  obtain ⟨m,hm⟩:∃m,m=xs.length:=⟨_,rfl⟩
  have HM:=hid hm
  rw [←hm] at hl10
  clear hm
  go_loopw [4,5] (fun u y wr=>∃(k:Nat) (ov:Value) (ys:List RObj),u=.int .i64 k∧k≤m∧CpJ wr w X n key B dn dv' xs k ov ys) (fun u _ _=>m-(intOf u).toNat)
  case atStart=>exact ⟨0,.slice none 0 0,[],rfl,Nat.zero_le _,HX2.out,HD2.out,World.ownsRow_nil _ _ _ _,rfl,fun j hj=>absurd hj (Nat.not_lt_zero _),fun j hj=>absurd hj (Nat.not_lt_zero _),fun i j _ hj=>absurd hj (Nat.not_lt_zero _),hb2⟩
  case round =>
   obtain ⟨k,ov,ys,rfl,hkm,hj⟩:=hrel
   have HJ:=hid hj
   have hbr:=hj.bel
   have hPr:=(hbr.block P hPl).trans HP.out
   have c3:wr.cell? ⟨P,3,none⟩=some (.slice oa m oc):=by rw [cells_at hPr,HM.out];rfl
   have HPR:=hid hPr
   clear hj hPr
   by_cases hlt:k<m
   ·have hlt':(k:Int)<(m:Int):=by omega
    have hkx:k<xs.length:=by rw [←HM.out];exact hlt
    have hrdr:=HRD.out.below hbr nl
    obtain ⟨ob,oo,rfl,hobl,_⟩:=hrdr.pos (by rw [qar];omega)
    obtain ⟨_,k0,k1,k2,k3,k4,k5,k6⟩:=qbf hrdr k hkx (xs[k]!) (getElem!_pos xs k hkx)
    obtain ⟨hshl,hshr⟩:=HW.out.sh (xs[k]!) (by rw [getElem!_pos xs k hkx];exact List.getElem_mem _)
    obtain ⟨sb,so,hsa,hsbl,_⟩:=hshr.pos (by rw [List.length_map];omega)
    rw [hsa] at k6 hshr
    have HSHR:=hid (hshr.below hbr nl)
    have HK6:=hid k6
    have HSBL:=hid (Nat.lt_of_lt_of_le hsbl hbr.size)
    have HSHL:=hid hshl
    obtain ⟨x,hx⟩:∃x,x=xs[k]! := ⟨_,rfl⟩
    have HXX:=hid hx
    rw [←hx] at k0 k1 k2 k3 k4 k5 HSHR HK6 HSHL
    clear hrdr hshl hshr hsa hsbl k6 hkx hx
    obtain ⟨Y,hY⟩:∃Y,Y=wr.heap.size:=⟨_,rfl⟩
    go_wp2_with fail
    obtain ⟨wy,hwy⟩:∃wy,wy=wr.alloc (.cells #[.string x.ob.name,.int .i64 x.ob.mode,.int .i64 x.ob.t,.int .i64 x.ob.l,.int .i64 x.ob.size,.int .i64 x.ob.epoch,.slice none 0 0] 198):=⟨_,rfl⟩
    have hbwy:Below wr.heap.size wr wy:=by rw [hwy];exact (Below.refl _ _).alloc nl _
    have hYy:wy.heap[Y]?=some (.cells #[.string x.ob.name,.int .i64 x.ob.mode,.int .i64 x.ob.t,.int .i64 x.ob.l,.int .i64 x.ob.size,.int .i64 x.ob.epoch,.slice none 0 0] 198):=by rw [hwy,hY];exact alloc_at _ _
    rw [←hwy,←hY]
    have HYE:=hid hY
    have hPy:=(hbwy.block P (cells_lt HPR.out)).trans HPR.out
    have HPY:=hid hPy
    have HYY:=hid hYy
    have HK6Y:=hid ((hbwy.cell (p:=⟨ob,oo+k*7+6,none⟩) hobl).trans HK6.out)
    have HOBL:=hid (Nat.lt_of_lt_of_le hobl hbwy.size)
    have HSHR2:=hid (HSHR.out.below hbwy nl)
    have HSBL2:=hid (Nat.lt_of_lt_of_le HSBL.out hbwy.size)
    have HBY:=hid (show B≤wy.heap.size by have h1:=hbr.size;have h2:=hbwy.size;rw [HBE.out];omega)
    have HBWY:=hid hbwy
    clear hwy hYy hPy hY k0 k1 k2 k3 k4 k5 c3 hbwy
    have HFX:∀a:Act,(∀x∈[((0:Nat),Value.pointer (some ⟨P,0,none⟩)),(2,.pointer none),(3,.pointer (some ⟨X,0,none⟩)),(4,.int .i64 k),(5,.pointer (some ⟨Y,0,none⟩)),(1,f 1),(6,f 6),(7,f 7),(8,f 8),(9,f 9),(10,f 10),(11,f 11),(12,f 12),(13,f 13),(14,f 14),(15,f 15),(16,f 16),(17,f 17),(18,f 18),(19,f 19),(20,f 20),(21,f 21),(22,f 22),(23,f 23),(24,f 24),(25,f 25),(26,f 26),(27,f 27),(68,f 68)],a.tmps.getD x.1 undef=x.2)→a.tmps[0]?.getD undef=.pointer (some ⟨P,0,none⟩)∧a.tmps[3]?.getD undef=.pointer (some ⟨X,0,none⟩)∧a.tmps[4]?.getD undef=.int .i64 k∧a.tmps[5]?.getD undef=.pointer (some ⟨Y,0,none⟩):=by
     intro a h
     have h0:=h (0,.pointer (some ⟨P,0,none⟩)) (by simp)
     have h3:=h (3,.pointer (some ⟨X,0,none⟩)) (by simp)
     have h4:=h (4,.int .i64 k) (by simp)
     have h5:=h (5,.pointer (some ⟨Y,0,none⟩)) (by simp)
     exact ⟨by simpa using h0,by simpa using h3,by simpa using h4,by simpa using h5⟩
    have HC7:∀w':World,qaa (fun _=>False) { wy with drawn:=wy.drawn+1 } w'→w'.cell? ⟨P,3,none⟩=some (.slice (some ⟨ob,oo,none⟩) m oc)∧w'.cell? ⟨ob,oo+k*7+6,none⟩=some (.slice (some ⟨sb,so,none⟩) n x.sc)∧w'.cell? ⟨Y,6,none⟩=some (.slice none 0 0):=by
     intro w' hs
     exact ⟨by rw [cells_at (hs.heap (b:=P) HPY.out (fun h=>h)),HM.out];rfl,(hs.cell (by exact HOBL.out) (fun h=>h)).trans HK6Y.out,cq (hs.heap (b:=Y) HYY.out (fun h=>h)) rfl⟩
    refine qbA (by kernel_rfl) (fun i=>i+46) (cpB Y P ob oo m oc k sb so n x.sc B wy.heap.size x.sh) (fun _=>False) [(0,.pointer (some ⟨P,0,none⟩)),(2,.pointer none),(3,.pointer (some ⟨X,0,none⟩)),(4,.int .i64 k),(5,.pointer (some ⟨Y,0,none⟩)),(1,f 1),(6,f 6),(7,f 7),(8,f 8),(9,f 9),(10,f 10),(11,f 11),(12,f 12),(13,f 13),(14,f 14),(15,f 15),(16,f 16),(17,f 17),(18,f 18),(19,f 19),(20,f 20),(21,f 21),(22,f 22),(23,f 23),(24,f 24),(25,f 25),(26,f 26),(27,f 27),(68,f 68)] 69 12 10 [0,2,3,4,5,1,6,7,8,9,10,11,12,13,14,15,16,17,18,19,20,21,22,23,24,25,26,27,68] (by kernel_rfl) (by kernel_rfl) rfl rfl rfl ?_ (qfM Y P ob oo m oc k sb so n x.sc B wy.heap.size x.sh) (fun j v w w' _=>qfM Y P ob oo m oc k sb so n x.sc B wy.heap.size x.sh j v w w') ?_ ?_
    ·simp
    ·refine ⟨?_,?_,?_,?_,?_,?_,?_,?_,?_,?_,?_,?_,trivial⟩
     all_goals
      intro a w' hs hno hf hd
      obtain ⟨f0,f3,f4,f5⟩:=HFX a hf
      obtain ⟨c3,k6,y6⟩:=HC7 w' hs
      simp [cpB] at hd
      try (refine .inl ⟨_,w',?_,fun _=>qaa.refl _ _,sr,rfl⟩;go_simp;done)
     ·obtain ⟨hd1,hd2⟩:=hd
      have hs0:=hno rfl
      refine qcf (.tmp 47) (.tmp 55) 30 rfl B 9 iS (.string ⟨#[]⟩) 1 16 Tryz.underlying30 hiS hs0' hs1 hs2 rfl (by decide) (.slice none 0 0) 0 [] (by simp [Act.eval];exact hd1) (World.ownsRow_nil _ _ _ _) ⟨sb,so,none⟩ n x.sc (x.sh.map .string) (by simp [Act.eval];exact hd2) (by rw [List.length_map,HSHL.out];omega) (fun j u hj=>?_) (qhs x.sh) (by unfold maxLen;omega) (by omega) (Nat.le_trans HBY.out hs0.size) (by omega) ?_
      ·obtain ⟨b',o',e1,_,e2⟩:=HSHR2.out j u hj
       cases e1
       rw [qaW]
       exact (hs0.cell (by exact HSBL2.out) (fun h=>h)).trans e2
      ·intro v' w'' hown hgrow hat
       refine ⟨fun h=>absurd rfl h,(qa5 hgrow).mono (fun b hb=>by cases hb),?_,?_⟩
       ·rw [List.nil_append,Nat.zero_add] at hown
        exact hown
       ·rcases hat with h | h
        ·obtain ⟨g,c,e,_⟩:=hown.form (by omega)
         rw [e] at h
         cases h
        ·exact ⟨_,h,hs0.size⟩
    ·intro a w' oo' hoo hdf hsz hs hf hr
     obtain ⟨f0,f3,f4,f5⟩:=HFX a hf
     cases hoo
     have r10:=hr 10 (by decide)
     have r11:=hr 11 (by decide)
     simp [cpB] at r10 r11
     obtain ⟨c3,k6,y6⟩:=HC7 w' hs
     obtain ⟨sv,hsv⟩:∃sv,sv=a.tmps.getD 56 undef:=⟨_,rfl⟩
     have r10':w'.ownsRow B 9 1 sv n (x.sh.map .string):=by rw [hsv];simpa using r10.1
     have r10b:∃g,sv.ownBlock=some g∧wy.heap.size≤g:=by rw [hsv];simpa using r10.2
     obtain ⟨gs,cs,hss,_,_⟩:=r10'.form hn1
     have hY':=hs.heap (b:=Y) HYY.out (fun h=>h)
     refine qaF 30 (.tmp 57) (.tmp 56) rfl Y 6 sv (by simp [Act.eval];exact r11) (by simp [Act.eval];rw [hsv];simp) (by rw [hss];rfl) (by rw [hss];rfl) (by kernel_rfl) (.slice none 0 0) y6 (qam hY') ?_
     obtain ⟨wz,hwz⟩:∃wz,wz=w'.setCell ⟨Y,6,none⟩ sv:=⟨_,rfl⟩
     have hYz:wz.heap[Y]?=some (.cells #[.string x.ob.name,.int .i64 x.ob.mode,.int .i64 x.ob.t,.int .i64 x.ob.l,.int .i64 x.ob.size,.int .i64 x.ob.epoch,sv] 198):=by rw [hwz];exact qan sv hY'
     have hsY:qaa (fun b=>b=Y) w' wz:=by rw [hwz];exact qaa.setCell (own:=fun b=>b=Y) (p:=⟨Y,6,none⟩) sr rfl _
     have hbz:Below wr.heap.size wr wz:=by
      have h1:Below wr.heap.size wr w':=HBWY.out.trans ((Below.drew bl).trans (hs.below wr.heap.size HBWY.out.size (fun _ h=>h.elim)))
      exact h1.trans (hsY.below wr.heap.size h1.size (fun b hb=>by rw [hb,HYE.out];exact Nat.le_refl _))
     have hsz2:wz.ownsRow B 9 1 sv n (x.sh.map .string):=qab r10' hsY (fun b hb e=>by
      rw [e] at hb
      exact qaz r10' hY' (by decide) hb)
     rw [←hwz]
     obtain ⟨tm,df⟩:=a
     simp only at hdf hsz hf hr
     subst hdf
     obtain ⟨f',hfk,rfl⟩:=qjv tm hsz
     have e0:f' 0=.pointer (some ⟨P,0,none⟩):=(hfk 0).symm.trans (hf (0,_) (by simp))
     have e2:f' 2=.pointer none:=(hfk 2).symm.trans (hf (2,_) (by simp))
     have e3:f' 3=.pointer (some ⟨X,0,none⟩):=(hfk 3).symm.trans (hf (3,_) (by simp))
     have e4:f' 4=.int .i64 k:=(hfk 4).symm.trans (hf (4,_) (by simp))
     have e5:f' 5=.pointer (some ⟨Y,0,none⟩):=(hfk 5).symm.trans (hf (5,_) (by simp))
     have g1:f' 1=f 1:=(hfk 1).symm.trans (hf (1,_) (by simp))
     have g6:f' 6=f 6:=(hfk 6).symm.trans (hf (6,_) (by simp))
     have g7:f' 7=f 7:=(hfk 7).symm.trans (hf (7,_) (by simp))
     have g8:f' 8=f 8:=(hfk 8).symm.trans (hf (8,_) (by simp))
     have g9:f' 9=f 9:=(hfk 9).symm.trans (hf (9,_) (by simp))
     have g10:f' 10=f 10:=(hfk 10).symm.trans (hf (10,_) (by simp))
     have g11:f' 11=f 11:=(hfk 11).symm.trans (hf (11,_) (by simp))
     have g12:f' 12=f 12:=(hfk 12).symm.trans (hf (12,_) (by simp))
     have g13:f' 13=f 13:=(hfk 13).symm.trans (hf (13,_) (by simp))
     have g14:f' 14=f 14:=(hfk 14).symm.trans (hf (14,_) (by simp))
     have g15:f' 15=f 15:=(hfk 15).symm.trans (hf (15,_) (by simp))
     have g16:f' 16=f 16:=(hfk 16).symm.trans (hf (16,_) (by simp))
     have g17:f' 17=f 17:=(hfk 17).symm.trans (hf (17,_) (by simp))
     have g18:f' 18=f 18:=(hfk 18).symm.trans (hf (18,_) (by simp))
     have g19:f' 19=f 19:=(hfk 19).symm.trans (hf (19,_) (by simp))
     have g20:f' 20=f 20:=(hfk 20).symm.trans (hf (20,_) (by simp))
     have g21:f' 21=f 21:=(hfk 21).symm.trans (hf (21,_) (by simp))
     have g22:f' 22=f 22:=(hfk 22).symm.trans (hf (22,_) (by simp))
     have g23:f' 23=f 23:=(hfk 23).symm.trans (hf (23,_) (by simp))
     have g24:f' 24=f 24:=(hfk 24).symm.trans (hf (24,_) (by simp))
     have g25:f' 25=f 25:=(hfk 25).symm.trans (hf (25,_) (by simp))
     have g26:f' 26=f 26:=(hfk 26).symm.trans (hf (26,_) (by simp))
     have g27:f' 27=f 27:=(hfk 27).symm.trans (hf (27,_) (by simp))
     have g68:f' 68=f 68:=(hfk 68).symm.trans (hf (68,_) (by simp))
     simp only [Act.put,e0,e2,e3,e4,e5,g1,g6,g7,g8,g9,g10,g11,g12,g13,g14,g15,g16,g17,g18,g19,g20,g21,g22,g23,g24,g25,g26,g27,g68]
     have HYZ:=hid hYz
     have HSZ:=hid hsz2
     have HJZ:=hid (HJ.out.below hbz)
     have HOBJ0:=hid HJZ.out.obj
     have HSV:=hid hss
     have HSB:=hid (show ∃g,sv.ownBlock=some g∧wr.heap.size≤g from r10b.imp fun g hg=>⟨hg.1,Nat.le_trans HBWY.out.size hg.2⟩)
     have HBZ:=hid (show B≤wz.heap.size by have h1:=hbr.size;have h2:=hbz.size;rw [HBE.out];omega)
     have HOVL:=hid (show ∀b,ov.ownBlock=some b→b<wr.heap.size from fun b hb=>(HJ.out.obj.lt b hb).2)
     have HZZ:=hid hbz.size
     have HYL:=hid (show wr.heap.size≤Y from Nat.le_of_eq HYE.out.symm)
     clear g1 g6 g7 g8 g9 g10 g11 g12 g13 g14 g15 g16 g17 g18 g19 g20 g21 g22 g23 g24 g25 g26 g27 g68
     clear hr hsz hf hfk e0 e2 e3 e4 e5 r10 r10' r10b r11 hsv c3 k6 y6 hs hY' hsY hwz hYz hsz2 HFX HC7 f0 f3 f4 f5 hss hbz
     go_wp2_with fail
     have HFX8:∀a:Act,(∀x∈[((0:Nat),Value.pointer (some ⟨P,0,none⟩)),(2,.pointer none),(3,.pointer (some ⟨X,0,none⟩)),(4,.int .i64 k),(5,.pointer (some ⟨Y,0,none⟩)),(1,f 1),(6,f 6),(7,f 7),(8,f 8),(9,f 9),(10,f 10),(11,f 11),(12,f 12),(13,f 13),(14,f 14),(15,f 15),(16,f 16),(17,f 17),(18,f 18),(19,f 19),(20,f 20),(21,f 21),(22,f 22),(23,f 23),(24,f 24),(25,f 25),(26,f 26),(27,f 27),(68,f 68)],a.tmps.getD x.1 undef=x.2)→a.tmps[3]?.getD undef=.pointer (some ⟨X,0,none⟩)∧a.tmps[5]?.getD undef=.pointer (some ⟨Y,0,none⟩):=by
      intro a h
      have h3:=h (3,.pointer (some ⟨X,0,none⟩)) (by simp)
      have h5:=h (5,.pointer (some ⟨Y,0,none⟩)) (by simp)
      exact ⟨by simpa using h3,by simpa using h5⟩
     have HXO:=hid (show ¬ov.ownBlock=some X from fun e=>qaz HJZ.out.obj HJZ.out.hX (by decide) e)
     have HYO:=hid (show ¬ov.ownBlock=some Y from fun e=>by have:=HOVL.out Y e;have:=HYL.out;omega)
     have HOBJ:=hid (show ({ wz with drawn:=wz.drawn+1 }:World).ownsRow B 198 7 ov k (qat n ys) from HOBJ0.out.drew)
     have HC8:∀w':World,qaa (fun b=>ov.ownBlock=some b) { wz with drawn:=wz.drawn+1 } w'→w'.cell? ⟨X,3,none⟩=some ov∧w'.heap[Y]?=some (.cells #[.string x.ob.name,.int .i64 x.ob.mode,.int .i64 x.ob.t,.int .i64 x.ob.l,.int .i64 x.ob.size,.int .i64 x.ob.epoch,sv] 198):=by
      intro w' hs
      exact ⟨cq (hs.heap (b:=X) HJZ.out.hX HXO.out) rfl,hs.heap (b:=Y) HYZ.out HYO.out⟩
     refine qbA (by kernel_rfl) (fun i=>i+58) (cpC X ov #[.string x.ob.name,.int .i64 x.ob.mode,.int .i64 x.ob.t,.int .i64 x.ob.l,.int .i64 x.ob.size,.int .i64 x.ob.epoch,sv] k B wz.heap.size (qat n ys)) (fun b=>ov.ownBlock=some b) [(0,.pointer (some ⟨P,0,none⟩)),(2,.pointer none),(3,.pointer (some ⟨X,0,none⟩)),(4,.int .i64 k),(5,.pointer (some ⟨Y,0,none⟩)),(1,f 1),(6,f 6),(7,f 7),(8,f 8),(9,f 9),(10,f 10),(11,f 11),(12,f 12),(13,f 13),(14,f 14),(15,f 15),(16,f 16),(17,f 17),(18,f 18),(19,f 19),(20,f 20),(21,f 21),(22,f 22),(23,f 23),(24,f 24),(25,f 25),(26,f 26),(27,f 27),(68,f 68)] 69 10 7 [0,2,3,4,5,1,6,7,8,9,10,11,12,13,14,15,16,17,18,19,20,21,22,23,24,25,26,27,68] (by kernel_rfl) (by kernel_rfl) rfl rfl rfl ?_ (qjd X ov #[.string x.ob.name,.int .i64 x.ob.mode,.int .i64 x.ob.t,.int .i64 x.ob.l,.int .i64 x.ob.size,.int .i64 x.ob.epoch,sv] k B wz.heap.size (qat n ys)) (qix X ov #[.string x.ob.name,.int .i64 x.ob.mode,.int .i64 x.ob.t,.int .i64 x.ob.l,.int .i64 x.ob.size,.int .i64 x.ob.epoch,sv] k B wz.heap.size (qat n ys) (fun b hb=>Nat.lt_of_lt_of_le (HOVL.out b hb) HZZ.out)) ?_ ?_
     ·simp
     ·refine ⟨?_,?_,?_,?_,?_,?_,?_,?_,?_,?_,trivial⟩
      all_goals
       intro a w' hs hno hf hd
       obtain ⟨f3,f5⟩:=HFX8 a hf
       obtain ⟨x3,hYc⟩:=HC8 w' hs
       have y0:=cells_at (k:=0) hYc
       have y1:=cells_at (k:=1) hYc
       have y2:=cells_at (k:=2) hYc
       have y3:=cells_at (k:=3) hYc
       have y4:=cells_at (k:=4) hYc
       have y5:=cells_at (k:=5) hYc
       have y6:=cells_at (k:=6) hYc
       simp [cpC] at hd
       try (refine .inl ⟨_,w',?_,fun _=>qaa.refl _ _,sr,rfl⟩;go_simp;done)
      ·refine .inl ⟨.slice (some ⟨w'.heap.size,0,none⟩) 1 1,w'.alloc (.cells #[.string x.ob.name,.int .i64 x.ob.mode,.int .i64 x.ob.t,.int .i64 x.ob.l,.int .i64 x.ob.size,.int .i64 x.ob.epoch,sv] 198),?_,fun _=>qaa.ofBelow ((Below.refl _ _).alloc nl _) nl,qaa.ofBelow ((Below.refl _ _).alloc nl _) nl,?_⟩
       ·go_simp
       ·exact ⟨_,rfl,alloc_at _ _,hs.size⟩
      ·obtain ⟨hd1,g,hd2,hg,hgl⟩:=hd
       have hs0:=hno rfl
       refine qcf (.tmp 62) (.tmp 64) 128 rfl B 198 iO (.agg #[.string ⟨#[]⟩,.int .i64 0,.int .i64 0,.int .i64 0,.int .i64 0,.int .i64 0,.slice none 0 0]) 7 80 Tryz.underlying128 hiO hO0 hO1 hO2 rfl (by decide) ov k (qat n ys) (by simp [Act.eval];exact hd1) (qab HOBJ.out hs0 (fun _ _ h=>h)) ⟨g,0,none⟩ 1 1 [.string x.ob.name,.int .i64 x.ob.mode,.int .i64 x.ob.t,.int .i64 x.ob.l,.int .i64 x.ob.size,.int .i64 x.ob.epoch,sv] (by simp [Act.eval];exact hd2) rfl (fun j u hj=>?_) (fun u hu=>?_) (by unfold maxLen;omega) (by omega) (Nat.le_trans HBZ.out hs0.size) (by omega) ?_
       ·rw [qaW,Nat.zero_add,cells_at hg]
        simpa using hj
       ·simp at hu
        rcases hu with h | h | h | h | h | h | h<;>first | (rw [h];rfl)|(rw [h,HSV.out];rfl)
       ·intro v' w'' hown hgrow hat
        refine ⟨fun h=>absurd rfl h,qa5 hgrow,hown,?_⟩
        rcases hat with h | h
        ·exact .inl h
        ·exact .inr ⟨_,h,hs0.size⟩
     ·intro a w' oo' hoo hdf hsz hs hf hr
      obtain ⟨f3,f5⟩:=HFX8 a hf
      obtain ⟨x3,hYc⟩:=HC8 w' hs
      cases hoo
      have r7:=hr 7 (by decide)
      have r9:=hr 9 (by decide)
      simp [cpC] at r7 r9
      obtain ⟨ov',hov'⟩:∃ov',ov'=a.tmps.getD 65 undef:=⟨_,rfl⟩
      obtain ⟨gs,cs,hss⟩:∃gs cs,sv=.slice (some ⟨gs,0,none⟩) n cs:=⟨_,_,HSV.out⟩
      have hcell:[.string x.ob.name,.int .i64 x.ob.mode,.int .i64 x.ob.t,.int .i64 x.ob.l,.int .i64 x.ob.size,.int .i64 x.ob.epoch,sv]=(⟨x.ob,some ⟨gs,0,none⟩,cs,x.sh⟩:RObj).cells n:=by rw [hss];rfl
      have r7':w'.ownsRow B 198 7 ov' (k+1) (qat n ys++(⟨x.ob,some ⟨gs,0,none⟩,cs,x.sh⟩:RObj).cells n):=by
       rw [←hcell,hov']
       simpa using r7.1
      have hnx:=HJZ.out.next HBE.out (Nat.le_of_eq HXE.out.symm) ((qaa.ofBelow (Below.drew (Below.refl wz.heap.size wz)) nl).trans hs) ⟨x.ob,some ⟨gs,0,none⟩,cs,x.sh⟩ r7' ⟨by rw [HXX.out],by rw [HXX.out]⟩ (by have:=HSZ.out;rw [hss] at this;exact this) (fun j hj b hb1 hb2=>by
       obtain ⟨g,hg1,hg2⟩:=HSB.out
       rw [hss] at hg1
       rw [hb2] at hg1
       cases hg1
       have:=((HJ.out.shs j hj).lt b hb1).2
       omega)
      obtain ⟨go,co,hvo,_,_⟩:=r7'.form (by omega)
      have hX':=hs.heap (b:=X) HJZ.out.hX HXO.out
      refine qaF 128 (.tmp 67) (.tmp 65) rfl X 3 ov' (by simp [Act.eval];exact r9) (by simp [Act.eval];rw [hov'];simp) (by rw [hvo];rfl) (by rw [hvo];rfl) (by kernel_rfl) ov x3 (qam hX') ?_
      have HNX:=hid hnx
      obtain ⟨tm,df⟩:=a
      simp only at hdf hsz hf hr
      subst hdf
      obtain ⟨f'',hfk,rfl⟩:=qjv tm hsz
      have e0:f'' 0=.pointer (some ⟨P,0,none⟩):=(hfk 0).symm.trans (hf (0,_) (by simp))
      have e2:f'' 2=.pointer none:=(hfk 2).symm.trans (hf (2,_) (by simp))
      have e3:f'' 3=.pointer (some ⟨X,0,none⟩):=(hfk 3).symm.trans (hf (3,_) (by simp))
      have e4:f'' 4=.int .i64 k:=(hfk 4).symm.trans (hf (4,_) (by simp))
      have g1:f'' 1=f 1:=(hfk 1).symm.trans (hf (1,_) (by simp))
      have g6:f'' 6=f 6:=(hfk 6).symm.trans (hf (6,_) (by simp))
      have g7:f'' 7=f 7:=(hfk 7).symm.trans (hf (7,_) (by simp))
      have g8:f'' 8=f 8:=(hfk 8).symm.trans (hf (8,_) (by simp))
      have g9:f'' 9=f 9:=(hfk 9).symm.trans (hf (9,_) (by simp))
      have g10:f'' 10=f 10:=(hfk 10).symm.trans (hf (10,_) (by simp))
      have g11:f'' 11=f 11:=(hfk 11).symm.trans (hf (11,_) (by simp))
      have g12:f'' 12=f 12:=(hfk 12).symm.trans (hf (12,_) (by simp))
      have g13:f'' 13=f 13:=(hfk 13).symm.trans (hf (13,_) (by simp))
      have g14:f'' 14=f 14:=(hfk 14).symm.trans (hf (14,_) (by simp))
      have g15:f'' 15=f 15:=(hfk 15).symm.trans (hf (15,_) (by simp))
      have g16:f'' 16=f 16:=(hfk 16).symm.trans (hf (16,_) (by simp))
      have g17:f'' 17=f 17:=(hfk 17).symm.trans (hf (17,_) (by simp))
      have g18:f'' 18=f 18:=(hfk 18).symm.trans (hf (18,_) (by simp))
      have g19:f'' 19=f 19:=(hfk 19).symm.trans (hf (19,_) (by simp))
      have g20:f'' 20=f 20:=(hfk 20).symm.trans (hf (20,_) (by simp))
      have g21:f'' 21=f 21:=(hfk 21).symm.trans (hf (21,_) (by simp))
      have g22:f'' 22=f 22:=(hfk 22).symm.trans (hf (22,_) (by simp))
      have g23:f'' 23=f 23:=(hfk 23).symm.trans (hf (23,_) (by simp))
      have g24:f'' 24=f 24:=(hfk 24).symm.trans (hf (24,_) (by simp))
      have g25:f'' 25=f 25:=(hfk 25).symm.trans (hf (25,_) (by simp))
      have g26:f'' 26=f 26:=(hfk 26).symm.trans (hf (26,_) (by simp))
      have g27:f'' 27=f 27:=(hfk 27).symm.trans (hf (27,_) (by simp))
      have g68:f'' 68=f 68:=(hfk 68).symm.trans (hf (68,_) (by simp))
      simp only [Act.put,e0,e2,e3,e4,g1,g6,g7,g8,g9,g10,g11,g12,g13,g14,g15,g16,g17,g18,g19,g20,g21,g22,g23,g24,g25,g26,g27,g68]
      clear g1 g6 g7 g8 g9 g10 g11 g12 g13 g14 g15 g16 g17 g18 g19 g20 g21 g22 g23 g24 g25 g26 g27 g68
      clear hr hsz hf hfk e0 e2 e3 e4 r7 r7' r9 hov' hs hX' HFX8 HC8 f3 f5 hnx x3 hYc hcell hss hvo
      go_wp2_with fail
      go_roundw
      case rel=>exact ⟨k+1,ov',_,by go_num,hlt,HNX.out⟩
      case measure=>simp [intOf];omega
   ·have hkk:k=m:=by omega
    subst hkk
    go_wp2_with fail
    go_ret
    refine ⟨X,dv',ov,ys,rfl,?_,Nat.le_of_eq HXE.out.symm⟩
    have:=HJ.out
    rw [HM.out,HBE.out] at this
    exact this
theorem CpJ.wd {w w':World} {P X n key B:Nat} {dn:Nat→Bool} {dv0 dv:Value} {xs:List RObj} {ov:Value} {ys:List RObj} (h:CpJ w' w X n key B dn dv xs xs.length ov ys) (h0:Wd w P n key dn dv0 xs):Wd w' X n key dn dv ys:=by
 have hl:=h.len
 refine ⟨⟨ov,h.hX,by rw [hl];exact qaf h.obj (Nat.zero_le _)⟩,qaf h.down (Nat.zero_le _),fun x hx=>?_,h0.n1,h0.n8,by rw [hl];exact h0.len,h0.hk⟩
 obtain ⟨j,hj,rfl⟩:=List.getElem_of_mem hx
 have hj':j<xs.length:=by rw [←hl];exact hj
 have hs:=h.shs j hj'
 rw [getElem!_pos ys j hj] at hs
 refine ⟨?_,qaf hs (Nat.zero_le _)⟩
 have h1:=(h.same j hj').2
 rw [getElem!_pos ys j hj] at h1
 rw [h1]
 exact (h0.shs (xs[j]!) (by rw [getElem!_pos xs j hj'];exact List.getElem_mem _)).1
theorem Tryz.infoObj6:(Tryz.prog.info? 55).map (fun i=>(i.zero,i.size,i.bytes))=some (some (.agg #[.string ⟨#[]⟩,.int .i64 0,.int .i64 0,.int .i64 0,.int .i64 0,.int .i64 0]),6,56):=by kernel_rfl
theorem Wd.objects_any {w:World} {P n key:Nat} {dn:Nat→Bool} {dv:Value} {xs:List RObj} (h:Wd w P n key dn dv xs) :
  Calls Tryz.prog 72 #[.pointer (some ⟨P,0,none⟩)] w fun e w'=>∃r,e=.returned r∧w'.ownsRow w.heap.size 55 6 r xs.length (obs (xs.map RObj.ob))∧Below w.heap.size w w':=by
 obtain ⟨i0,hi,hz0,hz1,hz2⟩:=info_parts Tryz.infoObj6
 obtain ⟨oa,oc,h1,hrd⟩:=h.hp
 have hPl:=cells_lt h1
 have hl10:=h.len
 obtain ⟨m,hm⟩:∃m,m=xs.length:=⟨_,rfl⟩
 have HM:=hid hm
 rw [←hm] at hl10 h1 ⊢
 have HP:=hid h1
 have HRD:=hid hrd
 clear h1 hrd h hm
 go_enter Tryz.func72,Tryz.ntmps72
 go_wp2_with fail
 go_loopw [3,4] (fun o u wr=>∃k:Nat,k≤m∧u=.int .i64 k∧wr.ownsRow w.heap.size 55 6 o k (obs ((xs.take k).map RObj.ob))∧Below w.heap.size w wr) (fun _ u _=>m-(intOf u).toNat)
 case atStart=>exact ⟨0,Nat.zero_le _,rfl,World.ownsRow_nil _ _ _ _,bl⟩
 case round =>
  obtain ⟨k,hk,rfl,hown,hbr⟩:=hrel
  have hPr:=(hbr.block P hPl).trans HP.out
  have c3:wr.cell? ⟨P,3,none⟩=some (.slice oa m oc):=cq hPr rfl
  have HO:=hid hown
  have hzb:=hbr.size
  clear hown hPr
  by_cases hlt:k<m
  ·have hlt':(k:Int)<(m:Int):=by omega
   have hkx:k<xs.length:=by rw [←HM.out];exact hlt
   have hrdr:=HRD.out.below hbr nl
   obtain ⟨ob,oo,rfl,hobl,_⟩:=hrdr.pos (by rw [qar];omega)
   obtain ⟨_,k0,k1,k2,k3,k4,k5,_⟩:=qbf hrdr k hkx (xs[k]!) (getElem!_pos xs k hkx)
   have HSN:=hid (show obs ((xs.take (k+1)).map RObj.ob)=obs ((xs.take k).map RObj.ob)++[.string (xs[k]!).ob.name,.int .i64 (xs[k]!).ob.mode,.int .i64 (xs[k]!).ob.t,.int .i64 (xs[k]!).ob.l,.int .i64 (xs[k]!).ob.size,.int .i64 (xs[k]!).ob.epoch] by
    rw [List.take_succ_eq_append_getElem hkx,List.map_append,qhT,getElem!_pos xs k hkx]
    rfl)
   generalize obs ((xs.take k).map RObj.ob)=L at *
   generalize (xs[k]!).ob.name=nk at *
   generalize (xs[k]!).ob.mode=mk at *
   generalize (xs[k]!).ob.t=tk at *
   generalize (xs[k]!).ob.l=lk at *
   generalize (xs[k]!).ob.size=zk at *
   generalize (xs[k]!).ob.epoch=ek at *
   clear hrdr hkx
   go_wp2_with (first | (at_builtin;refine wpList_append_lies _ rfl (.tmp 14) (.tmp 23) 52 rfl w.heap.size 55 i0 (.agg #[.string ⟨#[]⟩,.int .i64 0,.int .i64 0,.int .i64 0,.int .i64 0,.int .i64 0]) 6 56 Tryz.underlying52 hi hz0 hz1 hz2 rfl (by decide) u3 _ L rfl (HO.out.alloc _) ⟨wr.heap.size,0,none⟩ 1 1 [.string nk,.int .i64 mk,.int .i64 tk,.int .i64 lk,.int .i64 zk,.int .i64 ek] rfl rfl (World.news_of_block (cs:=#[.string nk,.int .i64 mk,.int .i64 tk,.int .i64 lk,.int .i64 zk,.int .i64 ek]) (t:=55) (fr:=(0,0)) (heap_alloc_new wr _)) (by simp [Value.oneCell']) (by decide) (by unfold maxLen;omega) (by omega) (by simp<;>omega) (wr.heap.size+1) (by simp) ?_;intro g5 c5 w5 hown5 hgrow5 hat5 _;have HO5:=hid hown5;have hb5:Below w.heap.size w w5:=(hbr.alloc hzb _).grown hgrow5 (by simp<;>omega) (fun b hb=>(HO.out.lt b hb).1);rw [←HSN.out] at HO5;clear hown5 hgrow5 hat5)|fail)
   go_roundw
   case rel=>exact ⟨k+1,by omega,by go_num,HO5.out,hb5⟩
   case measure=>simp [intOf];omega
  ·have hkk:k=m:=by omega
   subst hkk
   have HTK:=hid (show xs.take k=xs by rw [HM.out];exact List.take_length)
   rw [HTK.out] at HO
   go_wp2_with fail
   go_ret
   exact ⟨_,rfl,HO.out,hbr⟩
end Go.Proofs.YtcegdgmbponapaaGreatDoor