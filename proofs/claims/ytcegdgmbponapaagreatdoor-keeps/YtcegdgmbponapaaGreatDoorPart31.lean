import Derived.Test.YtcegdgmbponapaaGreatDoorPart30
set_option maxRecDepth 100000
set_option maxHeartbeats 4000000
namespace Go.Proofs.YtcegdgmbponapaaGreatDoor
open Go.RowKit
attribute [local go_sem ↓] Go.wp_at_zero Go.wp_at_succ
theorem qj4 (nr:Int) (n key:Nat) (w:World) (h1:1≤n) (h8:n≤8) (e0:min (max nr 1) 8=(n:Int)) :
  Calls Tryz.prog 56 #[.int .i64 nr,.int .u64 key] w fun e w'=>∃ps v,e=.returned (.pointer (some ⟨w.heap.size,0,none⟩))∧qeu w key n ps v w':=by
 obtain ⟨i0,hi,hz0,hz1,hz2⟩:=info_parts Tryz.infoP
 obtain ⟨q,e1⟩:∃q,max nr 1=q:=⟨_,rfl⟩
 have e2:min q 8=(n:Int):=by rw [←e1];exact e0
 clear e0
 go_enter Tryz.func56,Tryz.ntmps56
 go_wp2_with fail
 go_loopw [12] (fun u wr=>∃(k:Nat) (ps:List Nat) (v:Value),k≤n∧u=.int .i64 k∧qeu w key k ps v wr) (fun u _=>n-(intOf u).toNat)
 case atStart=>exact ⟨0,[],.slice none 0 0,Nat.zero_le _,rfl,rfl,alloc_at _ _,⟨rfl,.inl ⟨rfl,rfl⟩⟩,nofun,List.nodup_nil,(Below.refl _ _).alloc nl _⟩
 case round =>
  obtain ⟨k,ps,v,hk,rfl,hop⟩:=hrel
  by_cases hlt:k<n
  ·have c1:wr.cell? ⟨w.heap.size,1,none⟩=some v:=cq hop.hp rfl
   obtain ⟨a,c,rfl,_⟩:=qad hop.row
   have f1:wr.frozen? ⟨w.heap.size,1,none⟩=false:=qam hop.hp
   have hz:w.heap.size<wr.heap.size:=cells_lt hop.hp
   have hlt':(k:Int)<(n:Int):=by omega
   have hba1:=(Below.refl wr.heap.size wr).alloc nl (.cells #[.bool false,.slice none 0 0] 178)
   have hba2:=hba1.alloc (by simp) (.cells #[.pointer (some ⟨wr.heap.size,0,none⟩)] 147)
   have HRW:=hid (qal hop.row hba2 nl)
   have HOP:=hid hop
   clear hop
   go_wp2_with (first | (at_builtin;refine wpList_append_own _ rfl (.tmp 18) (.tmp 20) 157 rfl w.heap.size 147 i0 _ 1 8 Tryz.underlying157 hi hz0 hz1 hz2 rfl (by decide) (.slice a k c) k (ptrs ps) rfl HRW.out ⟨wr.heap.size+1,0,none⟩ 1 1 [.pointer (some ⟨wr.heap.size,0,none⟩)] rfl rfl (fun j u hj=>by cases j with | zero=>(simp at hj;subst hj;rw [qaW];rw [World.cell?_alloc_at _ _ _ _ (by simp)];rfl)|succ j=>simp at hj) (fun u hu=>by simp at hu;subst hu;rfl) (by unfold maxLen;omega) (by omega) (by simp;omega) ?_;intro v2 w2 hown2 hgrow2 _;(have HO2:=hid hown2);(have HG2:=hid hgrow2);(have HPV:=hid (show w2.heap[w.heap.size]?=some (.cells #[.int .u64 key,.slice a k c,.int .i64 0,.bool false,.int .i64 0,.bool false] 161) from (hgrow2.block _ (by simp;omega) (fun e=>row_ne HOP.out.row HOP.out.hp (by decide) e.symm)).trans ((hba2.block _ hz).trans HOP.out.hp)));(have c2:w2.cell? ⟨w.heap.size,1,none⟩=some (.slice a k c):=cq HPV.out rfl);(have f2:w2.frozen? ⟨w.heap.size,1,none⟩=false:=qam HPV.out);(obtain ⟨a2,cc2,rfl,_⟩:=qad hown2);clear hown2 hgrow2)|fail)
   go_roundw
   case rel =>
    refine ⟨k+1,ps++[wr.heap.size],.slice a2 (k+1) cc2,by omega,by go_num,?_,?_,?_,?_,?_,?_⟩
    ·simp [HOP.out.len]
    ·exact qan _ HPV.out
    ·have:=qab HO2.out ((qaa.refl (fun b=>b=w.heap.size) w2).setCell (p:=⟨w.heap.size,1,none⟩) rfl (.slice a2 (k+1) cc2)) (fun b hb e=>row_ne HO2.out HPV.out (by decide) (by rw [hb,e]))
     simpa [ptrs] using this
    ·intro s hs
     rcases List.mem_append.1 hs with hs | hs
     ·obtain ⟨h1,h2⟩:=HOP.out.st s hs
      have hlt:=cells_lt h1
      refine ⟨?_,h2⟩
      rw [Below.heap_setCell _ _ _ _ (by show s≠w.heap.size;omega),HG2.out.block s (by simp;omega) (fun e=>row_ne HOP.out.row h1 (by decide) e.symm),hba2.block s hlt]
      exact h1
     ·have:s=wr.heap.size:=by simpa using hs
      subst this
      refine ⟨?_,hz⟩
      rw [Below.heap_setCell _ _ _ _ (by show wr.heap.size≠w.heap.size;omega),HG2.out.block _ (by simp;omega) (fun e=>by have:=(HOP.out.row.lt _ e.symm).2;omega),Below.heap_alloc _ _ _ (by simp)]
      exact alloc_at _ _
    ·refine List.nodup_append.2 ⟨HOP.out.nd,List.nodup_cons.2 ⟨nofun,List.nodup_nil⟩,fun s hs t ht=>?_⟩
     have:t=wr.heap.size:=by simpa using ht
     have:=cells_lt (HOP.out.st s hs).1
     omega
    ·exact ((HOP.out.bl.trans (hba2.mono (by omega))).grown HG2.out (by simp;omega) (fun q hq=>(HRW.out.lt q hq).1)).setCell (p:=⟨w.heap.size,1,none⟩) nl _
   case measure=>simp [intOf];omega
  ·have hkn:k=n:=by omega
   subst hkn
   have HOP:=hid hop
   clear hop
   go_wp2
   go_ret
   exact ⟨ps,v,rfl,HOP.out⟩
theorem qjB (nr:Int) (n key:Nat) (w:World) (h1:1≤n) (h8:n≤8) (e0:min (max nr 1) 8=(n:Int)) :
  Calls Tryz.prog 31 #[.int .i64 nr,.int .u64 key] w fun e w'=>∃C w1 ps v,e=.returned (.pointer (some ⟨C,0,none⟩))∧qeu w key n ps v w1∧C=w1.heap.size∧w'=w1.alloc (.cells #[.pointer (some ⟨w.heap.size,0,none⟩)] 100):=by
 have H:=hid (qj4 nr n key w h1 h8 e0)
 clear e0
 go_enter Tryz.func31,Tryz.ntmps31
 go_wp2_with fail
 refine H.out.mono ?_
 rintro e w1 ⟨ps,v,rfl,hop⟩
 have HOP:=hid hop
 clear hop
 go_wp2
 go_ret
 exact ⟨_,w1,ps,v,rfl,HOP.out,rfl,rfl⟩
theorem qfy (nr:Int) (n key:Nat) (w:World) (e0:min (max nr 1) 8=(n:Int)) (h1:1≤n) (h8:n≤8) (hk:key<18446744073709551616) (hT:Tab w) (hE:qaJ w) :
  Calls Tryz.prog 31 #[.int .i64 nr,.int .u64 key] w fun e w'=>∃L s,e=.returned (.pointer (some ⟨L.C,0,none⟩))∧Bank w' L s∧L.base=w.heap.size∧L.n=n∧L.key=key∧(∀i,s.rss i=[])∧(∀i,s.dn i=false)∧s.p=⟨0,false,0,false⟩∧Below w.heap.size w w':=by
 refine (qjB nr n key w h1 h8 e0).mono ?_
 rintro e w' ⟨C,w1,ps,v,rfl,hop,rfl,rfl⟩
 obtain ⟨B,bc,hvt,hst,hne,hB,hps⟩:=hop.parts h1
 have hal:=(Below.refl w1.heap.size w1).alloc nl (.cells #[.pointer (some ⟨w.heap.size,0,none⟩)] 100)
 have hs:qaa (fun _=>False) w1 (w1.alloc (.cells #[.pointer (some ⟨w.heap.size,0,none⟩)] 100)):=qaa.ofBelow hal nl
 have hb:Below w.heap.size w (w1.alloc (.cells #[.pointer (some ⟨w.heap.size,0,none⟩)] 100)):=hop.bl.trans (hal.mono hop.bl.size)
 refine ⟨⟨w.heap.size,w1.heap.size,w.heap.size,key,n,B,bc,fun i=>ps[i]!⟩,⟨fun _=>false,fun _=>.slice none 0 0,fun _=>[],⟨0,false,0,false⟩,fun _=>[]⟩,rfl,?_,rfl,rfl,rfl,fun _=>rfl,fun _=>rfl,rfl,hb⟩
 refine ⟨alloc_at w1 _,?_,h1,h8,hk,fun i hi=>(hst i hi).keeps hs (fun h=>h) (fun _ _ h=>h),?_,?_,⟨hT.keeps hb nl,hE.keeps hb nl,hT.2,hE.2,hb.size⟩,hop.bl.size,Nat.le_refl _,hB,hps,?_,?_,?_⟩
 ·exact Vp.keeps (p:=⟨0,false,0,false⟩) hvt hs (fun h=>h) (fun h=>h)
 ·intro i j hi hj hij
  rcases Nat.lt_or_gt_of_ne hij with h | h
  ·exact hne i j h hj
  ·exact (hne j i h hi).symm
 ·intro i j _ _ _ b hb
  cases hb
 ·intro i _ b hb
  cases hb
 ·intro i _ r hr
  cases hr
 ·intro i j _ _ r hr
  cases hr
theorem tx_lo {a:UInt8} (h:a.toNat<128):(a.toNat:Int)*(2:Int) % (256:Int)=((Cof.tx a).toNat:Int):=by
 apply qlr
 have h1:=Cof.all256 (fun a=>decide (128≤a.toNat) || (a &&& 128 == 0)) (by decide +kernel) a
 have h2:a &&& 128=0:=by simpa [show ¬128≤a.toNat from by omega] using h1
 have h3:=qdg a 128
 have h4:((128:UInt8).toNat:Int)=128:=rfl
 rw [h4] at h3
 rw [h3,h2];rfl
theorem qlO (b:UInt8):(bits .and .u8 (b.toNat:Int) (1:Int) == 1)=(b &&& 1 == 1):=by
 have h:=qdg b 1
 have h3:((1:UInt8).toNat:Int)=1:=rfl
 rw [h3] at h
 rw [h]
 rcases Cof.bit01 b with h | h<;>rw [h]<;>rfl
theorem qgu (xs:List UInt8) (i:Nat) (x y:UInt8):Cof.mul (Cof.mul y (Cof.prodTo xs i x xs.length)) (Cof.inv (Cof.prodTo xs i (xs.getD i 0) xs.length))=Cof.mul (Cof.polyAt (Cof.basis xs i) x) y:=by
 rw [Cof.basis_val,Cof.mul_assoc,Cof.mul_comm y,Cof.mul_comm (Cof.prodTo xs i x xs.length)]
theorem qd8 (a b:UInt8):bits .xor .i64 (a.toNat:Int) (b.toNat:Int)=((a^^^b).toNat:Int):=by
 have ha:=a.toNat_lt;have hb:=b.toNat_lt
 have e1:BitVec.ofInt IntKind.i64.bits (a.toNat:Int)=BitVec.ofNat 64 a.toNat:=by
  apply BitVec.eq_of_toNat_eq;simp [IntKind.bits]
 have e2:BitVec.ofInt IntKind.i64.bits (b.toNat:Int)=BitVec.ofNat 64 b.toNat:=by
  apply BitVec.eq_of_toNat_eq;simp [IntKind.bits]
 simp only [bits,e1,e2]
 show IntKind.i64.wrap (((BitVec.ofNat 64 a.toNat^^^BitVec.ofNat 64 b.toNat).toNat:Nat):Int)=_
 have e3:(BitVec.ofNat 64 a.toNat^^^BitVec.ofNat 64 b.toNat).toNat=(a^^^b).toNat:=by
  simp [Nat.mod_eq_of_lt (show a.toNat<18446744073709551616 by omega),Nat.mod_eq_of_lt (show b.toNat<18446744073709551616 by omega)]
 rw [e3,IntKind.wrap_i64]
 have:=(a^^^b).toNat_lt
 omega
theorem qls {a:UInt8} (h:128≤a.toNat):bits .xor .i64 (2*(a.toNat:Int)) 283=((Cof.tx a).toNat:Int):=by
 have h1:=Cof.all256 (fun a=>decide (a.toNat<128) || (bits .xor .i64 (2*(a.toNat:Int)) 283 == ((Cof.tx a).toNat:Int))) (by decide +kernel) a
 simpa [show ¬a.toNat<128 from by omega] using h1
theorem qly {a:UInt8} (h:a.toNat<128):2*(a.toNat:Int)=((Cof.tx a).toNat:Int):=by
 have:=tx_lo h;omega
theorem qcD (a b:UInt8) (w:World) :
  Calls Tryz.prog 239 #[.int .u8 a.toNat,.int .u8 b.toNat] w fun e w'=>e=.returned (.int .u8 (Cof.mul a b).toNat)∧w'=w:=by
 have ha6:(a.toNat:Int)≤255:=by have:=a.toNat_lt;omega
 go_enter Tryz.func239,Tryz.ntmps239
 go_wp2
 go_loop [5,6,7] (fun p x i=>∃(a' b' p':UInt8) (k:Nat),k≤8∧i=.int .i64 k∧x=.int .i64 a'.toNat∧p=.int .i64 p'.toNat∧(b.toNat:Int) / 2 ^ k=(b'.toNat:Int)∧p'^^^Cof.mulN (8-k) a' b'=Cof.mul a b) (fun _ _ i=>8-(intOf i).toNat)
 case atStart=>exact ⟨a,b,0,0,by omega,rfl,rfl,rfl,by simp,by simp [Cof.mul]⟩
 case round =>
  obtain ⟨a',b',p',k,hk,rfl,rfl,rfl,hsh,hp⟩:=hrel
  have HP:=hid hp
  have ha':(a'.toNat:Int)≤255:=by have:=a'.toNat_lt;omega
  have hp':(p'.toNat:Int)≤255:=by have:=p'.toNat_lt;omega
  clear hp
  by_cases hlt:k<8
  ·have e8:8-k=(8-(k+1))+1:=by omega
   have hst:(p'^^^(if b' &&& 1 == 1 then a' else 0))^^^Cof.mulN (8-(k+1)) (Cof.tx a') (b' >>> 1)=Cof.mul a b:=by
    rw [←HP.out,e8,Cof.mulN,UInt8.xor_assoc]
   have HS:=hid hst
   have HSH:=hid (show (b.toNat:Int) / 2 ^ (k+1)=((b' >>> 1).toNat:Int) by
    rw [←shr1,←hsh,Int.pow_succ,Int.ediv_mul_of_nonneg (by exact Int.pow_nonneg (by decide))];rfl)
   have hob:=qlO b'
   have hk1:(k:Int)<8:=by omega
   clear hst e8 HP
   by_cases ha:128≤a'.toNat
   ·have hg1:(255:Int)<2*(a'.toNat:Int):=by omega
    have HA:=hid (qls ha)
    clear ha
    by_cases hb:(b' &&& 1 == 1)=true
    ·rw [hb] at hob
     have HB:=hid hb
     clear hb
     go_wp2
     go_round
     case rel=>exact ⟨_,_,p'^^^a',k+1,by omega,by go_num,by rw [HA.out],by rw [qd8],HSH.out,by have:=HS.out;rw [if_pos HB.out] at this;exact this⟩
     case measure=>simp [intOf];omega
    ·have hb':(b' &&& 1 == 1)=false:=by simpa using hb
     rw [hb'] at hob
     have HB:=hid hb
     clear hb hb'
     go_wp2
     go_round
     case rel=>exact ⟨_,_,_,k+1,by omega,by go_num,by rw [HA.out],rfl,HSH.out,by have:=HS.out;rw [if_neg HB.out] at this;simpa using this⟩
     case measure=>simp [intOf];omega
   ·have hg1:¬(255:Int)<2*(a'.toNat:Int):=by omega
    have HA:=hid (qly (show a'.toNat<128 by omega))
    clear ha
    by_cases hb:(b' &&& 1 == 1)=true
    ·rw [hb] at hob
     have HB:=hid hb
     clear hb
     go_wp2
     go_round
     case rel=>exact ⟨_,_,p'^^^a',k+1,by omega,by go_num,by rw [HA.out],by rw [qd8],HSH.out,by have:=HS.out;rw [if_pos HB.out] at this;exact this⟩
     case measure=>simp [intOf];omega
    ·have hb':(b' &&& 1 == 1)=false:=by simpa using hb
     rw [hb'] at hob
     have HB:=hid hb
     clear hb hb'
     go_wp2
     go_round
     case rel=>exact ⟨_,_,_,k+1,by omega,by go_num,by rw [HA.out],rfl,HSH.out,by have:=HS.out;rw [if_neg HB.out] at this;simpa using this⟩
     case measure=>simp [intOf];omega
  ·have hk8:k=8:=by omega
   subst hk8
   go_wp2
   go_ret
   exact ⟨qbo (by have e:p'=Cof.mul a b:=(by rw [←HP.out];simp [Cof.mulN]);rw [←e]),rfl⟩
def und:Nat→UInt8→UInt8→UInt8
 | 0,_,p=>p
 | n+1,a,p=>und n (Cof.mul a a) (Cof.mul p (Cof.mul a a))
theorem qlS (a:UInt8):und 7 a 1=Cof.inv a:=by
 have:=Cof.all256 (fun a=>und 7 a 1 == Cof.inv a) (by decide +kernel) a
 simpa using this
theorem qjw (a:UInt8) (w:World) :
  Calls Tryz.prog 238 #[.int .u8 a.toNat] w fun e w'=>e=.returned (.int .u8 (Cof.inv a).toNat)∧w'=w:=by
 go_enter Tryz.func238,Tryz.ntmps238
 go_wp2
 go_loop [0,3,4] (fun x p i=>∃(a' p':UInt8) (k:Nat),1≤k∧k≤8∧i=.int .i64 k∧x=.int .u8 a'.toNat∧p=.int .u8 p'.toNat∧und (8-k) a' p'=und 7 a 1) (fun _ _ i=>8-(intOf i).toNat)
 case atStart=>exact ⟨a,1,1,by omega,by omega,rfl,rfl,rfl,rfl⟩
 case round =>
  obtain ⟨a',p',k,hk0,hk,rfl,rfl,rfl,hp⟩:=hrel
  have HP:=hid hp
  clear hp
  by_cases hlt:k<8
  ·have e8:8-k=(8-(k+1))+1:=by omega
   have HS:=hid (show und (8-(k+1)) (Cof.mul a' a') (Cof.mul p' (Cof.mul a' a'))=und 7 a 1 by rw [←HP.out,e8,und])
   have hk1:(k:Int)<8:=by omega
   clear e8
   go_wp2_with (first | (go_at_call_of 239 (Value.int .u8 a'.toNat);refine (qcD a' a' _).mono ?_;rintro e w1 ⟨rfl,rfl⟩;generalize Cof.mul a' a'=a2 at HS ⊢)|(go_at_call_of 239 (Value.int .u8 p'.toNat);refine (qcD p' _ _).mono ?_;rintro e w1 ⟨rfl,rfl⟩))
   go_round
   case rel=>exact ⟨_,_,k+1,by omega,by omega,by go_num,rfl,rfl,HS.out⟩
   case measure=>simp [intOf];omega
  ·have hk8:k=8:=by omega
   subst hk8
   go_wp2
   go_ret
   exact ⟨qbo (by rw [←qlS,←HP.out];rfl),rfl⟩
def PtRd (w:World) (a:Option Addr) (xs ys:List UInt8):Prop :=
 ∀i,i<xs.length→∃b o,a=some ⟨b,o,none⟩∧b<w.heap.size∧w.cell? ⟨b,o+i*2,none⟩=some (.int .u8 (xs.getD i 0).toNat)∧w.cell? ⟨b,o+i*2+1,none⟩=some (.int .u8 (ys.getD i 0).toNat)
theorem qlz {a b:UInt8} (ha:a≠0) (hb:b≠0):Cof.inv (Cof.mul a b)=Cof.mul (Cof.inv a) (Cof.inv b):=by
 have hab:Cof.mul a b≠0:=fun h=>hb (Cof.mul_eq_zero h ha)
 have e1:Cof.mul (Cof.mul a b) (Cof.mul (Cof.inv a) (Cof.inv b))=1:=by
  rw [Cof.mul_comm a b,Cof.mul_assoc,←Cof.mul_assoc a,Cof.mul_inv a ha,Cof.one_mul,Cof.mul_inv b hb]
 have e2:Cof.inv (Cof.mul a b)=Cof.mul (Cof.inv (Cof.mul a b)) (Cof.mul (Cof.mul a b) (Cof.mul (Cof.inv a) (Cof.inv b))):=by rw [e1,Cof.mul_one]
 rw [e2,←Cof.mul_assoc,Cof.mul_comm (Cof.inv (Cof.mul a b)),Cof.mul_inv _ hab,Cof.one_mul]
theorem qlR (y p1 p2 g1 g2:UInt8) (h1:p2≠0) (h2:g2≠0) :
  Cof.mul (Cof.mul (Cof.mul (Cof.mul y p1) (Cof.inv p2)) g1) (Cof.inv g2)=Cof.mul (Cof.mul y (Cof.mul p1 g1)) (Cof.inv (Cof.mul p2 g2)):=by
 rw [qlz h1 h2,Cof.mul_assoc (Cof.mul y p1),Cof.mul_comm (Cof.inv p2) g1,←Cof.mul_assoc (Cof.mul y p1),Cof.mul_assoc y p1 g1,Cof.mul_assoc]
theorem qhi {a b:UInt8} (h:b≠a):a^^^b≠0:=by
 intro h0
 apply h
 have:=congrArg (·^^^b) h0
 simpa [UInt8.xor_assoc] using this.symm
theorem qgH (a:Option Addr) (c m:Nat) (xs ys:List UInt8) (x:UInt8) (w:World) (ex:m=xs.length) (hr:PtRd w a xs ys) (hn:xs.Nodup) (hm:m≤100) :
  Calls Tryz.prog 209 #[.slice a m c,.int .u8 x.toNat] w fun e w'=>e=.returned (.int .u8 (Cof.itp xs ys x).toNat)∧Below w.heap.size w w':=by
 have EX:=hid ex
 have HN:=hid hn
 have HR:=hid hr
 clear ex hn hr
 go_enter Tryz.func209,Tryz.ntmps209
 go_wp2
 go_loopw [5,6] (fun s i wr=>∃k:Nat,k≤m∧i=.int .i64 k∧s=.int .u8 (Cof.csum (fun j=>Cof.polyAt (Cof.basis xs j) x) (fun j=>ys.getD j 0) k).toNat∧Below w.heap.size w wr)
  (fun _ i _=>m-(intOf i).toNat)
 case atStart=>exact ⟨0,Nat.zero_le _,rfl,rfl,bl⟩
 case round =>
  obtain ⟨i,hi,rfl,rfl,hbel⟩:=hrel
  by_cases hlt:i<m
  ·have hix:i<xs.length:=by rw [←EX.out];exact hlt
   obtain ⟨b,o,rfl,hb,h1,h2⟩:=HR.out i hix
   have cy:wr.cell? ⟨b,o+i*2+1,none⟩=some (.int .u8 (ys.getD i 0).toNat):=(hbel.cell (by exact hb)).trans h2
   have HSUM:=hid (show Cof.csum (fun j=>Cof.polyAt (Cof.basis xs j) x) (fun j=>ys.getD j 0) (i+1)=Cof.csum (fun j=>Cof.polyAt (Cof.basis xs j) x) (fun j=>ys.getD j 0) i^^^Cof.mul (Cof.polyAt (Cof.basis xs i) x) (ys.getD i 0) from rfl)
   generalize Cof.csum (fun j=>Cof.polyAt (Cof.basis xs j) x) (fun j=>ys.getD j 0) i=s0 at HSUM ⊢
   have HTERM:=hid (qgu xs i x (ys.getD i 0))
   have HC1:=hid h1
   have HNE:=hid (fun k (hk:k≤xs.length)=>Cof.prodTo_ne xs i k (xs.getD i 0) (fun j hj hne=>Cof.nodup_ne HN.out hix (by omega) hne))
   have HNX:=hid (fun k (hk:k<xs.length) (hne:k≠i)=>qhi (Cof.nodup_ne HN.out hix hk hne))
   generalize ys.getD i 0=yi at HSUM HTERM cy ⊢
   obtain ⟨xi,hxi⟩:∃xi,xi=xs.getD i 0:=⟨_,rfl⟩
   rw [←hxi] at HTERM HNE HC1 HNX
   have hi1:(i:Int)<(m:Int):=by omega
   clear h1 h2 hxi
   go_wp2
   go_loopw [7,8] (fun t q wq=>∃k:Nat,k≤m∧q=.int .i64 k∧t=.int .u8 (Cof.mul (Cof.mul yi (Cof.prodTo xs i x k)) (Cof.inv (Cof.prodTo xs i xi k))).toNat∧Below w.heap.size w wq)
    (fun _ q _=>m-(intOf q).toNat)
   case atStart=>exact ⟨0,Nat.zero_le _,rfl,by rw [show Cof.prodTo xs i x 0=1 from rfl,show Cof.prodTo xs i xi 0=1 from rfl,show Cof.inv 1=1 by decide +kernel,Cof.mul_one,Cof.mul_one],hbel⟩
   case round =>
    obtain ⟨k,hk,rfl,rfl,hbq⟩:=hrel
    by_cases hkm:k<m
    ·have hkx:k<xs.length:=by rw [←EX.out];exact hkm
     obtain ⟨b',o',e1,_,h3,_⟩:=HR.out k hkx
     obtain ⟨rfl,rfl⟩:b=b'∧o=o':=by injection e1 with e1;injection e1 with h1 h2;exact ⟨h1,h2⟩
     have ck:=(hbq.cell (p:=⟨b,o+k*2,none⟩) (by exact hb)).trans h3
     have ci:=(hbq.cell (p:=⟨b,o+i*2,none⟩) (by exact hb)).trans HC1.out
     have hk1:(k:Int)<(m:Int):=by omega
     clear e1 h3
     by_cases hki:k=i
     ·have hb1:((k:Int) != (i:Int))=false:=by simp [hki]
      have HKI:=hid hki
      clear hki
      go_wp2
      go_roundw
      case rel=>exact ⟨k+1,by omega,by go_num,by simp [Cof.prodTo,HKI.out],hbq⟩
      case measure=>simp [intOf];omega
     ·have hb1:((k:Int) != (i:Int))=true:=by rw [bne_iff_ne];omega
      have P1:=hid (show Cof.prodTo xs i x (k+1)=Cof.mul (Cof.prodTo xs i x k) (x^^^xs.getD k 0) from by simp [Cof.prodTo,hki])
      have P2:=hid (show Cof.prodTo xs i xi (k+1)=Cof.mul (Cof.prodTo xs i xi k) (xi^^^xs.getD k 0) from by simp [Cof.prodTo,hki])
      have N1:=hid (HNE.out k (by omega))
      have N2:=hid (HNX.out k hkx hki)
      generalize xs.getD k 0=xk at ck P1 P2 N2
      have b1:=qaY x xk
      have b2:=qaY xi xk
      generalize x^^^xk=g1 at b1 P1
      generalize xi^^^xk=g2 at b2 P2 N2
      generalize Cof.prodTo xs i x k=p1 at P1 ⊢
      generalize Cof.prodTo xs i xi k=p2 at P2 N1 ⊢
      have HST:=hid (qlR yi p1 p2 g1 g2 N1.out N2.out)
      generalize Cof.mul (Cof.mul yi p1) (Cof.inv p2)=t0 at HST ⊢
      clear hki
      go_wp2_with fail
      go_quiet ((go_at_call 238;exact Calls.quiet_of_same (qjw _ _)))
      go_wp2_with (first | (go_at_call_of 239 (Value.int .u8 t0.toNat);refine (qcD _ _ _).mono ?_;rintro e w1 ⟨rfl,rfl⟩;generalize Cof.mul t0 g1=t1 at HST ⊢)|(go_at_call_of 239 (Value.int .u8 t1.toNat);refine (qcD _ _ _).mono ?_;rintro e w1 ⟨rfl,rfl⟩))
      go_roundw
      case rel=>exact ⟨k+1,by omega,by go_num,by rw [P1.out,P2.out,←HST.out],below_drewN hbq _⟩
      case measure=>simp [intOf];omega
    ·have hkn:k=xs.length:=by rw [←EX.out];omega
     subst hkn
     have hk1:¬((xs.length:Nat):Int)<(m:Int):=by omega
     rw [HTERM.out]
     go_wp2
     go_roundw
     case rel=>exact ⟨i+1,by omega,by go_num,by rw [qaY,HSUM.out],hbq⟩
     case measure=>simp [intOf];omega
  ·have hkn:i=xs.length:=by rw [←EX.out];omega
   subst hkn
   go_wp2
   go_ret
   exact ⟨rfl,hbel⟩
theorem qcG (mode t l n:Nat) (w:World) (h:qaj mode t l n) :
  Calls Tryz.prog 208 #[.agg #[.int .i64 mode,.int .i64 t,.int .i64 l]] w fun e w'=>e=.returned (.int .i64 (Cof.gsize mode t l))∧Below w.heap.size w w':=by
 obtain ⟨_,_,_,_,_,h6⟩:=h
 rcases h6 with ⟨rfl,h6⟩|⟨rfl,rfl⟩
 ·go_enter Tryz.func208,Tryz.ntmps208
  go_wp2
  go_ret
  exact ⟨rfl,(Below.refl _ _).alloc nl _⟩
 ·go_enter Tryz.func208,Tryz.ntmps208
  go_wp2
  go_ret
  exact ⟨rfl,(Below.refl _ _).alloc nl _⟩
theorem qcj (mode t l n size:Nat) (w:World) (h:qaj mode t l n) (hs:size≤60) :
  Calls Tryz.prog 206 #[.agg #[.int .i64 mode,.int .i64 t,.int .i64 l],.int .i64 size] w fun e w'=>e=.returned (.int .i64 (Cof.ngroups mode t l size))∧Below w.heap.size w w':=by
 have hg1:1≤Cof.gsize mode t l:=by have:=h.t1;have:=h.l1;unfold Cof.gsize;split<;>omega
 have hg2:Cof.gsize mode t l≤8:=by obtain ⟨_,_,_,_,_,h6⟩:=h;unfold Cof.gsize;split<;>omega
 have HN:Hid (Cof.ngroups mode t l size=(size+Cof.gsize mode t l-1) / Cof.gsize mode t l):=rfl
 have hba:=(Below.refl w.heap.size w).alloc nl (.cells #[.int .i64 mode,.int .i64 t,.int .i64 l] 29)
 go_enter Tryz.func206,Tryz.ntmps206
 go_wp2_with fail
 refine (qcG mode t l n _ h).mono ?_
 rintro e w1 ⟨rfl,hb1⟩
 generalize Cof.gsize mode t l=gs at *
 go_wp2
 go_ret
 refine ⟨qbo ?_,hba.trans (hb1.mono (by simp))⟩
 rw [HN.out];have:((size+gs-1:Nat):Int)=(size:Int)+gs-1:=by omega
 rw [Int.natCast_ediv,this]
theorem qca (mode t l n size:Nat) (w:World) (h:qaj mode t l n) (hs:size≤60) :
  Calls Tryz.prog 201 #[.agg #[.int .i64 mode,.int .i64 t,.int .i64 l],.int .i64 size] w fun e w'=>e=.returned (.int .i64 ((Cof.tsize mode t*Cof.ngroups mode t l size:Nat):Int))∧Below w.heap.size w w':=by
 have hng:=qao h size hs
 have hba:=(Below.refl w.heap.size w).alloc nl (.cells #[.int .i64 mode,.int .i64 t,.int .i64 l] 29)
 have HP:=hid h
 obtain ⟨h1,h2,h3,h4,h5,h6⟩:=h
 rcases h6 with ⟨rfl,h6⟩|⟨rfl,rfl⟩
 ·obtain ⟨u,rfl⟩:∃u,t=u+1:=⟨t-1,by omega⟩
  have hw:IntKind.i64.wrap (u:Int)=u:=by rw [IntKind.wrap_i64];omega
  obtain ⟨G,hG⟩:∃G,G=Cof.ngroups 0 (u+1) l size:=⟨_,rfl⟩
  rw [←hG] at hng ⊢
  have HG:=hid hG
  clear hG
  obtain ⟨Q,hQ⟩:∃Q,Q=u*G:=⟨_,rfl⟩
  have hQi:(u:Int)*(G:Int)=(Q:Int):=by rw [hQ];simp
  have hQ8:Q≤8*60:=by rw [hQ];exact Nat.mul_le_mul (by omega) hng
  have HQ:=hid hQ
  have hwQ:IntKind.i64.wrap (Q:Int)=Q:=by rw [IntKind.wrap_i64];omega
  clear hQ
  have HGR:=hid (fun w=>show Calls Tryz.prog 206 #[.agg #[.int .i64 0,.int .i64 ((u:Int)+1),.int .i64 l],.int .i64 size] w (fun e w'=>e=.returned (.int .i64 G)∧Below w.heap.size w w') by
   have h:=qcj 0 (u+1) l n size w HP.out hs
   rw [←HG.out] at h
   exact h)
  go_enter Tryz.func201,Tryz.ntmps201
  go_wp2_with fail
  go_region_held3 (fun w'=>w'.cell? ⟨w.heap.size,0,none⟩=some (.int .i64 0)∧w'.cell? ⟨w.heap.size,1,none⟩=some (.int .i64 ((u:Int)+1))∧w'.cell? ⟨w.heap.size,2,none⟩=some (.int .i64 l)) (first | exact ⟨x0,x1,x2⟩|go_keep)
   ((go_at_call 206;refine (HGR.out _).mono ?_;rintro e w1 ⟨rfl,hb1⟩;have hb01:Below w.heap.size w w1:=((hba.drew).trans (hb1.mono (by simp)));have hc:=(qbM hb1).1;have x0:w1.cell? ⟨w.heap.size,0,none⟩=some (.int .i64 0):=(hc _ _ (by simp)).trans (by simp);have x1:w1.cell? ⟨w.heap.size,1,none⟩=some (.int .i64 ((u:Int)+1)):=(hc _ _ (by simp)).trans (by simp);have x2:w1.cell? ⟨w.heap.size,2,none⟩=some (.int .i64 l):=(hc _ _ (by simp)).trans (by simp)))
  go_wp2
  go_ret
  exact ⟨qbo (by rw [HQ.out];simp [Cof.tsize]),hb01⟩
 ·go_enter Tryz.func201,Tryz.ntmps201
  go_wp2
  go_ret
  exact ⟨qbo (by simp [Cof.tsize]),hba⟩
theorem qbC (mode t l n:Nat) (w:World) (h:qaj mode t l n) :
  Calls Tryz.prog 200 #[.agg #[.int .i64 mode,.int .i64 t,.int .i64 l],.int .i64 n] w fun e w'=>e=.returned (.bool true)∧Below w.heap.size w w':=by
 have hba:=(Below.refl w.heap.size w).alloc nl (.cells #[.int .i64 mode,.int .i64 t,.int .i64 l] 29)
 obtain ⟨h1,h2,h3,h4,h5,h6⟩:=h
 rcases h6 with ⟨rfl,h6⟩|⟨rfl,rfl⟩
 ·go_enter Tryz.func200,Tryz.ntmps200
  go_wp2
  go_ret
  exact ⟨congrArg (fun b=>Ending.returned (.bool b)) (decide_eq_true (by omega)),hba⟩
 ·go_enter Tryz.func200,Tryz.ntmps200
  go_wp2
  go_ret
  exact ⟨rfl,hba⟩
theorem qhv (m t l n:Int) (w:World) (hm:I64 m) (ht:I64 t) (hl:I64 l) (hn:I64 n) (h:¬(1≤n∧n≤8∧Fits m t l n)) :
  Calls Tryz.prog 200 #[.agg #[.int .i64 m,.int .i64 t,.int .i64 l],.int .i64 n] w fun e w'=>e=.returned (.bool false)∧Below w.heap.size w w':=by
 have hba:=(Below.refl w.heap.size w).alloc nl (.cells #[.int .i64 m,.int .i64 t,.int .i64 l] 29)
 obtain ⟨hm1,hm2⟩:=hm
 obtain ⟨ht1,ht2⟩:=ht
 obtain ⟨hl1,hl2⟩:=hl
 obtain ⟨hn1,hn2⟩:=hn
 have hh:n<1∨1≤n∧8<n∨(1≤n∧n≤8)∧(t<1∨1≤t∧n<t∨(1≤t∧t≤n)∧(l<1∨1≤l∧n<l∨(1≤l∧l≤n)∧(m=0∧n<t+l-1∨m=1∧l≠1∨m≠0∧m≠1))):=by
  unfold Fits at h;omega
 clear h
 rcases hh with h | ⟨h,h'⟩|⟨⟨h1,h2⟩,h | ⟨h,h'⟩|⟨⟨h3,h4⟩,h | ⟨h,h'⟩|⟨⟨h5,h6⟩,⟨rfl,h⟩|⟨rfl,h⟩|⟨h,h'⟩⟩⟩⟩
 ·go_enter Tryz.func200,Tryz.ntmps200
  go_wp2
  go_ret
  exact ⟨rfl,hba⟩
 ·go_enter Tryz.func200,Tryz.ntmps200
  go_wp2
  go_ret
  exact ⟨rfl,hba⟩
 ·go_enter Tryz.func200,Tryz.ntmps200
  go_wp2
  go_ret
  exact ⟨rfl,hba⟩
 ·go_enter Tryz.func200,Tryz.ntmps200
  go_wp2
  go_ret
  exact ⟨rfl,hba⟩
 ·go_enter Tryz.func200,Tryz.ntmps200
  go_wp2
  go_ret
  exact ⟨rfl,hba⟩
 ·go_enter Tryz.func200,Tryz.ntmps200
  go_wp2
  go_ret
  exact ⟨rfl,hba⟩
 ·go_enter Tryz.func200,Tryz.ntmps200
  go_wp2
  go_ret
  exact ⟨congrArg (fun b=>Ending.returned (.bool b)) (decide_eq_false (by omega)),hba⟩
 ·go_enter Tryz.func200,Tryz.ntmps200
  go_wp2
  go_ret
  exact ⟨congrArg (fun b=>Ending.returned (.bool b)) (beq_eq_false_iff_ne.2 h),hba⟩
 ·go_enter Tryz.func200,Tryz.ntmps200
  go_wp2
  go_ret
  exact ⟨rfl,hba⟩
end Go.Proofs.YtcegdgmbponapaaGreatDoor