/- Merged. -/
import Derived.Test.YtbahbnbpmfgimaaGreatDoorBun17
import Derived.Test.YtbahbnbpmfgimaaGreatDoorBun23
set_option maxHeartbeats 4000000
namespace Go.Proofs.Y
open Go.RowKit Go.Hm
def zl4(t:Int)(l:List zab):Option (List Nat):=
 match plO t (zh9 l).1 with
 |none=>none
 |some V=>if l.length<=65536 then some (vp (zh9 l).1.length++vp V.length++V++zz5 (zh9 l).2) else none
structure IsDic(t:Int)(b:List Nat)(n:Int)(o:Option (List zab)):Prop where
 sound:∀l,o=some l->(l.length:Int)=n/\zl4 t l=some b/\ ∀c∈l,zaq c
 compl:∀l,(∀c∈l,zaq c)->(l.length:Int)=n->zl4 t l=some b->o=some l
theorem IsDic.uniq{t:Int}{b:List Nat}{n:Int}{o p:Option (List zab)}(h:IsDic t b n o)(k:IsDic t b n p):o=p:=by
 cases o with
 |some l=>obtain⟨a,b,c⟩:=h.sound l rfl;exact(k.compl l c a b).symm
 |none=>
  cases p with
  |none=>rfl
  |some l=>obtain⟨a,b,c⟩:=k.sound l rfl;exact h.compl l c a b
theorem zo5{l:List zab}(hl:l.length<=65536):∀x∈(zh9 l).2,x<=18446744073709551615:=fun x hx=>by have:=(zox l).lt x hx;have:=zsv l;omega
open Go.RowKit Go.Hm
def qho(S:St):zdb × St:=if(zcc (lenS 65536 S).2).1=0/\(zcc (lenS 65536 S).2).2≠none then((((lenS 65536 S).1:Int),false,za8,za8),(zcc (lenS 65536 S).2).2) else(zbx,none)
def zno(s:zdb)(g:Nat)(S:St)(w:World)(e:Ending)(w':World):Prop:=e= .returned (zce s)/\CurS w' g S/\w.grownBy w' (some g)
set_option maxRecDepth 100000 in
theorem qgt{w:World}{g:Nat}{S:St}{t:Int}(h:CurS w g S)(h1:(zcc (lenS 65536 S).2).1≠1)(ht:0<=t/\t<=3):
 Calls Tryz.prog 138 #[.pointer (some ⟨g,0,none⟩),.int .i64 t] w
  (zno (qho S).1 g (qho S).2 w):=by
 obtain⟨X,hX⟩:∃X,X=qho S:=⟨_,rfl⟩;rw[<-hX];unfold qho at hX;have hle:=zdg (m:=65536) S (by omega) h.ok;have hlt:=h.lt;have ha:New w (w.alloc (.cells (zb8 zbx).toArray 133)):=(Below.refl _ _).alloc (Nat.le_refl _) _;have h0:=h.below ha;have L1:=Hz (zdw (m:=65536) h0 (by omega) (by omega));have BZ0:Blk (w.alloc (.cells (zb8 zbx).toArray 133)) w.heap.size 133 (zb8 zbx).toArray:=Blk.new _ _ _;generalize lenS 65536 S=H at*;obtain⟨n,S1⟩:=H;dsimp only at*;have hbl:=znk (S:=S1);have hRt:zb9 t ((n:Int),false,za8,za8)=true:=by unfold zb9;rw[if_neg (by dsimp only;omega)];simp
 have SR:=fun(W:World)=>zg6 (w:=W) (t:=t) (s:=((n:Int),false,za8,za8)) (by unfold zec za8;simp)
 rw[hRt] at SR;have SR:Hid (∀W,Calls Tryz.prog 133 #[.int .i64 t,.agg #[.int .i64 (n:Int),.bool false,.bool false,.int .i64 0,.string ⟨#[]⟩,.int .i64 0,.int .i64 0,.bool false,.int .i64 0,.string ⟨#[]⟩,.int .i64 0,.int .i64 0]] W (zal (.bool true) W)):=Hz SR;have HX:=Hz hX;clear hRt h hX;go_enter Tryz.func138,Tryz.ntmps138
 go_wp2_with fail
 refine L1.out.mono ?_;rintro e w1 ⟨rfl,s1,g1⟩;have hbl:=hbl s1.ok;have C2:=Hz (ziq (s1.below ((Below.refl _ _).alloc (Nat.le_refl _) (.cells #[.int .i64 (n:Int),.bool false,.bool false,.int .i64 0,.string ⟨#[]⟩,.int .i64 0,.int .i64 0,.bool false,.int .i64 0,.string ⟨#[]⟩,.int .i64 0,.int .i64 0] 133))));have hz1:=g1.size;have BZ1:=(BZ0.grown g1 (by intro e;injection e with e;omega)).alloc (.cells #[.int .i64 (n:Int),.bool false,.bool false,.int .i64 0,.string ⟨#[]⟩,.int .i64 0,.int .i64 0,.bool false,.int .i64 0,.string ⟨#[]⟩,.int .i64 0,.int .i64 0] 133);have BT1:=Blk.new w1 133 #[.int .i64 (n:Int),.bool false,.bool false,.int .i64 0,.string ⟨#[]⟩,.int .i64 0,.int .i64 0,.bool false,.int .i64 0,.string ⟨#[]⟩,.int .i64 0,.int .i64 0];have G1:=(Far.of_new ha (g:=g)).trans (g1.trans (Far.of_new ((Below.refl _ w1).alloc (Nat.le_refl _) (.cells #[.int .i64 (n:Int),.bool false,.bool false,.int .i64 0,.string ⟨#[]⟩,.int .i64 0,.int .i64 0,.bool false,.int .i64 0,.string ⟨#[]⟩,.int .i64 0,.int .i64 0] 133))));generalize zcc S1=Bq at*;obtain⟨y,S2⟩:=Bq;dsimp only at*;clear L1 h0 BZ0 s1 g1 ha;go_wp2_with fail
 refine C2.out.mono ?_;rintro e w2 ⟨rfl,s2,g2⟩;have hz2:=g2.size;simp only[World.size_alloc] at hz1 hz2;have BZ:=BZ1.grown g2 (by intro e;injection e with e;omega);have BT:=BT1.grown g2 (by intro e;injection e with e;omega);have G2:=G1.trans g2;clear C2 BZ1 BT1 G1 g2;obtain⟨x0,x1,x2,x3,x4,x5,x6,x7,x8,x9,x10,x11⟩:=zba BT;have y1:((y:Int)==1)=false:=beq_eq_false_iff_ne.2 (by omega);by_cases hy:1<y
 ·have hX:=HX.out
  rw[if_neg (by omega)] at hX;clear HX;have HX:=Hz hX;clear hX;have t1:decide ((1:Int)<(y:Int))=true:=by simp;omega
  have F:=Hz (zo2 s2);go_wp2_with fail
  refine F.out.mono ?_;rintro e w3 ⟨rfl,s3,g3⟩;have hz3:=g3.size;have BZ3:=BZ.grown g3 (by intro e;injection e with e;omega);have G3:=Hz (G2.trans g3);have HS3:=Hz s3;clear F BZ BT G2 g3 x0 x1 x2 x3 x4 x5 x6 x7 x8 x9 x10 x11 s2 s3
  go_wp2_with (refine zaf rfl 133 (.tmp 4) (.tmp 37) rfl w.heap.size _ rfl rfl BZ3 (by kernel_rfl) (by simp[zb8,zbx,zay]) (by simp[Value.oneCell']) ?_
               intro W5 BR G5;obtain⟨s0,s1,s2,s3,s4,s5,s6,s7,s8,s9,s10,s11⟩:=zba BR)
  have hX:=HX.out;subst hX;exact bodyPost_ret (v:=zce zbx) (by simp[results,Tryz.results138,go_sem,s0,s1,s2,s3,s4,s5,s6,s7,s8,s9,s10,s11,zce,zb8,zay,zbx,za8,show zad []=⟨#[]⟩ from rfl]) rfl ⟨rfl,HS3.out.keep G5 BZ3 (by omega) (by decide),zbd G3.out G5 (Nat.le_refl _)⟩
 ·obtain rfl:y=0:=by omega
  have t1:decide ((1:Int)<((0:Nat):Int))=false:=by simp
  have BD:=Hz (qei s2);cases S2 with
  |none=>
   have hX:=HX.out;rw[if_neg (by simp)] at hX;clear HX;have HX:=Hz hX;clear hX;go_wp2_with fail
   refine BD.out.mono ?_;rintro e w2' ⟨rfl,rfl⟩;have F:=Hz (zo2 s2);go_wp2_with fail
   refine F.out.mono ?_;rintro e w3 ⟨rfl,s3,g3⟩;have hz3:=g3.size;have BZ3:=BZ.grown g3 (by intro e;injection e with e;omega);have G3:=Hz (G2.trans g3);have HS3:=Hz s3;clear F BZ BT G2 g3 x0 x1 x2 x3 x4 x5 x6 x7 x8 x9 x10 x11 s2 s3
   go_wp2_with (refine zaf rfl 133 (.tmp 4) (.tmp 37) rfl w.heap.size _ rfl rfl BZ3 (by kernel_rfl) (by simp[zb8,zbx,zay]) (by simp[Value.oneCell']) ?_
                intro W5 BR G5;obtain⟨s0,s1,s2,s3,s4,s5,s6,s7,s8,s9,s10,s11⟩:=zba BR)
   have hX:=HX.out;subst hX;exact bodyPost_ret (v:=zce zbx) (by simp[results,Tryz.results138,go_sem,s0,s1,s2,s3,s4,s5,s6,s7,s8,s9,s10,s11,zce,zb8,zay,zbx,za8,show zad []=⟨#[]⟩ from rfl]) rfl ⟨rfl,HS3.out.keep G5 BZ3 (by omega) (by decide),zbd G3.out G5 (Nat.le_refl _)⟩
  |some S2=>
   have hX:=HX.out;rw[if_pos ⟨rfl,by simp⟩] at hX;clear HX;have HX:=Hz hX;clear hX;go_wp2_with fail
   refine BD.out.mono ?_;rintro e w2' ⟨rfl,rfl⟩;go_wp2_with fail
   refine(SR.out _).mono ?_;rintro e w3 ⟨rfl,b3⟩;have hz3:=b3.size;have BZ3:=BZ.below b3 BZ.lt;have BT3:=BT.below b3 BT.lt;have G3:=Hz (G2.trans (Far.of_new b3));have HS3:=Hz (s2.below b3);clear BZ BT G2 b3 x0 x1 x2 x3 x4 x5 x6 x7 x8 x9 x10 x11 s2;obtain⟨x0,x1,x2,x3,x4,x5,x6,x7,x8,x9,x10,x11⟩:=zba BT3
   go_wp2_with (refine zaf rfl 133 (.tmp 4) (.tmp 38) rfl w.heap.size _ rfl rfl BZ3 (by kernel_rfl) (by simp[zb8,zbx,zay]) (by simp[Value.oneCell']) ?_
                intro W5 BR G5;obtain⟨s0,s1,s2,s3,s4,s5,s6,s7,s8,s9,s10,s11⟩:=zba BR)
   have hX:=HX.out;subst hX;exact bodyPost_ret (v:=zce ((n:Int),false,za8,za8)) (by simp[results,Tryz.results138,go_sem,s0,s1,s2,s3,s4,s5,s6,s7,s8,s9,s10,s11,zce,zb8,zay,za8,show zad []=⟨#[]⟩ from rfl]) rfl ⟨rfl,HS3.out.keep G5 BZ3 (by omega) (by decide),zbd G3.out G5 (Nat.le_refl _)⟩
end Go.Proofs.Y
namespace Go.Hm
open Go Go.RowKit
theorem z2x(a b c d f:Value)(n:Nat):(madeCells #[a,b,c,d,f] (n*5)).toList=(List.replicate n [a,b,c,d,f]).flatten:=by
 induction n with
 |zero=>simp[madeCells]
 |succ n ih=>
  rw[List.replicate_succ',List.flatten_append,<-ih];have e:∀m,m%5=0->(madeCells #[a,b,c,d,f] (m+5)).toList=(madeCells #[a,b,c,d,f] m).toList++[a,b,c,d,f]:=by intro m hm;simp only[madeCells,Array.toList_map,Array.toList_range,List.range_succ,List.map_append,List.map_cons,List.map_nil,List.append_assoc,List.cons_append,List.nil_append,List.size_toArray,List.length_cons,List.length_nil];rw[hm,show(m+1)%5=1 by omega,show(m+2)%5=2 by omega,show(m+3)%5=3 by omega,show(m+4)%5=4 by omega];rfl
  rw[Nat.succ_mul,e (n*5) (by omega)];simp
section
variable{P:Program}{ops:Array Oper}{rest:List Oper}{o:Oper}{a:Act}{Q:Exit->Act->World->Prop}
theorem zx9{w:World}{t e:TypeId}{x y z u v:Value}{bytes:Nat}(E:ElT P t e (.agg #[x,y,z,u,v]) 5 bytes)(hgd:o.guard=none)(lo co:Operand)(ho:o.op=Op.makeSlice t lo co)
 {W:World}{B:Nat}{kl kc:IntKind}{L C:Int}(n:Nat)(hl:a.eval lo= .int kl L)(hc:a.eval co= .int kc C)(hL:L=(n:Int))(hC:C=(n:Int))(hb:Below B W w)(hbase:B<=w.heap.size)
 (hn:n*bytes<=140737488355328)(hm:n<=maxLen)
 (h:∀w',w'.ownsRow w.heap.size e 5 (.slice (some ⟨w.heap.size,0,none⟩) n n) n (List.replicate n [x,y,z,u,v]).flatten->w.grownBy w' none->Below B W w'->w'.heap.size=w.heap.size+1->wpList P ops Q rest (a.put o.dst (.slice (some ⟨w.heap.size,0,none⟩) n n)) w'):
 wpList P ops Q (o::rest) a w:=by
 obtain⟨i,hi,hz0,hs1,hb1⟩:=info_parts E.hi;subst hL hC;have hmC:(n:Int)<=9223372036854775807:=by have h:=hm;simp only[maxLen] at h;omega
 have hbC:(i.bytes:Int)*(n:Int)<=281474976710656:=by
  have h:((i.bytes*n:Nat):Int)<=281474976710656:=by rw[hb1,Nat.mul_comm];omega
  rwa[Int.natCast_mul] at h
 have hrun:=run_make (P:=P) w t e i (.agg #[x,y,z,u,v]) E.ht hi hz0 kl kc (n:Int) (n:Int) (by omega) (by omega) hbC hmC;rw[Int.toNat_natCast,hs1] at hrun;refine wpList_plain hgd fun K hK=>?_
 unfold Oper.wp;simp[execOp,ho,hl,hc,hrun,Result.andThen];refine hK _ _ (h _ ?_ (World.grownBy_alloc _ _ _) (hb.alloc hbase _) (by simp));refine⟨by simp,.inr ⟨_,n,_,rfl,Nat.le_refl _,heap_alloc_new w _,Nat.le_refl _,hm,by simp[size_madeCells],?_⟩⟩;rw[List.take_of_length_le (by simp[size_madeCells])];exact z2x x y z u v n
end
theorem qcq{A B:List zab}{z:Nat}:(recs zay (A++za8::B)).set (A.length*5+1) (.int .i64 (z:Int))=recs zay (A++zvb z::B):=by have l:(recs zay A).length=A.length*5:=zau (sz:=5) (fun _=>rfl) A;rw[zbb,zbb,List.set_append_right _ _ (by omega),l,show A.length*5+1-A.length*5=1 by omega];congr 1
theorem z7q(n:Nat):(List.replicate n [Value.bool false,.int .i64 0,.string ⟨#[]⟩,.int .i64 0,.int .i64 0]).flatten=recs zay (List.replicate n za8):=by
 induction n with
 |zero=>rfl
 |succ n ih=>
  rw[List.replicate_succ,List.flatten_cons,ih,List.replicate_succ];rfl
end Go.Hm
namespace Go.Proofs.Y
open Go.RowKit Go.Hm
set_option maxRecDepth 100000 in
theorem zpc{w:World}{A:Option Addr}{c m:Nat}{b:List Nat}{n:Nat}(h:Reads w w.heap.size 1 A m (zao .u8 b))(h8:∀x∈b,x<256)(hm:m<=140737488351232)(hn:n<=65536):
 Calls Tryz.prog 169 #[.slice A m c,.int .i64 (n:Int)] w (OptC ((zfh b 1 (n:Int)).map fun l=>l.map zvb) w):=by
 obtain rfl:m=b.length:=h.len;have U:=Hz (z19 (c:=c) 1 (n:Int) h h8 (by omega) (by omega) (by omega) (by omega) (by omega));have hpu:=fun l=>zor (l:=l) (x:=1) (n:=(n:Int)) h8
 clear h h8;generalize zfh b 1 (n:Int)=O at*;cases O with
 |none=>
  go_enter Tryz.func169,Tryz.ntmps169
  go_wp2_with fail
  refine U.out.mono ?_;rintro e w1 ⟨rfl,b1⟩;go_wp2_with fail
  go_ret2
  exact⟨rfl,b1⟩
 |some l=>
  obtain⟨-,hlen,hw,hk,hf⟩:=hpu l rfl;have h2:∀x∈l,x<2:=by have:=(zhu l 1 (by omega) hk).1 (by omega);simpa using this
  obtain rfl:n=l.length:=by omega
  have H2:=Hz h2;clear hpu hlen hw hk h2;go_enter Tryz.func169,Tryz.ntmps169
  go_wp2_with fail
  refine U.out.mono ?_;rintro e w1 ⟨A1,n1,c1,rfl,k1,b1⟩;obtain rfl:n1=l.length:=by have:=k1.len;rwa[zaa] at this
  have hz1:=b1.size;have R1:=Hz k1.reads;clear U k1
  go_wp2_with (refine zx9 qkb rfl (.tmp 19) (.tmp 19) rfl (W:=w) (B:=w.heap.size) l.length rfl rfl rfl rfl b1 hz1 (by omega) (by simp only[maxLen];omega) ?_
               intro w2 o2 g2 b2 hs2)
  rw[z7q] at o2;have b12:New w1 w2:=(Turns.of_none (T:=[]) g2).new (by simp);go_loopw [23] (fun i wr=>∃k:Nat,k<=l.length/\i= .int .i64 (k:Int)/\wr.ownsRow w1.heap.size 75 5 (.slice (some ⟨w1.heap.size,0,none⟩) l.length l.length) l.length (recs zay ((l.take k).map zvb++List.replicate (l.length-k) za8))/\New w1 wr) (fun i _=>l.length-(intOf i).toNat)
  case atStart=>exact⟨0,Nat.zero_le _,rfl,by simpa using o2,b12⟩
  case round=>
   obtain⟨k,hk,rfl,o,hb⟩:=hrel;clear o2 g2 b2 b12 hs2;by_cases hlt:k<l.length
   ·obtain⟨ax,rfl,hbx,qx⟩:=(Reads.later R1.out hb).num (i:=k) hlt
    have hx2:=H2.out (l.getD k 0) (by rw[List.getD_eq_getElem?_getD,List.getElem?_eq_getElem hlt];exact List.getElem_mem hlt);have htk:=zac l k 0 hlt;generalize l.getD k 0=x at*;have hwr:IntKind.i64.wrap (x:Int)=(x:Int):=IntWalk.i64_in _ (by omega);obtain⟨ad,ea,_,-,d1,-⟩:=(Reads.of_own o).cell5 (i:=k) hlt;injection ea with ea;subst ea;obtain⟨cs,BR⟩:=zw7 o;have f1:=BR.frozen (k*5+1);have ead:(⟨w1.heap.size,0,none⟩:Addr).add (k*5)=⟨w1.heap.size,k*5,none⟩:=by unfold Addr.add;split<;> simp_all
    rw[ead] at d1;dsimp only at d1;have hA:((l.take k).map zvb).length=k:=by rw[List.length_map,List.length_take];omega
    obtain⟨o',-⟩:=World.ownsRow.stored o (k*5+1) (.int .i64 (x:Int));have ers:=qcq (A:=(l.take k).map zvb) (B:=List.replicate (l.length-(k+1)) za8) (z:=x);rw[hA] at ers;rw[show l.length-k=(l.length-(k+1))+1 by omega,List.replicate_succ,ers] at o';have o':(wr.setCell ⟨w1.heap.size,k*5+1,none⟩ (.int .i64 (x:Int))).ownsRow w1.heap.size 75 5 (.slice (some ⟨w1.heap.size,0,none⟩) l.length l.length) l.length (recs zay ((l.take (k+1)).map zvb++List.replicate (l.length-(k+1)) za8)):=by rw[htk,List.map_append,List.append_assoc];exact o'
    have O':=Hz o';have HB:=Hz (hb.setCell (p:=⟨w1.heap.size,k*5+1,none⟩) (Nat.le_refl _) (.int .i64 (x:Int)));clear o' ers o htk hA BR;go_wp2_with fail
    go_roundw
    case rel=>exact⟨k+1,by omega,by go_num,O'.out,HB.out⟩
    case measure=>simp[intOf];omega
   ·obtain rfl:k=l.length:=by omega
    rw[Nat.sub_self,List.replicate_zero,List.append_nil,List.take_length] at o;go_wp2_with fail
    go_ret2
    exact⟨_,_,_,rfl,zeq o hz1,New.trans b1 hb⟩
open Go.RowKit Go.Hm
theorem z7r{t:Int}{b:List Nat}{n:Int}(h: ¬(0<=t/\t<=3/\0<=n/\n<=65536)):IsPl zaq t b n none:=
 ⟨fun l e=>(by cases e),fun l _ hl hp=>by have:=(plOk_iff.1 (plO_iff.1 hp).1).1;omega⟩
set_option maxRecDepth 100000 in
theorem zya{w:World}{A:Option Addr}{c m:Nat}{b:List Nat}{t n:Int}(h:Reads w w.heap.size 1 A m (zao .u8 b))(h8:∀x∈b,x<256)(hm:m<=140737488351232):
 Calls Tryz.prog 154 #[.int .i64 t,.slice A m c,.int .i64 n] w (qkc t b n w):=by
 by_cases hk:0<=t/\t<=3/\0<=n/\n<=65536
 ·obtain⟨n,rfl⟩:=Int.eq_ofNat_of_zero_le hk.2.2.1
  by_cases h1:t=1
  ·subst h1
   have KN:=zkz (w:=w) (t:=1) (n:=(n:Int));rw[decide_eq_true hk] at KN;have KN:=Hz KN;have U:=Hz (zpc (c:=c) (n:=n) h h8 hm (by omega));have HI:=Hz (zvc (n:=(n:Int)) h8);clear h h8 hk;generalize(zfh b 1 (n:Int)).map (fun l=>l.map zvb)=O at*;go_enter Tryz.func154,Tryz.ntmps154
   go_wp2_with fail
   refine KN.out.mono ?_;rintro e w1 ⟨rfl,rfl⟩;go_wp2_with fail
   refine U.out.mono ?_;intro e w2 h2;cases O with
   |none=>
    obtain⟨rfl,b2⟩:=h2;go_wp2_with fail
    go_ret2
    exact⟨none,HI.out,rfl,b2⟩
   |some l=>
    obtain⟨A2,n2,c2,rfl,o2,b2⟩:=h2;go_wp2_with fail
    go_ret2
    exact⟨some l,HI.out,_,_,_,rfl,o2,b2⟩
  ·exact zxw h h8 hm (by omega) (by omega)
 ·have KN:=zkz (w:=w) (t:=t) (n:=n)
  rw[decide_eq_false hk] at KN;have KN:=Hz KN;have HI:=Hz (z7r (b:=b) hk);clear h h8 hk;go_enter Tryz.func154,Tryz.ntmps154
  go_wp2_with fail
  refine KN.out.mono ?_;rintro e w1 ⟨rfl,rfl⟩;go_wp2_with fail
  go_ret2
  exact⟨none,HI.out,rfl,New.refl _⟩
end Go.Proofs.Y
namespace Go.Hm
open Go Go.RowKit
abbrev ChD:=Option Addr × Nat × List za2
def chV(x:ChD):List Value:=[.slice x.1 x.2.2.length x.2.1]
abbrev GrD:=Int × Option Addr × Nat × List ChD
def grV(g:GrD):List Value:=[.int .i64 g.1,.slice g.2.1 g.2.2.2.length g.2.2.1]
def grP(g:GrD):za1:=(g.1,g.2.2.2.map (·.2.2))
theorem zdr{w:World}{g:Nat}{ty:TypeId}{a0 a1 a2 a3 a4 a5 a6 a7 a8 a9 a10 a11 a12 a13:Value}(h:Blk w g ty #[a0,a1,a2,a3,a4,a5,a6,a7,a8,a9,a10,a11,a12,a13]):w.cell? ⟨g,0,none⟩=some a0/\w.cell? ⟨g,1,none⟩=some a1/\w.cell? ⟨g,2,none⟩=some a2/\w.cell? ⟨g,3,none⟩=some a3/\w.cell? ⟨g,4,none⟩=some a4/\w.cell? ⟨g,5,none⟩=some a5/\w.cell? ⟨g,6,none⟩=some a6/\w.cell? ⟨g,7,none⟩=some a7/\w.cell? ⟨g,8,none⟩=some a8/\w.cell? ⟨g,9,none⟩=some a9/\w.cell? ⟨g,10,none⟩=some a10/\w.cell? ⟨g,11,none⟩=some a11/\w.cell? ⟨g,12,none⟩=some a12/\w.cell? ⟨g,13,none⟩=some a13:=by have h0:=h.cell 0;have h1:=h.cell 1;have h2:=h.cell 2;have h3:=h.cell 3;have h4:=h.cell 4;have h5:=h.cell 5;have h6:=h.cell 6;have h7:=h.cell 7;have h8:=h.cell 8;have h9:=h.cell 9;have h10:=h.cell 10;have h11:=h.cell 11;have h12:=h.cell 12;have h13:=h.cell 13;simp at h0 h1 h2 h3 h4 h5 h6 h7 h8 h9 h10 h11 h12 h13;exact⟨h0,h1,h2,h3,h4,h5,h6,h7,h8,h9,h10,h11,h12,h13⟩
def zth(p:za2):Value:= .agg (zg7 p).toArray
def qke(c:zbc):Value:= .agg (zls c).toArray
end Go.Hm
namespace Go.Proofs.Y
open Go.RowKit Go.Hm
def PageFine(p:za2):Prop:=((CellFine p.2.2.2.2.1/\CellFine p.2.2.2.2.2)/\ -9223372036854775808<=p.2.2.1/\p.2.2.1<=9223372036854775807)/\(-9223372036854775808<=p.1/\p.1<=9223372036854775807)/\ -9223372036854775808<=p.2.1/\p.2.1<=9223372036854775807
theorem PageFine.stat{p:za2}(h:PageFine p):zec p.2.2:=⟨h.1.1.1.1,h.1.1.2.1⟩
set_option maxRecDepth 100000 in
theorem zti{w:World}{c:zbc}{p:za2}{most:Int}(hp:zec p.2.2):
 Calls Tryz.prog 131 #[qke c,zth p,.int .i64 most] w (zal (.bool (zh6 c.2.1 c.2.2 p most)) w):=by
 obtain⟨nm,t,nu⟩:=c;have SR:=fun(W:World)=>zg6 (w:=W) (t:=t) hp
 clear hp;obtain⟨M,hM⟩:∃M,M=zh6 t nu p most:=⟨_,rfl⟩;dsimp only;rw[<-hM];unfold zh6 at hM;generalize zb9 t p.2.2=R at*;obtain⟨sz,rw,nn,bb,⟨p1,p2,p3,p4,p5⟩,⟨q1,q2,q3,q4,q5⟩⟩:=p;dsimp only at hM SR;have SR:Hid (∀W,Calls Tryz.prog 133 #[.int .i64 t,.agg #[.int .i64 nn,.bool bb,.bool p1,.int .i64 p2,.string (zad p3),.int .i64 p4,.int .i64 p5,.bool q1,.int .i64 q2,.string (zad q3),.int .i64 q4,.int .i64 q5]] W (zal (.bool R) W)):=Hz SR;show Calls Tryz.prog 131 #[.agg #[.string (zad nm),.int .i64 t,.bool nu],.agg #[.int .i64 sz,.int .i64 rw,.int .i64 nn,.bool bb,.bool p1,.int .i64 p2,.string (zad p3),.int .i64 p4,.int .i64 p5,.bool q1,.int .i64 q2,.string (zad q3),.int .i64 q4,.int .i64 q5],.int .i64 most] w (zal (.bool M) w);have B0:=(Blk.new w 71 #[.string (zad nm),.int .i64 t,.bool nu]).alloc (.cells #[.int .i64 sz,.int .i64 rw,.int .i64 nn,.bool bb,.bool p1,.int .i64 p2,.string (zad p3),.int .i64 p4,.int .i64 p5,.bool q1,.int .i64 q2,.string (zad q3),.int .i64 q4,.int .i64 q5] 135);have B1:=Blk.new (w.alloc (.cells #[.string (zad nm),.int .i64 t,.bool nu] 71)) 135 #[.int .i64 sz,.int .i64 rw,.int .i64 nn,.bool bb,.bool p1,.int .i64 p2,.string (zad p3),.int .i64 p4,.int .i64 p5,.bool q1,.int .i64 q2,.string (zad q3),.int .i64 q4,.int .i64 q5];have b0:=zxs w (.cells #[.string (zad nm),.int .i64 t,.bool nu] 71) (.cells #[.int .i64 sz,.int .i64 rw,.int .i64 nn,.bool bb,.bool p1,.int .i64 p2,.string (zad p3),.int .i64 p4,.int .i64 p5,.bool q1,.int .i64 q2,.string (zad q3),.int .i64 q4,.int .i64 q5] 135);simp only[World.size_alloc] at B1;obtain⟨x0,x1,x2,x3,x4,x5,x6,x7,x8,x9,x10,x11,x12,x13⟩:=zdr B1;obtain⟨y0,y1,y2⟩:=zan B0;by_cases hbad:rw<1\/most<rw\/sz<1\/268435456<sz
 ·rw[if_pos hbad] at hM
  have HM:=Hz hM;clear hM SR;by_cases h1:rw<1;all_goals try by_cases h2:most<rw
  all_goals try by_cases h3:sz<1
  all_goals try(have h4:268435456<sz:=by omega)
  all_goals
   clear hbad;go_enter Tryz.func131,Tryz.ntmps131
   go_wp2
   go_ret
   exact⟨by rw[HM.out];rfl,b0⟩
 ·rw[if_neg hbad] at hM
  have h1: ¬rw<1:=fun h=>hbad (by omega)
  have h2: ¬most<rw:=fun h=>hbad (by omega)
  have h3: ¬sz<1:=fun h=>hbad (by omega)
  have h4: ¬268435456<sz:=fun h=>hbad (by omega)
  have HM:=Hz hM;clear hM hbad;have hs:New ((w.alloc (.cells #[.string (zad nm),.int .i64 t,.bool nu] 71)).alloc (.cells #[.int .i64 sz,.int .i64 rw,.int .i64 nn,.bool bb,.bool p1,.int .i64 p2,.string (zad p3),.int .i64 p4,.int .i64 p5,.bool q1,.int .i64 q2,.string (zad q3),.int .i64 q4,.int .i64 q5] 135)) (((w.alloc (.cells #[.string (zad nm),.int .i64 t,.bool nu] 71)).alloc (.cells #[.int .i64 sz,.int .i64 rw,.int .i64 nn,.bool bb,.bool p1,.int .i64 p2,.string (zad p3),.int .i64 p4,.int .i64 p5,.bool q1,.int .i64 q2,.string (zad q3),.int .i64 q4,.int .i64 q5] 135)).alloc (.cells #[.int .i64 nn,.bool bb,.bool p1,.int .i64 p2,.string (zad p3),.int .i64 p4,.int .i64 p5,.bool q1,.int .i64 q2,.string (zad q3),.int .i64 q4,.int .i64 q5] 133)):=(Below.refl _ _).alloc (Nat.le_refl _) _;have B2:=Blk.new ((w.alloc (.cells #[.string (zad nm),.int .i64 t,.bool nu] 71)).alloc (.cells #[.int .i64 sz,.int .i64 rw,.int .i64 nn,.bool bb,.bool p1,.int .i64 p2,.string (zad p3),.int .i64 p4,.int .i64 p5,.bool q1,.int .i64 q2,.string (zad q3),.int .i64 q4,.int .i64 q5] 135)) 133 #[.int .i64 nn,.bool bb,.bool p1,.int .i64 p2,.string (zad p3),.int .i64 p4,.int .i64 p5,.bool q1,.int .i64 q2,.string (zad q3),.int .i64 q4,.int .i64 q5];simp only[World.size_alloc] at B2;obtain⟨z0,z1,z2,z3,z4,z5,z6,z7,z8,z9,z10,z11⟩:=zba B2;have B0:=B0.below hs B0.lt;have B1:=B1.below hs B1.lt;have b2:=New.trans b0 hs;obtain⟨v0,v1,v2⟩:=zan B0;have HB0:=Hz B0;have HB1:=Hz B1;have HB2:=Hz B2;have Hb2:=Hz b2;clear hs b0 B0 B1 B2 b2;go_enter Tryz.func131,Tryz.ntmps131
  go_wp2_with fail
  refine(SR.out _).mono ?_;rintro e w1 ⟨rfl,b1⟩;have B0:=HB0.out.below b1 HB0.out.lt;have B1:=HB1.out.below b1 HB1.out.lt;have B2:=HB2.out.below b1 HB2.out.lt;have b01:=New.trans Hb2.out b1;clear x0 x1 x2 x3 x4 x5 x6 x7 x8 x9 x10 x11 x12 x13 y0 y1 y2 v0 v1 v2 z0 z1 z2 z3 z4 z5 z6 z7 z8 z9 z10 z11 HB0 HB1 HB2 Hb2 b1 SR;obtain⟨x0,x1,x2,x3,x4,x5,x6,x7,x8,x9,x10,x11,x12,x13⟩:=zdr B1;obtain⟨z0,z1,z2,z3,z4,z5,z6,z7,z8,z9,z10,z11⟩:=zba B2;obtain⟨y0,y1,y2⟩:=zan B0;cases R with
  |false=>
   go_wp2
   go_ret
   exact⟨by rw[HM.out];rfl,b01⟩
  |true=>
   generalize k1:decide (nn<=rw)=d1 at*;generalize k2:decide (nn<rw)=d2 at*;generalize k3:decide (nn=0)=d3 at*;have k4:(nn==0)=d3:=by rw[<-k3];rfl
   cases d1<;> cases d2<;> cases d3<;> cases bb<;> cases nu;all_goals
    go_wp2
    go_ret
    exact⟨by rw[HM.out];rfl,b01⟩
end Go.Proofs.Y
namespace Go.Hm
open Go Go.RowKit
abbrev zbr:za2:=(0,0,0,false,(false,0,[],0,0),(false,0,[],0,0))
theorem Reads.page14{w:World}{B n i:Nat}{A:Option Addr}{l:List za2}(h:Reads w B 14 A n (recs zg7 l))(hi:i<n):
 ∃ad,A=some ad/\ad.block<B/\w.cell? (ad.add (i*14))=some (.int .i64 (l.getD i zbr).1)/\w.cell? ⟨(ad.add (i*14)).block,(ad.add (i*14)).off+1,none⟩=some (.int .i64 (l.getD i zbr).2.1)/\w.cell? ⟨(ad.add (i*14)).block,(ad.add (i*14)).off+2,none⟩=some (.int .i64 (l.getD i zbr).2.2.1)/\w.cell? ⟨(ad.add (i*14)).block,(ad.add (i*14)).off+3,none⟩=some (.bool (l.getD i zbr).2.2.2.1)/\w.cell? ⟨(ad.add (i*14)).block,(ad.add (i*14)).off+4,none⟩=some (.bool (l.getD i zbr).2.2.2.2.1.1)/\w.cell? ⟨(ad.add (i*14)).block,(ad.add (i*14)).off+5,none⟩=some (.int .i64 (l.getD i zbr).2.2.2.2.1.2.1)/\w.cell? ⟨(ad.add (i*14)).block,(ad.add (i*14)).off+6,none⟩=some (.string (zad (l.getD i zbr).2.2.2.2.1.2.2.1))/\w.cell? ⟨(ad.add (i*14)).block,(ad.add (i*14)).off+7,none⟩=some (.int .i64 (l.getD i zbr).2.2.2.2.1.2.2.2.1)/\w.cell? ⟨(ad.add (i*14)).block,(ad.add (i*14)).off+8,none⟩=some (.int .i64 (l.getD i zbr).2.2.2.2.1.2.2.2.2)/\w.cell? ⟨(ad.add (i*14)).block,(ad.add (i*14)).off+9,none⟩=some (.bool (l.getD i zbr).2.2.2.2.2.1)/\w.cell? ⟨(ad.add (i*14)).block,(ad.add (i*14)).off+10,none⟩=some (.int .i64 (l.getD i zbr).2.2.2.2.2.2.1)/\w.cell? ⟨(ad.add (i*14)).block,(ad.add (i*14)).off+11,none⟩=some (.string (zad (l.getD i zbr).2.2.2.2.2.2.2.1))/\w.cell? ⟨(ad.add (i*14)).block,(ad.add (i*14)).off+12,none⟩=some (.int .i64 (l.getD i zbr).2.2.2.2.2.2.2.2.1)/\w.cell? ⟨(ad.add (i*14)).block,(ad.add (i*14)).off+13,none⟩=some (.int .i64 (l.getD i zbr).2.2.2.2.2.2.2.2.2):=by
 obtain⟨ad,h1,h2,_,h3⟩:=h.rec_ (f:=zg7) (sz:=14) (fun _=>rfl) zbr hi (by omega);refine⟨ad,h1,h2,h3 0 _ rfl,?_,?_,?_,?_,?_,?_,?_,?_,?_,?_,?_,?_,?_⟩
 ·have:=h3 1 _ rfl
  rw[<-za9] at this;exact this
 ·have:=h3 2 _ rfl
  rw[<-za9] at this;exact this
 ·have:=h3 3 _ rfl
  rw[<-za9] at this;exact this
 ·have:=h3 4 _ rfl
  rw[<-za9] at this;exact this
 ·have:=h3 5 _ rfl
  rw[<-za9] at this;exact this
 ·have:=h3 6 _ rfl
  rw[<-za9] at this;exact this
 ·have:=h3 7 _ rfl
  rw[<-za9] at this;exact this
 ·have:=h3 8 _ rfl
  rw[<-za9] at this;exact this
 ·have:=h3 9 _ rfl
  rw[<-za9] at this;exact this
 ·have:=h3 10 _ rfl
  rw[<-za9] at this;exact this
 ·have:=h3 11 _ rfl
  rw[<-za9] at this;exact this
 ·have:=h3 12 _ rfl
  rw[<-za9] at this;exact this
 ·have:=h3 13 _ rfl
  rw[<-za9] at this;exact this
theorem Reads.lenPage{w:World}{B n:Nat}{A:Option Addr}{l:List za2}(h:Reads w B 14 A n (recs zg7 l)):n=l.length:=h.lenR (f:=zg7) (sz:=14) (fun _=>rfl) (by omega)
theorem z76{α:Type}(l:List α)(k:Nat)(d:α)(h:k<l.length):l.drop k=l.getD k d::l.drop (k+1):=by rw[List.drop_eq_getElem_cons h,List.getD_eq_getElem?_getD,List.getElem?_eq_getElem h];rfl
theorem zai{α:Type}{l:List α}{k:Nat}(d:α)(h:k<l.length):l.getD k d∈l:=by rw[List.getD_eq_getElem?_getD,List.getElem?_eq_getElem h];exact List.getElem_mem h
end Go.Hm
namespace Go.Proofs.Y
open Go.RowKit Go.Hm
def ztj(r:Int × Bool)(w:World)(e:Ending)(w':World):Prop:=e= .returned (.tuple #[.int .i64 r.1,.bool r.2])/\New w w'
set_option maxRecDepth 100000 in
theorem ztk{w:World}{c:zbc}{A:Option Addr}{n cap:Nat}{l:List za2}{rows:Int}(h:Reads w w.heap.size 14 A n (recs zg7 l))(hl:∀p∈l,zec p.2.2)(hn:n<=4611686018427387903)(hr:0<=rows/\rows<=65536):
 Calls Tryz.prog 110 #[qke c,.slice A n cap,.int .i64 rows] w (ztj (zez c.2.1 c.2.2 l rows 0) w):=by
 obtain rfl:=h.lenPage;obtain⟨nm,t,nu⟩:=c;have HR:=Hz h;have HL:=Hz hl;have HC:=Hz (show zez t nu l rows 0=zez t nu (l.drop 0) rows 0 from rfl);clear h hl;show Calls Tryz.prog 110 #[.agg #[.string (zad nm),.int .i64 t,.bool nu],.slice A l.length cap,.int .i64 rows] w (ztj (zez t nu l rows 0) w);generalize hX:zez t nu l rows 0=X at*;clear hX;have B0:=Blk.new w 71 #[.string (zad nm),.int .i64 t,.bool nu];have b0:New w (w.alloc (.cells #[.string (zad nm),.int .i64 t,.bool nu] 71)):=(Below.refl _ _).alloc (Nat.le_refl _) _;go_enter Tryz.func110,Tryz.ntmps110
 go_wp2_with fail
 go_loopw [2,8,13] (fun r s i wr=>∃(k:Nat) (rr ss:Int),k<=l.length/\i= .int .i64 (k:Int)/\r= .int .i64 rr/\s= .int .i64 ss/\Hid (X=zez t nu (l.drop k) rr ss)/\(0<=rr/\rr+k<=rows)/\(0<=ss/\ss<=k*268435456)
  /\Blk wr w.heap.size 71 #[.string (zad nm),.int .i64 t,.bool nu]/\New w wr) (fun _ _ i _=>l.length-(intOf i).toNat)
 case atStart=>exact⟨0,rows,0,Nat.zero_le _,rfl,rfl,rfl,HC,by omega,by omega,B0,b0⟩
 case round=>
  obtain⟨k,rr,ss,hk,rfl,rfl,rfl,H,hrr,hss,B,b⟩:=hrel;clear HC B0 b0;by_cases hlt:k<l.length
  ·obtain⟨ad,rfl,hb,d0,d1,d2,d3,d4,d5,d6,d7,d8,d9,d10,d11,d12,d13⟩:=(Reads.later HR.out b).page14 hlt
   have hd:=z76 l k zbr hlt;have RP:=fun(W:World)=>zti (w:=W) (c:=(nm,t,nu)) (p:=l.getD k zbr) (most:=rr) (HL.out _ (zai zbr hlt))
   have hst:zez t nu (l.drop k) rr ss=if zh6 t nu (l.getD k zbr) rr then zez t nu (l.drop (k+1)) (rr-(l.getD k zbr).2.1) (ss+(l.getD k zbr).1) else(0,false):=by rw[hd];rfl
   rw[<-H.out] at hst;have hok:=fun(e:zh6 t nu (l.getD k zbr) rr=true)=>(pageB_most.1 e).1
   clear hd H hb;dsimp only at RP;generalize zh6 t nu (l.getD k zbr) rr=R at*;generalize l.getD k zbr=p at*;obtain⟨sz,rw,nn,bb,⟨p1,p2,p3,p4,p5⟩,⟨q1,q2,q3,q4,q5⟩⟩:=p;dsimp only at hst hok d0 d1 d2 d3 d4 d5 d6 d7 d8 d9 d10 d11 d12 d13;have RP:Hid (∀W,Calls Tryz.prog 131 #[.agg #[.string (zad nm),.int .i64 t,.bool nu],.agg #[.int .i64 sz,.int .i64 rw,.int .i64 nn,.bool bb,.bool p1,.int .i64 p2,.string (zad p3),.int .i64 p4,.int .i64 p5,.bool q1,.int .i64 q2,.string (zad q3),.int .i64 q4,.int .i64 q5],.int .i64 rr] W (zal (.bool R) W)):=Hz RP;have ha:New wr (wr.alloc (.cells #[.int .i64 sz,.int .i64 rw,.int .i64 nn,.bool bb,.bool p1,.int .i64 p2,.string (zad p3),.int .i64 p4,.int .i64 p5,.bool q1,.int .i64 q2,.string (zad q3),.int .i64 q4,.int .i64 q5] 135)):=(Below.refl _ _).alloc (Nat.le_refl _) _;have BP:=Blk.new wr 135 #[.int .i64 sz,.int .i64 rw,.int .i64 nn,.bool bb,.bool p1,.int .i64 p2,.string (zad p3),.int .i64 p4,.int .i64 p5,.bool q1,.int .i64 q2,.string (zad q3),.int .i64 q4,.int .i64 q5];have B1:=B.below ha B.lt;have b1:=New.trans b ha;obtain⟨y0,y1,y2⟩:=zan B1;obtain⟨e0,e1,e2,e3,e4,e5,e6,e7,e8,e9,e10,e11,e12,e13⟩:=zdr BP;have HST:=Hz hst;clear hst B ha;go_wp2_with fail
   refine(RP.out _).mono ?_;rintro e w2 ⟨rfl,b2⟩;have B2:=B1.below b2 B1.lt;have BP2:=BP.below b2 BP.lt;have b02:=New.trans b1 b2;clear RP B1 BP b2 b1 y0 y1 y2 d0 d1 d2 d3 d4 d5 d6 d7 d8 d9 d10 d11 d12 d13 e0 e1 e2 e3 e4 e5 e6 e7 e8 e9 e10 e11 e12 e13;obtain⟨e0,e1,e2,e3,e4,e5,e6,e7,e8,e9,e10,e11,e12,e13⟩:=zdr BP2;cases R with
   |false=>
    go_wp2_with fail
    go_ret2
    have hX:=HST.out;rw[if_neg (by simp)] at hX;rw[hX];exact⟨rfl,b02⟩
   |true=>
    have hX:=HST.out;rw[if_pos rfl] at hX;have HX:=Hz hX;have hok:=hok rfl;clear hX HST;go_wp2_with fail
    go_roundw
    case rel=>exact⟨k+1,rr-rw,ss+sz,by omega,by go_num,rfl,rfl,HX,by omega,by omega,B2,b02⟩
    case measure=>simp[intOf];omega
  ·obtain rfl:k=l.length:=by omega
   have hX:=H.out;rw[List.drop_length] at hX;have HX:=Hz hX;clear hX H;go_wp2_with fail
   go_ret2
   rw[HX.out];exact⟨rfl,b⟩
open Go.RowKit Go.Hm
theorem qko:Tryz.prog.underlying 57=some (.slice (Tryz.prog.elem 57)):=by kernel_rfl
theorem qkp(w:World):(sizeOf (Tryz.prog.elem 57)).run Tryz.prog w= .ok 1 w:=by kernel_rfl
theorem z8t(k:IntKind)(l:List Int)(i:Nat):(za0 k l).drop i=za0 k (l.drop i):=by simp[za0]
theorem zqq(k:IntKind)(l:List Int)(i:Nat):(za0 k l).take i=za0 k (l.take i):=by simp[za0]
theorem Reads.part{w:World}{B n cap:Nat}{A:Option Addr}{l:List Int}(h:Reads w B 1 A n (za0 .i64 l)){f e:Nat}(hf:f<=e)(he:e<=n)(hc:n<=cap):
 Reads w B 1 (if cap=f then A else A.map (·.add (f*1))) (e-f) (za0 .i64 ((l.drop f).take (e-f))):=by
 have r1:=(h.cut (k:=f) (cap:=cap) (by omega) hc).take (k:=e-f) (by omega);rw[Nat.mul_one,Nat.mul_one,z8t,zqq] at r1;rw[Nat.mul_one];exact r1
set_option maxRecDepth 100000 in
theorem ziz{w:World}{A:Option Addr}{n c:Nat}{l:List Int}(h:Reads w w.heap.size 1 A n (za0 .i64 l))(hl:∀x∈l,zi9 x)(hn:n<=9223372036854775807):
 Calls Tryz.prog 179 #[.slice A n c] w (OptB (zut l) w):=by
 obtain rfl:=h.lenI;obtain⟨X,hX⟩:∃X,X=zut l:=⟨_,rfl⟩;rw[<-hX];unfold zut at hX;by_cases h1:65536<l.length
 ·rw[if_pos h1] at hX
  have HX:=Hz hX;have i1:(65536:Int)<(l.length:Int):=by omega
  clear hX h hl;go_enter Tryz.func179,Tryz.ntmps179
  go_wp2
  go_ret2
  rw[HX.out];exact⟨rfl,New.refl _⟩
 rw[if_neg h1] at hX;by_cases h0:l.length=0
 ·rw[if_pos h0] at hX
  have HX:=Hz hX;have i1: ¬(65536:Int)<(l.length:Int):=by omega
  have e0:((l.length:Int)==0)=true:=by rw[h0];rfl
  have H0:=Hz h0;clear hX h hl h0;go_enter Tryz.func179,Tryz.ntmps179
  go_wp2
  go_ret2
  rw[HX.out];exact⟨none,0,0,rfl,Own.nil_,New.refl _⟩
 rw[if_neg h0] at hX;have i1: ¬(65536:Int)<(l.length:Int):=by omega
 have e0:((l.length:Int)==0)=false:=by rw[beq_eq_false_iff_ne];omega
 have i0:(0:Int)<(l.length:Int):=by omega
 obtain⟨ad,rfl,_,c0⟩:=h.int (i:=0) (by omega);rw[zfy] at c0;have hx:=hl _ (zik (show 0<l.length by omega));have ZG:=Hz (fun W:World=>zou (l.getD 0 0) W hx.1 hx.2);have PT:=Hz (fun W:World=>zc0 none 0 0 [] (zig (l.getD 0 0)) W Reads.none_ (by omega) (by have:=zov hx;omega));have hvl:=zap (zov hx);have SP:=Hz (fun(W:World) (hW:New w W)=>z3o (c:=c) (Reads.later h hW) (by omega));have hin:=zkr l;have hsl:=zja l;have B0:=Hz (zks (zd9 l));have BS:=Hz (zkt (zd9 l));have hbl:=zil hin;have hpart:=fun k=>(show∀x∈blk (zd9 l) k,zi9 x from zzv hin k)
 have hbk:=fun k (hk:k<nblk (zd9 l).length)=>show(blockD (blk (zd9 l) k)).length<=268 from zq4 (zzv hin k) (by rw[zst];unfold nblk at hk;omega) (by rw[zst];omega)
 have hNB:Hid (nblk (l.length-1)=nblk (zd9 l).length):=Hz (by rw[hsl]);have HX:=Hz hX;have HBL:=Hz hbl;have HPT:=Hz hpart;have HBK:=Hz hbk;have HSL:=Hz hsl;have hs65:(zd9 l).length<=65536:=by omega
 clear hX h hl hin hsl hbl hpart hbk hx h0 h1;generalize zd9 l=s at*;generalize l.getD 0 0=x at*;generalize hV:vp (zig x)=V at*;clear hV;go_enter Tryz.func179,Tryz.ntmps179
 go_wp2_with fail
 refine(ZG.out _).mono ?_;rintro e w1 ⟨rfl,rfl⟩;go_wp2_with fail
 refine(PT.out _).mono ?_;rintro e w1 ⟨A1,n1,c1,rfl,o1,b1⟩;rw[List.nil_append] at o1;obtain rfl:n1=V.length:=by have:=o1.len;rwa[zaa] at this
 clear ZG PT c0;go_wp2_with fail
 refine(SP.out _ b1).mono ?_;rintro e w2 ⟨A2,n2,c2,rfl,o2,b2⟩;obtain rfl:n2=s.length:=by have:=o2.len;rwa[zhi] at this
 have h21:=zhw o2 (o1.base_le (Nat.zero_le _));have o1:=o1.later b2;have b02:=New.trans b1 b2;have o2:=o2.base_le (b':=w.heap.size) b1.size;have hc2:=o2.cap.1;clear SP b1 b2;have KB1:=Hz (fun W=>z3p s.length W (by omega));have hK:nblk s.length<=2048:=by unfold nblk;omega
 have HK:Hid (nblk s.length=(s.length+31)/32):=Hz rfl;go_wp2_with fail
 refine(KB1.out _).mono ?_;rintro e w3 ⟨rfl,rfl⟩;clear KB1;generalize hKK:nblk s.length=K at*;have HKK:=Hz hKK;clear hKK;go_wp2_with fail
 go_loopw [4,26] (fun v i wr=>∃(k:Nat) (AE:Option Addr) (cE:Nat),k<=K/\i= .int .i64 (k:Int)/\v= .slice AE (V++zco s k).length cE/\Go.Hm.Own wr w.heap.size 5 (.slice AE (V++zco s k).length cE) (zao .u8 (V++zco s k))/\Go.Hm.Own wr w.heap.size 3 (.slice A2 s.length c2) (za0 .i64 s)/\(Value.ownBlock (.slice A2 s.length c2)=none\/Value.ownBlock (.slice A2 s.length c2)≠Value.ownBlock (.slice AE (V++zco s k).length cE))/\New w wr) (fun _ i _=>K-(intOf i).toNat)
 case atStart=>exact⟨0,A1,c1,Nat.zero_le _,rfl,by rw[B0.out,List.append_nil],by rw[B0.out,List.append_nil];exact o1,o2,by rw[B0.out,List.append_nil];exact h21,b02⟩
 case round=>
  clear o1 o2 h21 b02;obtain⟨k,AE,cE,hk,rfl,rfl,o,u,hap,b⟩:=hrel;by_cases hlt:k<K
  ·have hK2:=HK.out
   obtain⟨f,hf⟩:∃f,f=k*32:=⟨_,rfl⟩;obtain⟨g,hg⟩:∃g,g=f+32:=⟨_,rfl⟩;obtain⟨e,he⟩:∃e,e=min g s.length:=⟨_,rfl⟩;have hfs:f<s.length:=by omega
   have w1:IntKind.i64.wrap ((k:Int)*32)=(f:Int):=by rw[IntKind.wrap_i64];omega
   have w2:IntKind.i64.wrap ((f:Int)+32)=(g:Int):=by rw[IntKind.wrap_i64];omega
   have m1:min (g:Int) (s.length:Int)=(e:Int):=by omega
   have m2:(if(s.length:Int)<(g:Int) then(s.length:Int) else(g:Int))=(e:Int):=by split<;> omega
   have m3:(if s.length<g then(s.length:Int) else(g:Int))=(e:Int):=by split<;> omega
   have SL:=fun W=>zhe qko qkp A2 s.length c2 f e (by omega) (by omega) W
   have RP:=Reads.part (cap:=c2) u.reads (f:=f) (e:=e) (by omega) (by omega) hc2;have hbe:(s.drop f).take (e-f)=blk s k:=by
    unfold blk;rw[<-hf];by_cases q:g<=s.length
    ·rw[show e-f=32 by omega]
    ·rw[List.take_of_length_le (by rw[List.length_drop];omega),List.take_of_length_le (by rw[List.length_drop];omega)]
   rw[hbe] at RP;obtain⟨A',hA'⟩:∃A',A'=(if c2=f then A2 else A2.map (·.add (f*1))):=⟨_,rfl⟩;rw[<-hA'] at SL RP;have LB:=Hz (zv4 (c:=c2-f) RP (HPT.out k) (by omega) (by omega));have hkb:=HBK.out k hlt;have hb2:=HBL.out k (by omega);have BSk:=Hz (show V++zco s (k+1)=V++zco s k++blockD (blk s k) by rw[BS.out k,List.append_assoc]);have hkl:(V++zco s k).length=V.length+(zco s k).length:=List.length_append;have hbq:(V++zco s k).length<=600000:=by omega
   have HO:=Hz (And.intro hf (And.intro hg he));clear hbe hA' RP hf hg he hK2 hb2 hkl;generalize V++zco s k=VB at*;generalize blockD (blk s k)=BD at*;generalize e-f=ef at*;generalize c2-f=cf at*;have hki:(k:Int)<(K:Int):=by omega
   go_wp2_with fail
   refine LB.out.mono ?_;rintro e w3 ⟨A3,n3,c3,rfl,o3,b3⟩;obtain rfl:n3=BD.length:=by have:=o3.len;rwa[zaa] at this
   have u3:=u.later b3;have oo3:=o.later b3;have b03:=New.trans b b3;have z3:=b03.size;clear u o b b3 LB SL m1 m2 m3;go_wp2_with (first
    |(refine zam elB rfl (.tmp 45) (.tmp 46) rfl (W:=w) (B:=w.heap.size) oo3 o3.reads rfl rfl b03 (Nat.le_refl _) z3 (by omega) (by simp only[maxLen];omega) ?_
      intro A5 c5 w5 _ _ o5 g5 b5 d5;have u5:=u3.kept g5 hap;have hap5:=zk4 hap d5 u3))
   go_roundw
   have hq5:=o5.len;rw[zaa] at hq5;rw[hq5] at o5 hap5;case rel=>exact⟨k+1,A5,c5,by omega,by go_num,by rw[BSk.out,<-hq5],by rw[BSk.out];exact o5,u5,by rw[BSk.out];exact hap5,b5⟩
   case measure=>simp[intOf];omega
  ·obtain rfl:k=K:=by omega
   have hXe:X=some (V++zco s k):=by rw[HX.out,hNB.out]
   go_wp2_with fail
   go_ret2
   rw[hXe];exact⟨_,_,_,rfl,o,b⟩
end Go.Proofs.Y
namespace Go.Hm
open Go Go.RowKit
theorem z3x(a b:Value)(n:Nat):(madeCells #[a,b] (n*2)).toList=(List.replicate n [a,b]).flatten:=by
 induction n with
 |zero=>simp[madeCells]
 |succ n ih=>
  rw[List.replicate_succ',List.flatten_append,<-ih];have e:∀m,m%2=0->(madeCells #[a,b] (m+2)).toList=(madeCells #[a,b] m).toList++[a,b]:=by intro m hm;simp only[madeCells,Array.toList_map,Array.toList_range,List.range_succ,List.map_append,List.map_cons,List.map_nil,List.append_assoc,List.cons_append,List.nil_append,List.size_toArray,List.length_cons,List.length_nil];rw[hm,show(m+1)%2=1 by omega];rfl
  rw[Nat.succ_mul,e (n*2) (by omega)];simp
theorem z3y(n:Nat):(List.replicate n [Value.int .i64 0,.int .i64 0]).flatten=zdj (List.replicate n (0,0)):=by
 induction n with
 |zero=>rfl
 |succ n ih=>
  rw[List.replicate_succ,List.flatten_cons,ih,List.replicate_succ];rfl
theorem zv6(l m:List (Int × Int)):zdj (l++m)=zdj l++zdj m:=by simp[zdj]
section
variable{P:Program}{ops:Array Oper}{rest:List Oper}{o:Oper}{a:Act}{Q:Exit->Act->World->Prop}
theorem zyq{w:World}{t e:TypeId}{x y:Value}{bytes:Nat}(E:ElT P t e (.agg #[x,y]) 2 bytes)(hgd:o.guard=none)(lo co:Operand)(ho:o.op=Op.makeSlice t lo co)
 {W:World}{B:Nat}{kl kc:IntKind}{L C:Int}(n:Nat)(hl:a.eval lo= .int kl L)(hc:a.eval co= .int kc C)(hL:L=(n:Int))(hC:C=(n:Int))(hb:Below B W w)(hbase:B<=w.heap.size)
 (hn:n*bytes<=140737488355328)(hm:n<=maxLen)
 (h:∀w',w'.ownsRow w.heap.size e 2 (.slice (some ⟨w.heap.size,0,none⟩) n n) n (List.replicate n [x,y]).flatten->w.grownBy w' none->Below B W w'->w'.heap.size=w.heap.size+1->wpList P ops Q rest (a.put o.dst (.slice (some ⟨w.heap.size,0,none⟩) n n)) w'):
 wpList P ops Q (o::rest) a w:=by
 obtain⟨i,hi,hz0,hs1,hb1⟩:=info_parts E.hi;subst hL hC;have hmC:(n:Int)<=9223372036854775807:=by have h:=hm;simp only[maxLen] at h;omega
 have hbC:(i.bytes:Int)*(n:Int)<=281474976710656:=by
  have h:((i.bytes*n:Nat):Int)<=281474976710656:=by rw[hb1,Nat.mul_comm];omega
  rwa[Int.natCast_mul] at h
 have hrun:=run_make (P:=P) w t e i (.agg #[x,y]) E.ht hi hz0 kl kc (n:Int) (n:Int) (by omega) (by omega) hbC hmC;rw[Int.toNat_natCast,hs1] at hrun;refine wpList_plain hgd fun K hK=>?_
 unfold Oper.wp;simp[execOp,ho,hl,hc,hrun,Result.andThen];refine hK _ _ (h _ ?_ (World.grownBy_alloc _ _ _) (hb.alloc hbase _) (by simp));refine⟨by simp,.inr ⟨_,n,_,rfl,Nat.le_refl _,heap_alloc_new w _,Nat.le_refl _,hm,by simp[size_madeCells],?_⟩⟩;rw[List.take_of_length_le (by simp[size_madeCells])];exact z3x x y n
theorem zv7{w:World}(hgd:o.guard=none)(ty:TypeId)(x y:Operand)(ho:o.op= .store ty x y)
 {base:Nat}{e:TypeId}{g n m:Nat}{A B:List (Int × Int)}{old new:Int × Int}(hown:w.ownsRow base e 2 (.slice (some ⟨g,0,none⟩) n n) n (zdj (A++old::B)))(hm:A.length=m)(hmn:m<n)
 (hx:a.eval x= .pointer (some ⟨g,m*2,none⟩))(hy:a.eval y= .agg #[.int .i64 new.1,.int .i64 new.2])(hi:(P.info? ty).map (·.size)=some 2)
 (h:∀W,W.ownsRow base e 2 (.slice (some ⟨g,0,none⟩) n n) n (zdj (A++new::B))->w.grownBy W (some g)->wpList P ops Q rest (a.put o.dst undef) W):wpList P ops Q (o::rest) a w:=by
 obtain⟨cs,hB⟩:=zw7 hown;obtain⟨ad,ea,-,c0,c1⟩:=(Reads.of_own hown).pair2 (i:=m) hmn;injection ea with ea;subst ea;have ead:(⟨g,0,none⟩:Addr).add (m*2)=⟨g,m*2,none⟩:=by unfold Addr.add;split<;> simp_all
 rw[ead] at c0 c1;dsimp only at c0 c1;have ht:w.there g (m*2) (#[Value.int .i64 new.1,.int .i64 new.2]:Array Value).size:=by
  intro j hj;have hj:j<2:=hj;refine⟨?_,hB.frozen _⟩;have:j=0\/j=1:=by omega
  rcases this with rfl|rfl
  ·rw[Nat.add_zero,c0];rfl
  ·rw[c1];rfl
 refine wpList_store_mid hgd ty x y ho g (m*2) #[.int .i64 new.1,.int .i64 new.2] hx hy ht hi (by simp[Value.oneCell']) ?_;obtain⟨o1,g1⟩:=World.ownsRow.stored hown (m*2) (.int .i64 new.1);obtain⟨o2,g2⟩:=World.ownsRow.stored o1 (m*2+1) (.int .i64 new.2);have hl:(zdj A).length=m*2:=by rw[zgl,hm]
 have e2:((zdj (A++old::B)).set (m*2) (.int .i64 new.1)).set (m*2+1) (.int .i64 new.2)=zdj (A++new::B):=by rw[zv6,zv6,List.set_append_right _ _ (by omega),List.set_append_right _ _ (by omega),hl,Nat.sub_self,show m*2+1-m*2=1 by omega];rfl
 rw[e2] at o2;exact h _ o2 (g1.trans g2)
end
end Go.Hm
set_option maxRecDepth 100000
namespace Go.Hm
structure TabIn(w:World)(Ac:Option Addr)(cc:Nat)(L:List zbc)(Ad:Option Addr)(D:List zex):Prop where
 cols:Reads w w.heap.size 3 Ac L.length (recs zls L)
 fine:∀x∈L,(∀z∈x.1,z<256)/\x.1.length<=140737488351232
 cap:L.length<=cc
 few:L.length<=4611686018427387903
 data:Reads w w.heap.size 1 Ad D.length (recs zk2 D)
 few2:D.length<=4611686018427387903
 within:DataIn w w.heap.size D
theorem TabIn.later{w w':World}{Ac:Option Addr}{cc:Nat}{L:List zbc}{Ad:Option Addr}{D:List zex}(h:TabIn w Ac cc L Ad D)(hb:New w w'):TabIn w' Ac cc L Ad D:=
 ⟨Reads.later h.cols hb,h.fine,h.cap,h.few,Reads.later h.data hb,h.few2,h.within.later hb⟩
end Go.Hm
namespace Go.Proofs.Y
open Go.RowKit Go.Hm Go.WideShapes Go.ChangeShapes
section
variable{H:Type}{enc:TypeId × Value->H}{W:World}{base:Nat}{v:Value}{d:DataW H}{ps:List MemPlace}
end
end Go.Proofs.Y
