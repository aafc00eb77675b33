/- Merged. -/
import Derived.Test.YtmgfkpnghlmheaaGreatBun16
set_option maxHeartbeats 2000000
namespace Go.Proofs.Y
open Go.RowKit Go.Hm
def zg2(t:Int)(l:List zab):Option (List Nat):=
 match plO t (ze7 l).1 with
 |none=>none
 |some V=>if l.length<=65536 then some (vp (ze7 l).1.length++vp V.length++V++encL (ze7 l).2) else none
structure IsDic(t:Int)(b:List Nat)(n:Int)(o:Option (List zab)):Prop where
 sound:∀l,o=some l->(l.length:Int)=n/\zg2 t l=some b/\ ∀c∈l,zai c
 compl:∀l,(∀c∈l,zai c)->(l.length:Int)=n->zg2 t l=some b->o=some l
theorem IsDic.uniq{t:Int}{b:List Nat}{n:Int}{o p:Option (List zab)}(h:IsDic t b n o)(k:IsDic t b n p):o=p:=by
 cases o with
 |some l=>obtain⟨a,b,c⟩:=h.sound l rfl;exact(k.compl l c a b).symm
 |none=>
  cases p with
  |none=>rfl
  |some l=>obtain⟨a,b,c⟩:=k.sound l rfl;exact h.compl l c a b
theorem zij{l:List zab}(hl:l.length<=65536):∀x∈(ze7 l).2,x<=18446744073709551615:=fun x hx=>by have:=(zj1 l).lt x hx;have:=zii l;omega
def qax(S3:St)(o1:Option (List zab))(cnt:Nat)(o2:Option (List Nat)):Option (List zab):=
 match S3,o1,o2 with
 |some _,some E,some P=>if E.Nodup/\ordL P=some cnt then some (P.map fun p=>E.getD p zfs) else none
 |_,_,_=>none
theorem zzb{t n:Int}{b x y:List Nat}{cnt sz:Nat}{S1 S2 S3 S4:St}{o1:Option (List zab)}{o2:Option (List Nat)}(h8:∀x∈b,x<256)(hb:b.length<=140737488355200)(hn:n<=9223372036854775807)
 (k1:lenS n (some b)=(cnt,S1))(k2:lenS ((S1.getD []).length:Int) S1=(sz,S2))(k3:zbt (sz:Int) S2=(x,S3))(hp:IsPl zai t x (cnt:Int) o1)
 (k4:zbt ((S3.getD []).length:Int) S3=(y,S4))(hd:IsDec y n o2):IsDic t b n (qax S3 o1 cnt o2):=by
 constructor
 ·intro l hl
  unfold qax at hl;split at hl
  ·rename_i r E P
   split at hl
   ·rename_i hc
    obtain⟨hc1,hc2⟩:=hc;injection hl with hl;obtain⟨p1,p2,p3⟩:=hp.sound E rfl;obtain⟨d1,d2,d3,d4⟩:=(hd P).1 rfl;have hcE:E.length=cnt:=by omega
    have hI:IsEnt l E P:=⟨hc1,hl,by rw[hc2,hcE]⟩;have hU:=hI.uniq;have hL:=hI.len;refine⟨by omega,?_,?_⟩
    ·unfold zg2
     rw[hU];dsimp only;rw[p2];dsimp only;rw[if_pos (by omega)];congr 1
     rcases zbq n (some b) (St.ok_some h8) with q|⟨N,r1,e1,q1,_,q⟩
     ·rw[q] at k1
      injection k1 with k1 k1';subst k1 k1';rw[zgw] at k2;injection k2 with k2 k2';subst k2 k2';rw[zdr] at k3;injection k3 with _ k3;cases k3
     ·rw[q] at k1
      injection k1 with k1 k1';subst k1 k1';injection e1 with e1;have h81:St.ok (some r1):=St.ok_some fun z hz=>h8 z (by rw[e1];simp[hz])
      rcases zbq _ (some r1) h81 with q2|⟨M,r2,e2,q3,_,q2⟩
      ·rw[q2] at k2
       injection k2 with k2 k2';subst k2 k2';rw[zdr] at k3;injection k3 with _ k3;cases k3
      ·rw[q2] at k2
       injection k2 with k2 k2';subst k2 k2';injection e2 with e2;rcases zca (M:Int) (some r2) with q4|⟨l2,e3,_,e5,q4⟩
       ·rw[q4] at k3
        injection k3 with _ k3;cases k3
       ·rw[q4] at k3
        injection e3 with e3;injection k3 with k3 k3';injection k3' with k3';subst e3;rw[Int.toNat_natCast] at k3 k3';have hy:y=r:=by have:=zdf r [];rw[List.append_nil] at this;simp only[Option.getD_some] at k4;rw[this] at k4;injection k4 with k4 _;exact k4.symm
        have hx:x.length=M:=by rw[<-k3,List.length_take];omega
        rw[d4,hy,hcE,hx,e1,e2,<-k3',<-k3];simp
    ·intro c hcl
     rw[<-hl] at hcl;obtain⟨p,hpP,rfl⟩:=List.mem_map.1 hcl;have hlt:=hI.lt p hpP;refine p3 _ ?_;rw[List.getD_eq_getElem?_getD,List.getElem?_eq_getElem hlt];exact List.getElem_mem hlt
   ·cases hl
  ·cases hl
 ·intro l hdl hln hB
  have hI:=zj1 l;have hle:=zii l;have hw:=fun h=>zij (l:=l) h
  have hED:∀c∈(ze7 l).1,zai c:=fun c hc=>hdl c ((zgd l c).1 hc)
  unfold zg2 at hB;split at hB
  ·cases hB
  ·rename_i V hV
   split at hB
   ·rename_i hl6
    have hw:=hw hl6;have hL:=hI.len;have hN:=hI.nodup;have hM:=hI.map;have hO:=hI.ord;generalize(ze7 l).1=E at*;generalize(ze7 l).2=P at*;injection hB with hB;have a1:lenS n (some b)=(E.length,some (vp V.length++(V++encL P))):=by rw[<-hB,List.append_assoc,List.append_assoc];exact zb2 _ _ (by omega) hn
    rw[a1] at k1;injection k1 with k1 k1';subst k1 k1';have hbl:=congrArg List.length hB;simp only[List.length_append] at hbl;have a2:lenS (((some (vp V.length++(V++encL P)):St).getD []).length:Int) (some (vp V.length++(V++encL P)))=(V.length,some (V++encL P)):=by
     refine zb2 _ _ ?_ ?_
     ·simp only[Option.getD_some,List.length_append];omega
     ·simp only[Option.getD_some,List.length_append];omega
    rw[a2] at k2;injection k2 with k2 k2';subst k2 k2';rw[zdf] at k3;injection k3 with k3 k3';subst k3 k3';have a4:=zdf (encL P) [];rw[List.append_nil] at a4;simp only[Option.getD_some] at k4;rw[a4] at k4;injection k4 with k4 k4';subst k4 k4';rw[hp.compl E hED rfl hV,(hd P).2 ⟨by omega,by omega,hw,rfl⟩];unfold qax;dsimp only;rw[if_pos ⟨hN,hO⟩,hM]
   ·cases hB
end Go.Proofs.Y
namespace Go.Hm
open Go Go.RowKit
def zuu(x:Nat):zab:=(false,(x:Int),[],0,0)
theorem z56{l:List Nat}(h:∀x∈l,x<2):zdx (l.map zuu)=l:=by
 unfold zdx;rw[List.map_map];conv=>rhs;rw[<-List.map_id l]
 refine List.map_congr_left fun x hx=>?_
 have:=h x hx;show u64N (x:Int)=x;unfold u64N;omega
theorem z57{l:List zab}(h:∀c∈l,zac c 1 false=true):(zdx l).map zuu=l:=by
 unfold zdx;rw[List.map_map];conv=>rhs;rw[<-List.map_id l]
 refine List.map_congr_left fun c hc=>?_
 have hr:=h c hc;have h0:=zge hr;have h1:=qds hr;obtain⟨y0,y1,y2,y3,y4⟩:=c;dsimp only at h0 h1;subst h0;have e:(y2=[]/\y3=0/\y4=0)/\(y1=0\/y1=1):=by simpa[zac] using hr
 obtain⟨⟨rfl,rfl,rfl⟩,-⟩:=e;show zuu (u64N y1)=(false,y1,[],0,0);unfold zuu u64N;rcases h1 with rfl|rfl<;> rfl
theorem z1z{x:Nat}(h:x<2):zac (zuu x) 1 false=true:=by
 have:x=0\/x=1:=by omega
 rcases this with rfl|rfl<;> simp[zac,zuu]
end Go.Hm
namespace Go.Proofs.Y
open Go.RowKit Go.Hm
theorem zuv{b:List Nat}{n:Int}(h8:∀x∈b,x<256):IsPl zai 1 b n ((zbf b 1 n).map fun l=>l.map zuu):=by
 constructor
 ·intro l hl
  cases hu:zbf b 1 n with
  |none=>rw[hu] at hl;cases hl
  |some k=>
   rw[hu] at hl;injection hl with hl;subst hl;obtain⟨hp,hlen,hw,hk,hf⟩:=zho h8 hu;have h2:∀x∈k,x<2:=by have:=(zgq k 1 (by omega) hk).1 (by omega);simpa using this
   have hR:∀c∈k.map zuu,zac c 1 false=true:=fun c hc=>by obtain⟨x,hx,rfl⟩:=List.mem_map.1 hc;exact z1z (h2 x hx)
   have hpb:=qam hR (by rw[List.length_map];exact hf);rw[z56 h2,hp] at hpb;injection hpb with hpb;refine⟨by rw[List.length_map];exact hlen,plO_iff.2 ⟨plOk_iff.2 ⟨⟨by omega,by omega,by rw[List.length_map];exact hf⟩,hR⟩,hpb.symm⟩,fun c hc=>?_⟩;obtain⟨x,hx,rfl⟩:=List.mem_map.1 hc;have:=h2 x hx;unfold zai zuu;exact⟨⟨by simp,by simp⟩,by dsimp only;omega⟩
 ·intro l _ hlen hp
  obtain⟨hok,hb⟩:=plO_iff.1 hp;obtain⟨⟨_,_,hf⟩,hR⟩:=plOk_iff.1 hok;have hbl:(zdx l).length=l.length:=by unfold zdx;rw[List.length_map]
  have hu:=zhn (zdx l) 1 (by omega) (by omega) (zod hR) (fun x hx=>by unfold zdx at hx;obtain⟨y,_,rfl⟩:=List.mem_map.1 hx;have:=zw0 y.2.1;omega);have e:low (pk 1 (zdx l)) ((1*(zdx l).length+7)/8)=b:=by rw[<-hb];unfold plB;rw[if_pos rfl,hbl]
  rw[e,hbl,hlen] at hu;have hu:zbf b 1 n=some (zdx l):=hu;rw[hu];show some ((zdx l).map zuu)=some l;rw[z57 hR]
end Go.Proofs.Y
namespace Go.Hm
open Go Go.RowKit
theorem z12(a b c d f:Value)(n:Nat):(madeCells #[a,b,c,d,f] (n*5)).toList=(List.replicate n [a,b,c,d,f]).flatten:=by
 induction n with
 |zero=>simp[madeCells]
 |succ n ih=>
  rw[List.replicate_succ',List.flatten_append,<-ih];have e:∀m,m%5=0->(madeCells #[a,b,c,d,f] (m+5)).toList=(madeCells #[a,b,c,d,f] m).toList++[a,b,c,d,f]:=by intro m hm;simp only[madeCells,Array.toList_map,Array.toList_range,List.range_succ,List.map_append,List.map_cons,List.map_nil,List.append_assoc,List.cons_append,List.nil_append,List.size_toArray,List.length_cons,List.length_nil];rw[hm,show(m+1)%5=1 by omega,show(m+2)%5=2 by omega,show(m+3)%5=3 by omega,show(m+4)%5=4 by omega];rfl
  rw[Nat.succ_mul,e (n*5) (by omega)];simp
section
variable{P:Program}{ops:Array Oper}{rest:List Oper}{o:Oper}{a:Act}{Q:Exit->Act->World->Prop}
theorem zes{w:World}{t e:TypeId}{x y z u v:Value}{bytes:Nat}(E:ElT P t e (.agg #[x,y,z,u,v]) 5 bytes)(hgd:o.guard=none)(lo co:Operand)(ho:o.op=Op.makeSlice t lo co)
 {W:World}{B:Nat}{kl kc:IntKind}{L C:Int}(n:Nat)(hl:a.eval lo= .int kl L)(hc:a.eval co= .int kc C)(hL:L=(n:Int))(hC:C=(n:Int))(hb:Below B W w)(hbase:B<=w.heap.size)
 (hn:n*bytes<=140737488355328)(hm:n<=maxLen)
 (h:∀w',w'.ownsRow w.heap.size e 5 (.slice (some ⟨w.heap.size,0,none⟩) n n) n (List.replicate n [x,y,z,u,v]).flatten->w.grownBy w' none->Below B W w'->w'.heap.size=w.heap.size+1->wpList P ops Q rest (a.put o.dst (.slice (some ⟨w.heap.size,0,none⟩) n n)) w'):
 wpList P ops Q (o::rest) a w:=by
 obtain⟨i,hi,hz0,hs1,hb1⟩:=info_parts E.hi;subst hL hC;have hmC:(n:Int)<=9223372036854775807:=by have h:=hm;simp only[maxLen] at h;omega
 have hbC:(i.bytes:Int)*(n:Int)<=281474976710656:=by
  have h:((i.bytes*n:Nat):Int)<=281474976710656:=by rw[hb1,Nat.mul_comm];omega
  rwa[Int.natCast_mul] at h
 have hrun:=run_make (P:=P) w t e i (.agg #[x,y,z,u,v]) E.ht hi hz0 kl kc (n:Int) (n:Int) (by omega) (by omega) hbC hmC;rw[Int.toNat_natCast,hs1] at hrun;refine wpList_plain hgd fun K hK=>?_
 unfold Oper.wp;simp[execOp,ho,hl,hc,hrun,Result.andThen];refine hK _ _ (h _ ?_ (World.grownBy_alloc _ _ _) (hb.alloc hbase _) (by simp));refine⟨by simp,.inr ⟨_,n,_,rfl,Nat.le_refl _,heap_alloc_new w _,Nat.le_refl _,hm,by simp[size_madeCells],?_⟩⟩;rw[List.take_of_length_le (by simp[size_madeCells])];exact z12 x y z u v n
end
theorem qbl{A B:List zab}{z:Nat}:(recs zam (A++zaz::B)).set (A.length*5+1) (.int .i64 (z:Int))=recs zam (A++zuu z::B):=by have l:(recs zam A).length=A.length*5:=zar (sz:=5) (fun _=>rfl) A;rw[zaw,zaw,List.set_append_right _ _ (by omega),l,show A.length*5+1-A.length*5=1 by omega];congr 1
theorem zg6(n:Nat):(List.replicate n [Value.bool false,.int .i64 0,.string ⟨#[]⟩,.int .i64 0,.int .i64 0]).flatten=recs zam (List.replicate n zaz):=by
 induction n with
 |zero=>rfl
 |succ n ih=>
  rw[List.replicate_succ,List.flatten_cons,ih,List.replicate_succ];rfl
end Go.Hm
namespace Go.Proofs.Y
open Go.RowKit Go.Hm
set_option maxRecDepth 100000 in
theorem zoq{w:World}{A:Option Addr}{c m:Nat}{b:List Nat}{n:Nat}(h:Reads w w.heap.size 1 A m (za3 .u8 b))(h8:∀x∈b,x<256)(hm:m<=140737488351232)(hn:n<=65536):
 Calls Tryz.prog 203 #[.slice A m c,.int .i64 (n:Int)] w (OptC ((zbf b 1 (n:Int)).map fun l=>l.map zuu) w):=by
 obtain rfl:m=b.length:=h.len;have U:=Hz (zgv (c:=c) 1 (n:Int) h h8 (by omega) (by omega) (by omega) (by omega) (by omega));have hpu:=fun l=>zho (l:=l) (x:=1) (n:=(n:Int)) h8
 clear h h8;generalize zbf b 1 (n:Int)=O at*;cases O with
 |none=>
  go_enter Tryz.func203,Tryz.ntmps203
  go_wp2_with fail
  refine U.out.mono ?_;rintro e w1 ⟨rfl,b1⟩;go_wp2_with fail
  go_ret2
  exact⟨rfl,b1⟩
 |some l=>
  obtain⟨-,hlen,hw,hk,hf⟩:=hpu l rfl;have h2:∀x∈l,x<2:=by have:=(zgq l 1 (by omega) hk).1 (by omega);simpa using this
  obtain rfl:n=l.length:=by omega
  have H2:=Hz h2;clear hpu hlen hw hk h2;go_enter Tryz.func203,Tryz.ntmps203
  go_wp2_with fail
  refine U.out.mono ?_;rintro e w1 ⟨A1,n1,c1,rfl,k1,b1⟩;obtain rfl:n1=l.length:=by have:=k1.len;rwa[zaa] at this
  have hz1:=b1.size;have R1:=Hz k1.reads;clear U k1
  go_wp2_with (refine zes qfi rfl (.tmp 19) (.tmp 19) rfl (W:=w) (B:=w.heap.size) l.length rfl rfl rfl rfl b1 hz1 (by omega) (by simp only[maxLen];omega) ?_
               intro w2 o2 g2 b2 hs2)
  rw[zg6] at o2;have b12:New w1 w2:=(Turns.of_none (T:=[]) g2).new (by simp);go_loopw [23] (fun i wr=>∃k:Nat,k<=l.length/\i= .int .i64 (k:Int)/\wr.ownsRow w1.heap.size 61 5 (.slice (some ⟨w1.heap.size,0,none⟩) l.length l.length) l.length (recs zam ((l.take k).map zuu++List.replicate (l.length-k) zaz))/\New w1 wr) (fun i _=>l.length-(intOf i).toNat)
  case atStart=>exact⟨0,Nat.zero_le _,rfl,by simpa using o2,b12⟩
  case round=>
   obtain⟨k,hk,rfl,o,hb⟩:=hrel;clear o2 g2 b2 b12 hs2;by_cases hlt:k<l.length
   ·obtain⟨ax,rfl,hbx,qx⟩:=(Reads.later R1.out hb).num (i:=k) hlt
    have hx2:=H2.out (l.getD k 0) (by rw[List.getD_eq_getElem?_getD,List.getElem?_eq_getElem hlt];exact List.getElem_mem hlt);have htk:=zae l k 0 hlt;generalize l.getD k 0=x at*;have hwr:IntKind.i64.wrap (x:Int)=(x:Int):=IntWalk.i64_in _ (by omega);obtain⟨ad,ea,_,-,d1,-⟩:=(Reads.of_own o).cell5 (i:=k) hlt;injection ea with ea;subst ea;obtain⟨cs,BR⟩:=zih o;have f1:=BR.frozen (k*5+1);have ead:(⟨w1.heap.size,0,none⟩:Addr).add (k*5)=⟨w1.heap.size,k*5,none⟩:=by unfold Addr.add;split<;> simp_all
    rw[ead] at d1;dsimp only at d1;have hA:((l.take k).map zuu).length=k:=by rw[List.length_map,List.length_take];omega
    obtain⟨o',-⟩:=World.ownsRow.stored o (k*5+1) (.int .i64 (x:Int));have ers:=qbl (A:=(l.take k).map zuu) (B:=List.replicate (l.length-(k+1)) zaz) (z:=x);rw[hA] at ers;rw[show l.length-k=(l.length-(k+1))+1 by omega,List.replicate_succ,ers] at o';have o':(wr.setCell ⟨w1.heap.size,k*5+1,none⟩ (.int .i64 (x:Int))).ownsRow w1.heap.size 61 5 (.slice (some ⟨w1.heap.size,0,none⟩) l.length l.length) l.length (recs zam ((l.take (k+1)).map zuu++List.replicate (l.length-(k+1)) zaz)):=by rw[htk,List.map_append,List.append_assoc];exact o'
    have O':=Hz o';have HB:=Hz (hb.setCell (p:=⟨w1.heap.size,k*5+1,none⟩) (Nat.le_refl _) (.int .i64 (x:Int)));clear o' ers o htk hA BR;go_wp2_with fail
    go_roundw
    case rel=>exact⟨k+1,by omega,by go_num,O'.out,HB.out⟩
    case measure=>simp[intOf];omega
   ·obtain rfl:k=l.length:=by omega
    rw[Nat.sub_self,List.replicate_zero,List.append_nil,List.take_length] at o;go_wp2_with fail
    go_ret2
    exact⟨_,_,_,rfl,zbd o hz1,New.trans b1 hb⟩
open Go.RowKit Go.Hm
theorem z58{t:Int}{b:List Nat}{n:Int}(h: ¬(0<=t/\t<=3/\0<=n/\n<=65536)):IsPl zai t b n none:=
 ⟨fun l e=>(by cases e),fun l _ hl hp=>by have:=(plOk_iff.1 (plO_iff.1 hp).1).1;omega⟩
set_option maxRecDepth 100000 in
theorem zj6{w:World}{A:Option Addr}{c m:Nat}{b:List Nat}{t n:Int}(h:Reads w w.heap.size 1 A m (za3 .u8 b))(h8:∀x∈b,x<256)(hm:m<=140737488351232):
 Calls Tryz.prog 181 #[.int .i64 t,.slice A m c,.int .i64 n] w (qiy t b n w):=by
 by_cases hk:0<=t/\t<=3/\0<=n/\n<=65536
 ·obtain⟨n,rfl⟩:=Int.eq_ofNat_of_zero_le hk.2.2.1
  by_cases h1:t=1
  ·subst h1
   have KN:=zko (w:=w) (t:=1) (n:=(n:Int));rw[decide_eq_true hk] at KN;have KN:=Hz KN;have U:=Hz (zoq (c:=c) (n:=n) h h8 hm (by omega));have HI:=Hz (zuv (n:=(n:Int)) h8);clear h h8 hk;generalize(zbf b 1 (n:Int)).map (fun l=>l.map zuu)=O at*;go_enter Tryz.func181,Tryz.ntmps181
   go_wp2_with fail
   refine KN.out.mono ?_;rintro e w1 ⟨rfl,rfl⟩;go_wp2_with fail
   refine U.out.mono ?_;intro e w2 h2;cases O with
   |none=>
    obtain⟨rfl,b2⟩:=h2;go_wp2_with fail
    go_ret2
    exact⟨none,HI.out,rfl,b2⟩
   |some l=>
    obtain⟨A2,n2,c2,rfl,o2,b2⟩:=h2;go_wp2_with fail
    go_ret2
    exact⟨some l,HI.out,_,_,_,rfl,o2,b2⟩
  ·exact zw5 h h8 hm (by omega) (by omega)
 ·have KN:=zko (w:=w) (t:=t) (n:=n)
  rw[decide_eq_false hk] at KN;have KN:=Hz KN;have HI:=Hz (z58 (b:=b) hk);clear h h8 hk;go_enter Tryz.func181,Tryz.ntmps181
  go_wp2_with fail
  refine KN.out.mono ?_;rintro e w1 ⟨rfl,rfl⟩;go_wp2_with fail
  go_ret2
  exact⟨none,HI.out,rfl,New.refl _⟩
end Go.Proofs.Y
namespace Go.Hm
open Go Go.RowKit
def zs8(S:St):za2 × St:=
 (((zbt ((lenS 100 S).1:Int) (lenS 100 S).2).1,((zbc (zbt ((lenS 100 S).1:Int) (lenS 100 S).2).2).1:Int),decide ((zbc (zbc (zbt ((lenS 100 S).1:Int) (lenS 100 S).2).2).2).1=1)),
   if 1<(zbc (zbc (zbt ((lenS 100 S).1:Int) (lenS 100 S).2).2).2).1 then none else(zbc (zbc (zbt ((lenS 100 S).1:Int) (lenS 100 S).2).2).2).2)
def zef:Nat->St->List za2 × St
 |0,S=>([],S)
 |n+1,S=>((zs8 S).1::(zef n (zs8 S).2).1,(zef n (zs8 S).2).2)
theorem zxo{S:St}(h:S.ok):(zs8 S).2.ok:=by
 unfold zs8;simp only;split
 ·exact St.ok_none
 ·exact zna (zna (zcq (za6 h)).1)
theorem zz0:∀(n:Nat) {S:St},S.ok->(zef n S).2.ok
 |0,_,h=>h
 |n+1,_,h=>zz0 n (zxo h)
theorem zk6:∀(n:Nat) (S:St),(zef n S).1.length=n
 |0,_=>rfl
 |n+1,S=>by rw[zef,List.length_cons,zk6 n]
theorem zri:∀(n:Nat) (S:St),(zef (n+1) S).1=(zef n S).1++[(zs8 (zef n S).2).1]/\(zef (n+1) S).2=(zs8 (zef n S).2).2
 |0,S=>⟨rfl,rfl⟩
 |n+1,S=>by
  obtain⟨h1,h2⟩:=zri n (zs8 S).2;refine⟨?_,h2⟩;rw[zef,h1];rfl
def z6y(c:za2):Prop:=(∀x∈c.1,x<256)/\c.1.length<=100
theorem zvh{S:St}(h:S.ok):z6y (zs8 S).1:=by refine⟨(zcq (za6 h)).2,?_⟩;have h1:=zeh (n:=((lenS 100 S).1:Int)) (S:=(lenS 100 S).2) (by omega);have h2:=zb1 (m:=100) S (by omega) h;unfold zs8;simp only;omega
theorem zrj:∀(n:Nat) {S:St},S.ok-> ∀c∈(zef n S).1,z6y c
 |0,_,_,c,hc=>by simp[zef] at hc
 |n+1,S,h,c,hc=>by
  rw[zef,List.mem_cons] at hc;rcases hc with rfl|hc
  ·exact zvh h
  ·exact zrj n (zxo h) c hc
def getC(S:St):List za2 × St:=
 if(zef (lenS 64 S).1 (lenS 64 S).2).2=none\/ ¬zcu (zef (lenS 64 S).1 (lenS 64 S).2).1=0 then([],none) else zef (lenS 64 S).1 (lenS 64 S).2
end Go.Hm
namespace Go.Proofs.Y
open Go.RowKit Go.Hm
theorem qhw(w:World)(e:TypeId):(w.alloc (.cells #[] e)).ownsRow w.heap.size e 3 (.slice (some ⟨w.heap.size,0,none⟩) 0 0) 0 []:=
 ⟨by simp,.inr ⟨w.heap.size,0,#[],rfl,Nat.le_refl _,heap_alloc_new w _,Nat.le_refl _,by simp[maxLen],by simp,by simp⟩⟩
theorem qcz(c:za2):∀u∈zh8 c,u.oneCell'=true:=by intro u hu;simp[zh8] at hu;rcases hu with rfl|rfl|rfl<;> rfl
def zv8(l:List za2)(w:World)(e:Ending)(w':World):Prop:=∃v,e= .returned v/\w'.ownsRow w.heap.size 70 3 v l.length (recs zh8 l)/\New w w'
set_option maxRecDepth 100000 in
theorem zv9{w:World}{A:Option Addr}{n c:Nat}{l:List za2}(h:Reads w w.heap.size 3 A n (recs zh8 l))(hn:n<=100000):
 Calls Tryz.prog 61 #[.slice A n c] w (zv8 l w):=by
 obtain rfl:=h.lenC;have q44:∀(w:World) (a:Option Addr) (n c n' c':Nat),(binOp .eql 22 (.slice a n c) (.slice none n' c')).run Tryz.prog w= .ok (.bool a.isNone) w:=fun w a n c n' c'=>Lib.run_eql_slice_nil w _ _ a n c n' c' elCol7.ht
 cases A with
 |none=>
  have h0:l.length=0:=by
   rcases Nat.eq_zero_or_pos l.length with e|e
   ·exact e
   ·obtain⟨ad,h1,_⟩:=h.2 e
    cases h1
  have h1:l=[]:=List.length_eq_zero_iff.1 h0;subst h1;go_enter Tryz.func61,Tryz.ntmps61
  go_wp2
  go_ret
  exact⟨_,rfl,zcn,New.refl _⟩
 |some ad=>
  have hl:=h.1;go_enter Tryz.func61,Tryz.ntmps61
  obtain⟨i0,hi,hz0,hz1,hz2⟩:=info_parts elCol7.hi;have A:Aside (Reads w w.heap.size 3 (some ad) l.length (recs zh8 l)):=h;clear h;go_wp2_with (at_builtin;go_loud (refine wpList_append_own_at _ rfl (.tmp 5) (.tmp 6) 22 rfl w.heap.size 70 i0 _ 3 32 elCol7.ht hi hz0 hz1 hz2 rfl (by decide) _ 0 [] rfl (qhw w 70) ad l.length c (recs zh8 l) rfl hl ?qc2 ?qc3 ?qc4 ?qc5 ?qc6 ?_))
  case qc2=>
   intro j u hj;have hb:New w (w.alloc (.cells #[] 70)):=(Below.refl _ w).alloc (Nat.le_refl _) _;have hpos:0<l.length:=by have:=(List.getElem?_eq_some_iff.1 hj).1;omega
   obtain⟨ad2,e2,hlt,hc⟩:=(A.out).2 hpos;obtain rfl:=Option.some.inj e2;exact(Below.cell hb (by rw[za0];exact hlt)).trans (hc j u hj)
  case qc3=>exact z0k qcz l
  case qc4=>unfold maxLen;omega
  case qc5=>omega
  case qc6=>simp
  intro v' w1 hown hgrow hnil _;go_wp2
  go_ret
  refine⟨v',rfl,by simpa using hown,?_⟩;exact((Below.refl _ w).alloc (Nat.le_refl _) _).grown hgrow (by simp) (by intro k hk;simp[Value.ownBlock] at hk;omega)
end Go.Proofs.Y
