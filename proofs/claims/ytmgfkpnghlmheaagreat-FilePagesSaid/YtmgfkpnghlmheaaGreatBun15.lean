/- Merged. -/
import Derived.Test.YtmgfkpnghlmheaaGreatBun12
import Derived.Test.YtmgfkpnghlmheaaGreatBun14
set_option maxHeartbeats 2000000
set_option maxRecDepth 100000
namespace Go.Hm
open Go Go.RowKit
abbrev zdw:=Option Addr × Nat × List zab
def zgd(d:zdw):List Value:=[.slice d.1 d.2.2.length d.2.1]
theorem qij{α:Type}{l:List α}(h:l.length=5):∃a b c d e,l=[a,b,c,d,e]:=by
 match l,h with
 | [a,b,c,d,e],_=>exact⟨a,b,c,d,e,rfl⟩
def CellFine(c:zab):Prop:=(c.2.2.1.length<=140737488351232/\ ∀z∈c.2.2.1,z<256)/\(-9223372036854775808<=c.2.1/\c.2.1<=9223372036854775807)/\(-9223372036854775808<=c.2.2.2.1/\c.2.2.2.1<=9223372036854775807)/\(-9223372036854775808<=c.2.2.2.2/\c.2.2.2.2<=9223372036854775807)
end Go.Hm
namespace Go.Proofs.Y
open Go.RowKit Go.Hm Go.WideShapes Go.ChangeShapes
section
variable{H:Type}{enc:TypeId × Value->H}{W:World}{base:Nat}{v:Value}{d:DataW H}{ps:List MemPlace}
theorem z47{cs:List Value}(h:Held enc Tryz.prog W 61 cs):∃c:zab,cs=zan c/\CellFine c:=by
 have ht:Tryz.prog.underlying 61=some (.struct (zdf Tryz.prog 61)):=by kernel_rfl
 have ht2:Tryz.prog.underlying 59=some (.struct (zdf Tryz.prog 59)):=by kernel_rfl
 obtain⟨x0,x1,x2,x3,x4,rfl⟩:=qij (h.partLen ht (n:=5) (by kernel_rfl));have p0:=h.part ht 0 0 1 (ft:=4) (by kernel_rfl) (by kernel_rfl);have p1:=h.part ht 1 1 1 (ft:=3) (by kernel_rfl) (by kernel_rfl);have p2:=h.part ht 2 2 1 (ft:=9) (by kernel_rfl) (by kernel_rfl);have p3:=h.part ht 3 3 2 (ft:=59) (by kernel_rfl) (by kernel_rfl);have q0:=p3.part ht2 0 0 1 (ft:=3) (by kernel_rfl) (by kernel_rfl);have q1:=p3.part ht2 1 1 1 (ft:=3) (by kernel_rfl) (by kernel_rfl);obtain⟨b,e0⟩:=p0.bool (by kernel_rfl);obtain⟨n,e1,n1,n2⟩:=p1.i64 (by kernel_rfl);obtain⟨s,e2,s1,s2⟩:=p2.string (by kernel_rfl);obtain⟨x,e3,g1,g2⟩:=q0.i64 (by kernel_rfl);obtain⟨y,e4,g3,g4⟩:=q1.i64 (by kernel_rfl);simp only[List.drop_succ_cons,List.drop_zero,List.take_succ_cons,List.take_zero,List.cons.injEq,and_true] at e0 e1 e2 e3 e4;subst e0 e1 e2 e3 e4;exact⟨(b,n,s,x,y),rfl,⟨s2,s1⟩,⟨n1,n2⟩,⟨g1,g2⟩,g3,g4⟩
theorem z1q{cs:List Value}(h:Held enc Tryz.prog W 71 cs):∃x:zdw,cs=zgd x/\(Reads W W.heap.size 5 x.1 x.2.2.length (recs zan x.2.2)/\(∀y∈x.2.2,CellFine y)/\x.2.2.length<=x.2.1/\x.2.1<=9223372036854775807/\(x.1=none->x.2.1=0)):=by
 have ht:Tryz.prog.underlying 71=some (.slice 61):=by kernel_rfl
 obtain⟨A,c,l,h1,h2,_,h4,h5,h6⟩:=h.recs (f:=zan) (sz:=5) (by_:=48) (Q:=CellFine) (false,0,[],0,0) ht (by kernel_rfl) (by kernel_rfl) (fun _=>rfl) (by omega) (fun cs hh=>z47 hh);subst h1;refine⟨(A,c,l),rfl,h5,h6,h2,(show c<=9223372036854775807 by unfold reachBytes at h4;omega),?_⟩;rcases h.slice ht with e|⟨a,len,cap,e,_⟩
 ·simp only[List.cons.injEq,Value.slice.injEq,and_true] at e
  exact fun _=>e.2.2
 ·simp only[List.cons.injEq,Value.slice.injEq,and_true] at e
  intro hh;rw[e.1] at hh;cases hh
end
open Go.RowKit Go.Hm
theorem zc5{α:Type}{l:List α}{k:Nat}(d:α)(h:k<l.length):l.getD k d∈l:=by rw[List.getD_eq_getElem?_getD,List.getElem?_eq_getElem h];exact List.getElem_mem h
theorem qav{x y:zab}(hx:∀z∈x.2.2.1,z<256)(hy:∀z∈y.2.2.1,z<256):
 (!(x.1==y.1&&x.2.1==y.2.1&&(zac x.2.2.1).toList==(zac y.2.2.1).toList&&x.2.2.2.1==y.2.2.2.1&&x.2.2.2.2==y.2.2.2.2))=decide (x≠y):=by
 rw[zhe hx hy];obtain⟨b,n,s,p,q⟩:=x;obtain⟨b2,n2,s2,p2,q2⟩:=y;rw[Bool.eq_iff_iff];simp[Prod.ext_iff,or_assoc]
set_option maxRecDepth 100000 in
theorem z1r{w:World}{A:Option Addr}{n c:Nat}{l:List zab}{A2:Option Addr}{n2 c2:Nat}{l2:List zab}(h:Reads w w.heap.size 5 A n (recs zan l))(h2:Reads w w.heap.size 5 A2 n2 (recs zan l2))(hn:n<=9223372036854775807)(hn2:n2<=9223372036854775807)
 (h8:∀x∈l,∀z∈x.2.2.1,z<256)(h28:∀x∈l2,∀z∈x.2.2.1,z<256):
 Calls Tryz.prog 49 #[.slice A n c,.slice A2 n2 c2] w (DrewPost (.bool (decide (l=l2))) w):=by
 obtain rfl:=h.lenCell;obtain rfl:=h2.lenCell;by_cases hl:l.length=l2.length
 ·have e1:((l.length:Int) != (l2.length:Int))=false:=by simp;omega
  have K1:=Hz (fun(k:Nat) (hk:k<l.length) (hh:l.getD k (false,0,[],0,0)≠l2.getD k (false,0,[],0,0))=>show decide (l=l2)=false from decide_eq_false (fun e=>hh (by rw[e])));have K2:=Hz (fun(hh:l.take l.length=l2.take l.length)=>show decide (l=l2)=true from decide_eq_true (by rw[List.take_length] at hh;rw[hh,hl,List.take_length]));generalize decide (l=l2)=O at*;have HL:=Hz hl;clear hl;go_enter Tryz.func49,Tryz.ntmps49
  go_wp2
  clear e1;go_loopw [5] (fun i wr=>∃k q:Nat,i= .int .i64 (k:Int)/\k<=l.length/\wr=w.drewN q/\Hid (l.take k=l2.take k)) (fun i _=>l.length-(intOf i).toNat)
  case atStart=>exact⟨0,0,rfl,by omega,rfl,Hz (by simp)⟩
  case round=>
   obtain⟨k,q,rfl,hk,rfl,H⟩:=hrel;by_cases hlt:k<l.length
   ·have hlt2:k<l2.length:=by rw[<-HL.out];exact hlt
    obtain⟨ad,rfl,_,c0,c1,c2,c3,c4⟩:=h.cell5 hlt;obtain⟨ad2,rfl,_,d0,d1,d2,d3,d4⟩:=h2.cell5 hlt2;have M1:=Hz (K1.out k hlt);have M2:=Hz (fun(hh:l.getD k (false,0,[],0,0)=l2.getD k (false,0,[],0,0))=>show l.take (k+1)=l2.take (k+1) by rw[zae l k (false,0,[],0,0) hlt,zae l2 k (false,0,[],0,0) hlt2,H.out,hh])
    have i1:(k:Int)<(l.length:Int):=by omega
    have i2:(k:Int)<(l2.length:Int):=by omega
    have NE:=Hz (qav (h8 _ (zc5 (false,0,[],0,0) hlt)) (h28 _ (zc5 (false,0,[],0,0) hlt2)));clear H;generalize l.getD k (false,0,[],0,0)=x1 at*;generalize l2.getD k (false,0,[],0,0)=x2 at*;obtain⟨b1,n1,s1,px1,py1⟩:=x1;obtain⟨b2,n2,s2,px2,py2⟩:=x2;simp only at c0 c1 c2 c3 c4 d0 d1 d2 d3 d4;have QN:=fun W=>qe8 (b:=b1) (b':=b2) (n:=n1) (n':=n2) (s:=zac s1) (s':=zac s2) (x:=px1) (x':=px2) (y:=py1) (y':=py2) W
    have NE:=NE.out;simp only at NE;rw[NE] at QN;clear NE;generalize hR:decide ((b1,n1,s1,px1,py1)≠(b2,n2,s2,px2,py2))=R at QN;have HR:=Hz hR;clear hR;have M3:=Hz (fun(hh:R=true)=>M1.out (of_decide_eq_true (HR.out.trans hh)));have M4:=Hz (fun(hh:R=false)=>M2.out (Classical.not_not.1 (of_decide_eq_false (HR.out.trans hh))));clear M1 M2 HR;go_wp2
    go_quiet (fail)
    cases R with
    |true=>
     have O1:=Hz (M3.out rfl);go_wp2
     go_ret
     exact⟨by rw[O1.out];rfl,_,rfl⟩
    |false=>
     have O1:=Hz (M4.out rfl);go_wp2
     go_roundw
     case rel=>exact⟨k+1,_,by go_num,by omega,rfl,O1⟩
     case measure=>simp[intOf];omega
   ·obtain rfl:k=l.length:=by omega
    have O1:=Hz (K2.out H.out);clear K1 K2 H;go_wp2
    go_ret
    exact⟨by rw[O1.out];rfl,q,rfl⟩
 ·have e1:((l.length:Int) != (l2.length:Int))=true:=by simp;omega
  have e2:=Hz (show decide (l=l2)=false from decide_eq_false (fun e=>hl (by rw[e])));generalize decide (l=l2)=O at*;go_enter Tryz.func49,Tryz.ntmps49
  go_wp2
  go_ret
  exact⟨by rw[e2.out];rfl,0,rfl⟩
open Go.RowKit Go.Hm
def zjc(t:Int)(l:List zab):Option (List Nat):=
 match plO t (zgf l).1 with
 |none=>none
 |some V=>if l.length<=65536 then some (vp (zgf l).1.length++vp V.length++V++encL (zgf l).2) else none
structure IsDic(t:Int)(b:List Nat)(n:Int)(o:Option (List zab)):Prop where
 sound:∀l,o=some l->(l.length:Int)=n/\zjc t l=some b/\ ∀c∈l,zai c
 compl:∀l,(∀c∈l,zai c)->(l.length:Int)=n->zjc t l=some b->o=some l
theorem IsDic.uniq{t:Int}{b:List Nat}{n:Int}{o p:Option (List zab)}(h:IsDic t b n o)(k:IsDic t b n p):o=p:=by
 cases o with
 |some l=>obtain⟨a,b,c⟩:=h.sound l rfl;exact(k.compl l c a b).symm
 |none=>
  cases p with
  |none=>rfl
  |some l=>obtain⟨a,b,c⟩:=k.sound l rfl;exact h.compl l c a b
theorem zkh{l:List zab}(hl:l.length<=65536):∀x∈(zgf l).2,x<=18446744073709551615:=fun x hx=>by have:=(zk9 l).lt x hx;have:=zla l;omega
def qa2(S3:St)(o1:Option (List zab))(cnt:Nat)(o2:Option (List Nat)):Option (List zab):=
 match S3,o1,o2 with
 |some _,some E,some P=>if E.Nodup/\ordL P=some cnt then some (P.map fun p=>E.getD p zh4) else none
 |_,_,_=>none
theorem zzo{t n:Int}{b x y:List Nat}{cnt sz:Nat}{S1 S2 S3 S4:St}{o1:Option (List zab)}{o2:Option (List Nat)}(h8:∀x∈b,x<256)(hb:b.length<=140737488355200)(hn:n<=9223372036854775807)
 (k1:lenS n (some b)=(cnt,S1))(k2:lenS ((S1.getD []).length:Int) S1=(sz,S2))(k3:zbr (sz:Int) S2=(x,S3))(hp:IsPl zai t x (cnt:Int) o1)
 (k4:zbr ((S3.getD []).length:Int) S3=(y,S4))(hd:IsDec y n o2):IsDic t b n (qa2 S3 o1 cnt o2):=by
 constructor
 ·intro l hl
  unfold qa2 at hl;split at hl
  ·rename_i r E P
   split at hl
   ·rename_i hc
    obtain⟨hc1,hc2⟩:=hc;injection hl with hl;obtain⟨p1,p2,p3⟩:=hp.sound E rfl;obtain⟨d1,d2,d3,d4⟩:=(hd P).1 rfl;have hcE:E.length=cnt:=by omega
    have hI:IsEnt l E P:=⟨hc1,hl,by rw[hc2,hcE]⟩;have hU:=hI.uniq;have hL:=hI.len;refine⟨by omega,?_,?_⟩
    ·unfold zjc
     rw[hU];dsimp only;rw[p2];dsimp only;rw[if_pos (by omega)];congr 1
     rcases zbp n (some b) (St.ok_some h8) with q|⟨N,r1,e1,q1,_,q⟩
     ·rw[q] at k1
      injection k1 with k1 k1';subst k1 k1';rw[zgy] at k2;injection k2 with k2 k2';subst k2 k2';rw[zdx] at k3;injection k3 with _ k3;cases k3
     ·rw[q] at k1
      injection k1 with k1 k1';subst k1 k1';injection e1 with e1;have h81:St.ok (some r1):=St.ok_some fun z hz=>h8 z (by rw[e1];simp[hz])
      rcases zbp _ (some r1) h81 with q2|⟨M,r2,e2,q3,_,q2⟩
      ·rw[q2] at k2
       injection k2 with k2 k2';subst k2 k2';rw[zdx] at k3;injection k3 with _ k3;cases k3
      ·rw[q2] at k2
       injection k2 with k2 k2';subst k2 k2';injection e2 with e2;rcases zcd (M:Int) (some r2) with q4|⟨l2,e3,_,e5,q4⟩
       ·rw[q4] at k3
        injection k3 with _ k3;cases k3
       ·rw[q4] at k3
        injection e3 with e3;injection k3 with k3 k3';injection k3' with k3';subst e3;rw[Int.toNat_natCast] at k3 k3';have hy:y=r:=by have:=zdh r [];rw[List.append_nil] at this;simp only[Option.getD_some] at k4;rw[this] at k4;injection k4 with k4 _;exact k4.symm
        have hx:x.length=M:=by rw[<-k3,List.length_take];omega
        rw[d4,hy,hcE,hx,e1,e2,<-k3',<-k3];simp
    ·intro c hcl
     rw[<-hl] at hcl;obtain⟨p,hpP,rfl⟩:=List.mem_map.1 hcl;have hlt:=hI.lt p hpP;refine p3 _ ?_;rw[List.getD_eq_getElem?_getD,List.getElem?_eq_getElem hlt];exact List.getElem_mem hlt
   ·cases hl
  ·cases hl
 ·intro l hdl hln hB
  have hI:=zk9 l;have hle:=zla l;have hw:=fun h=>zkh (l:=l) h
  have hED:∀c∈(zgf l).1,zai c:=fun c hc=>hdl c ((ziz l c).1 hc)
  unfold zjc at hB;split at hB
  ·cases hB
  ·rename_i V hV
   split at hB
   ·rename_i hl6
    have hw:=hw hl6;have hL:=hI.len;have hN:=hI.nodup;have hM:=hI.map;have hO:=hI.ord;generalize(zgf l).1=E at*;generalize(zgf l).2=P at*;injection hB with hB;have a1:lenS n (some b)=(E.length,some (vp V.length++(V++encL P))):=by rw[<-hB,List.append_assoc,List.append_assoc];exact zby _ _ (by omega) hn
    rw[a1] at k1;injection k1 with k1 k1';subst k1 k1';have hbl:=congrArg List.length hB;simp only[List.length_append] at hbl;have a2:lenS (((some (vp V.length++(V++encL P)):St).getD []).length:Int) (some (vp V.length++(V++encL P)))=(V.length,some (V++encL P)):=by
     refine zby _ _ ?_ ?_
     ·simp only[Option.getD_some,List.length_append];omega
     ·simp only[Option.getD_some,List.length_append];omega
    rw[a2] at k2;injection k2 with k2 k2';subst k2 k2';rw[zdh] at k3;injection k3 with k3 k3';subst k3 k3';have a4:=zdh (encL P) [];rw[List.append_nil] at a4;simp only[Option.getD_some] at k4;rw[a4] at k4;injection k4 with k4 k4';subst k4 k4';rw[hp.compl E hED rfl hV,(hd P).2 ⟨by omega,by omega,hw,rfl⟩];unfold qa2;dsimp only;rw[if_pos ⟨hN,hO⟩,hM]
   ·cases hB
end Go.Proofs.Y
namespace Go.Hm
open Go Go.RowKit
def zus(x:Nat):zab:=(false,(x:Int),[],0,0)
theorem z6k{l:List Nat}(h:∀x∈l,x<2):zd5 (l.map zus)=l:=by
 unfold zd5;rw[List.map_map];conv=>rhs;rw[<-List.map_id l]
 refine List.map_congr_left fun x hx=>?_
 have:=h x hx;show u64N (x:Int)=x;unfold u64N;omega
theorem z6l{l:List zab}(h:∀c∈l,zaf c 1 false=true):(zd5 l).map zus=l:=by
 unfold zd5;rw[List.map_map];conv=>rhs;rw[<-List.map_id l]
 refine List.map_congr_left fun c hc=>?_
 have hr:=h c hc;have h0:=zgh hr;have h1:=qdt hr;obtain⟨y0,y1,y2,y3,y4⟩:=c;dsimp only at h0 h1;subst h0;have e:(y2=[]/\y3=0/\y4=0)/\(y1=0\/y1=1):=by simpa[zaf] using hr
 obtain⟨⟨rfl,rfl,rfl⟩,-⟩:=e;show zus (u64N y1)=(false,y1,[],0,0);unfold zus u64N;rcases h1 with rfl|rfl<;> rfl
theorem z2g{x:Nat}(h:x<2):zaf (zus x) 1 false=true:=by
 have:x=0\/x=1:=by omega
 rcases this with rfl|rfl<;> simp[zaf,zus]
end Go.Hm
namespace Go.Proofs.Y
open Go.RowKit Go.Hm
theorem zut{b:List Nat}{n:Int}(h8:∀x∈b,x<256):IsPl zai 1 b n ((zbh b 1 n).map fun l=>l.map zus):=by
 constructor
 ·intro l hl
  cases hu:zbh b 1 n with
  |none=>rw[hu] at hl;cases hl
  |some k=>
   rw[hu] at hl;injection hl with hl;subst hl;obtain⟨hp,hlen,hw,hk,hf⟩:=zhk h8 hu;have h2:∀x∈k,x<2:=by have:=(zgr k 1 (by omega) hk).1 (by omega);simpa using this
   have hR:∀c∈k.map zus,zaf c 1 false=true:=fun c hc=>by obtain⟨x,hx,rfl⟩:=List.mem_map.1 hc;exact z2g (h2 x hx)
   have hpb:=qar hR (by rw[List.length_map];exact hf);rw[z6k h2,hp] at hpb;injection hpb with hpb;refine⟨by rw[List.length_map];exact hlen,plO_iff.2 ⟨plOk_iff.2 ⟨⟨by omega,by omega,by rw[List.length_map];exact hf⟩,hR⟩,hpb.symm⟩,fun c hc=>?_⟩;obtain⟨x,hx,rfl⟩:=List.mem_map.1 hc;have:=h2 x hx;unfold zai zus;exact⟨⟨by simp,by simp⟩,by dsimp only;omega⟩
 ·intro l _ hlen hp
  obtain⟨hok,hb⟩:=plO_iff.1 hp;obtain⟨⟨_,_,hf⟩,hR⟩:=plOk_iff.1 hok;have hbl:(zd5 l).length=l.length:=by unfold zd5;rw[List.length_map]
  have hu:=zhj (zd5 l) 1 (by omega) (by omega) (zn1 hR) (fun x hx=>by unfold zd5 at hx;obtain⟨y,_,rfl⟩:=List.mem_map.1 hx;have:=zw5 y.2.1;omega);have e:low (pk 1 (zd5 l)) ((1*(zd5 l).length+7)/8)=b:=by rw[<-hb];unfold plB;rw[if_pos rfl,hbl]
  rw[e,hbl,hlen] at hu;have hu:zbh b 1 n=some (zd5 l):=hu;rw[hu];show some ((zd5 l).map zus)=some l;rw[z6l hR]
end Go.Proofs.Y
namespace Go.Hm
open Go Go.RowKit
theorem z2h(a b c d f:Value)(n:Nat):(madeCells #[a,b,c,d,f] (n*5)).toList=(List.replicate n [a,b,c,d,f]).flatten:=by
 induction n with
 |zero=>simp[madeCells]
 |succ n ih=>
  rw[List.replicate_succ',List.flatten_append,<-ih];have e:∀m,m%5=0->(madeCells #[a,b,c,d,f] (m+5)).toList=(madeCells #[a,b,c,d,f] m).toList++[a,b,c,d,f]:=by intro m hm;simp only[madeCells,Array.toList_map,Array.toList_range,List.range_succ,List.map_append,List.map_cons,List.map_nil,List.append_assoc,List.cons_append,List.nil_append,List.size_toArray,List.length_cons,List.length_nil];rw[hm,show(m+1)%5=1 by omega,show(m+2)%5=2 by omega,show(m+3)%5=3 by omega,show(m+4)%5=4 by omega];rfl
  rw[Nat.succ_mul,e (n*5) (by omega)];simp
section
variable{P:Program}{ops:Array Oper}{rest:List Oper}{o:Oper}{a:Act}{Q:Exit->Act->World->Prop}
theorem zev{w:World}{t e:TypeId}{x y z u v:Value}{bytes:Nat}(E:ElT P t e (.agg #[x,y,z,u,v]) 5 bytes)(hgd:o.guard=none)(lo co:Operand)(ho:o.op=Op.makeSlice t lo co)
 {W:World}{B:Nat}{kl kc:IntKind}{L C:Int}(n:Nat)(hl:a.eval lo= .int kl L)(hc:a.eval co= .int kc C)(hL:L=(n:Int))(hC:C=(n:Int))(hb:Below B W w)(hbase:B<=w.heap.size)
 (hn:n*bytes<=140737488355328)(hm:n<=maxLen)
 (h:∀w',w'.ownsRow w.heap.size e 5 (.slice (some ⟨w.heap.size,0,none⟩) n n) n (List.replicate n [x,y,z,u,v]).flatten->w.grownBy w' none->Below B W w'->w'.heap.size=w.heap.size+1->wpList P ops Q rest (a.put o.dst (.slice (some ⟨w.heap.size,0,none⟩) n n)) w'):
 wpList P ops Q (o::rest) a w:=by
 obtain⟨i,hi,hz0,hs1,hb1⟩:=info_parts E.hi;subst hL hC;have hmC:(n:Int)<=9223372036854775807:=by have h:=hm;simp only[maxLen] at h;omega
 have hbC:(i.bytes:Int)*(n:Int)<=281474976710656:=by
  have h:((i.bytes*n:Nat):Int)<=281474976710656:=by rw[hb1,Nat.mul_comm];omega
  rwa[Int.natCast_mul] at h
 have hrun:=run_make (P:=P) w t e i (.agg #[x,y,z,u,v]) E.ht hi hz0 kl kc (n:Int) (n:Int) (by omega) (by omega) hbC hmC;rw[Int.toNat_natCast,hs1] at hrun;refine wpList_plain hgd fun K hK=>?_
 unfold Oper.wp;simp[execOp,ho,hl,hc,hrun,Result.andThen];refine hK _ _ (h _ ?_ (World.grownBy_alloc _ _ _) (hb.alloc hbase _) (by simp));refine⟨by simp,.inr ⟨_,n,_,rfl,Nat.le_refl _,heap_alloc_new w _,Nat.le_refl _,hm,by simp[size_madeCells],?_⟩⟩;rw[List.take_of_length_le (by simp[size_madeCells])];exact z2h x y z u v n
end
theorem qbp{A B:List zab}{z:Nat}:(recs zan (A++zaz::B)).set (A.length*5+1) (.int .i64 (z:Int))=recs zan (A++zus z::B):=by have l:(recs zan A).length=A.length*5:=zat (sz:=5) (fun _=>rfl) A;rw[zas,zas,List.set_append_right _ _ (by omega),l,show A.length*5+1-A.length*5=1 by omega];congr 1
theorem zg6(n:Nat):(List.replicate n [Value.bool false,.int .i64 0,.string ⟨#[]⟩,.int .i64 0,.int .i64 0]).flatten=recs zan (List.replicate n zaz):=by
 induction n with
 |zero=>rfl
 |succ n ih=>
  rw[List.replicate_succ,List.flatten_cons,ih,List.replicate_succ];rfl
end Go.Hm
namespace Go.Proofs.Y
open Go.RowKit Go.Hm
set_option maxRecDepth 100000 in
theorem zoh{w:World}{A:Option Addr}{c m:Nat}{b:List Nat}{n:Nat}(h:Reads w w.heap.size 1 A m (za2 .u8 b))(h8:∀x∈b,x<256)(hm:m<=140737488351232)(hn:n<=65536):
 Calls Tryz.prog 203 #[.slice A m c,.int .i64 (n:Int)] w (OptC ((zbh b 1 (n:Int)).map fun l=>l.map zus) w):=by
 obtain rfl:m=b.length:=h.len;have U:=Hz (zgx (c:=c) 1 (n:Int) h h8 (by omega) (by omega) (by omega) (by omega) (by omega));have hpu:=fun l=>zhk (l:=l) (x:=1) (n:=(n:Int)) h8
 clear h h8;generalize zbh b 1 (n:Int)=O at*;cases O with
 |none=>
  go_enter Tryz.func203,Tryz.ntmps203
  go_wp2_with fail
  refine U.out.mono ?_;rintro e w1 ⟨rfl,b1⟩;go_wp2_with fail
  go_ret2
  exact⟨rfl,b1⟩
 |some l=>
  obtain⟨-,hlen,hw,hk,hf⟩:=hpu l rfl;have h2:∀x∈l,x<2:=by have:=(zgr l 1 (by omega) hk).1 (by omega);simpa using this
  obtain rfl:n=l.length:=by omega
  have H2:=Hz h2;clear hpu hlen hw hk h2;go_enter Tryz.func203,Tryz.ntmps203
  go_wp2_with fail
  refine U.out.mono ?_;rintro e w1 ⟨A1,n1,c1,rfl,k1,b1⟩;obtain rfl:n1=l.length:=by have:=k1.len;rwa[zaa] at this
  have hz1:=b1.size;have R1:=Hz k1.reads;clear U k1
  go_wp2_with (refine zev qfi rfl (.tmp 19) (.tmp 19) rfl (W:=w) (B:=w.heap.size) l.length rfl rfl rfl rfl b1 hz1 (by omega) (by simp only[maxLen];omega) ?_
               intro w2 o2 g2 b2 hs2)
  rw[zg6] at o2;have b12:New w1 w2:=(Turns.of_none (T:=[]) g2).new (by simp);go_loopw [23] (fun i wr=>∃k:Nat,k<=l.length/\i= .int .i64 (k:Int)/\wr.ownsRow w1.heap.size 61 5 (.slice (some ⟨w1.heap.size,0,none⟩) l.length l.length) l.length (recs zan ((l.take k).map zus++List.replicate (l.length-k) zaz))/\New w1 wr) (fun i _=>l.length-(intOf i).toNat)
  case atStart=>exact⟨0,Nat.zero_le _,rfl,by simpa using o2,b12⟩
  case round=>
   obtain⟨k,hk,rfl,o,hb⟩:=hrel;clear o2 g2 b2 b12 hs2;by_cases hlt:k<l.length
   ·obtain⟨ax,rfl,hbx,qx⟩:=(Reads.later R1.out hb).num (i:=k) hlt
    have hx2:=H2.out (l.getD k 0) (by rw[List.getD_eq_getElem?_getD,List.getElem?_eq_getElem hlt];exact List.getElem_mem hlt);have htk:=zae l k 0 hlt;generalize l.getD k 0=x at*;have hwr:IntKind.i64.wrap (x:Int)=(x:Int):=IntWalk.i64_in _ (by omega);obtain⟨ad,ea,_,-,d1,-⟩:=(Reads.of_own o).cell5 (i:=k) hlt;injection ea with ea;subst ea;obtain⟨cs,BR⟩:=zie o;have f1:=BR.frozen (k*5+1);have ead:(⟨w1.heap.size,0,none⟩:Addr).add (k*5)=⟨w1.heap.size,k*5,none⟩:=by unfold Addr.add;split<;> simp_all
    rw[ead] at d1;dsimp only at d1;have hA:((l.take k).map zus).length=k:=by rw[List.length_map,List.length_take];omega
    obtain⟨o',-⟩:=World.ownsRow.stored o (k*5+1) (.int .i64 (x:Int));have ers:=qbp (A:=(l.take k).map zus) (B:=List.replicate (l.length-(k+1)) zaz) (z:=x);rw[hA] at ers;rw[show l.length-k=(l.length-(k+1))+1 by omega,List.replicate_succ,ers] at o';have o':(wr.setCell ⟨w1.heap.size,k*5+1,none⟩ (.int .i64 (x:Int))).ownsRow w1.heap.size 61 5 (.slice (some ⟨w1.heap.size,0,none⟩) l.length l.length) l.length (recs zan ((l.take (k+1)).map zus++List.replicate (l.length-(k+1)) zaz)):=by rw[htk,List.map_append,List.append_assoc];exact o'
    have O':=Hz o';have HB:=Hz (hb.setCell (p:=⟨w1.heap.size,k*5+1,none⟩) (Nat.le_refl _) (.int .i64 (x:Int)));clear o' ers o htk hA BR;go_wp2_with fail
    go_roundw
    case rel=>exact⟨k+1,by omega,by go_num,O'.out,HB.out⟩
    case measure=>simp[intOf];omega
   ·obtain rfl:k=l.length:=by omega
    rw[Nat.sub_self,List.replicate_zero,List.append_nil,List.take_length] at o;go_wp2_with fail
    go_ret2
    exact⟨_,_,_,rfl,zbg o hz1,New.trans b1 hb⟩
open Go.RowKit Go.Hm
theorem z6m{t:Int}{b:List Nat}{n:Int}(h: ¬(0<=t/\t<=3/\0<=n/\n<=65536)):IsPl zai t b n none:=
 ⟨fun l e=>(by cases e),fun l _ hl hp=>by have:=(plOk_iff.1 (plO_iff.1 hp).1).1;omega⟩
set_option maxRecDepth 100000 in
theorem zju{w:World}{A:Option Addr}{c m:Nat}{b:List Nat}{t n:Int}(h:Reads w w.heap.size 1 A m (za2 .u8 b))(h8:∀x∈b,x<256)(hm:m<=140737488351232):
 Calls Tryz.prog 181 #[.int .i64 t,.slice A m c,.int .i64 n] w (qiz t b n w):=by
 by_cases hk:0<=t/\t<=3/\0<=n/\n<=65536
 ·obtain⟨n,rfl⟩:=Int.eq_ofNat_of_zero_le hk.2.2.1
  by_cases h1:t=1
  ·subst h1
   have KN:=zkd (w:=w) (t:=1) (n:=(n:Int));rw[decide_eq_true hk] at KN;have KN:=Hz KN;have U:=Hz (zoh (c:=c) (n:=n) h h8 hm (by omega));have HI:=Hz (zut (n:=(n:Int)) h8);clear h h8 hk;generalize(zbh b 1 (n:Int)).map (fun l=>l.map zus)=O at*;go_enter Tryz.func181,Tryz.ntmps181
   go_wp2_with fail
   refine KN.out.mono ?_;rintro e w1 ⟨rfl,rfl⟩;go_wp2_with fail
   refine U.out.mono ?_;intro e w2 h2;cases O with
   |none=>
    obtain⟨rfl,b2⟩:=h2;go_wp2_with fail
    go_ret2
    exact⟨none,HI.out,rfl,b2⟩
   |some l=>
    obtain⟨A2,n2,c2,rfl,o2,b2⟩:=h2;go_wp2_with fail
    go_ret2
    exact⟨some l,HI.out,_,_,_,rfl,o2,b2⟩
  ·exact zxa h h8 hm (by omega) (by omega)
 ·have KN:=zkd (w:=w) (t:=t) (n:=n)
  rw[decide_eq_false hk] at KN;have KN:=Hz KN;have HI:=Hz (z6m (b:=b) hk);clear h h8 hk;go_enter Tryz.func181,Tryz.ntmps181
  go_wp2_with fail
  refine KN.out.mono ?_;rintro e w1 ⟨rfl,rfl⟩;go_wp2_with fail
  go_ret2
  exact⟨none,HI.out,rfl,New.refl _⟩
end Go.Proofs.Y
namespace Go.Hm
open Go Go.RowKit
def zs9(S:St):za1 × St:=
 (((zbr ((lenS 100 S).1:Int) (lenS 100 S).2).1,((zbf (zbr ((lenS 100 S).1:Int) (lenS 100 S).2).2).1:Int),decide ((zbf (zbf (zbr ((lenS 100 S).1:Int) (lenS 100 S).2).2).2).1=1)),
   if 1<(zbf (zbf (zbr ((lenS 100 S).1:Int) (lenS 100 S).2).2).2).1 then none else(zbf (zbf (zbr ((lenS 100 S).1:Int) (lenS 100 S).2).2).2).2)
def zej:Nat->St->List za1 × St
 |0,S=>([],S)
 |n+1,S=>((zs9 S).1::(zej n (zs9 S).2).1,(zej n (zs9 S).2).2)
theorem zxt{S:St}(h:S.ok):(zs9 S).2.ok:=by
 unfold zs9;simp only;split
 ·exact St.ok_none
 ·exact zmx (zmx (zct (zba h)).1)
theorem z0h:∀(n:Nat) {S:St},S.ok->(zej n S).2.ok
 |0,_,h=>h
 |n+1,_,h=>z0h n (zxt h)
theorem zkv:∀(n:Nat) (S:St),(zej n S).1.length=n
 |0,_=>rfl
 |n+1,S=>by rw[zej,List.length_cons,zkv n]
theorem zrf:∀(n:Nat) (S:St),(zej (n+1) S).1=(zej n S).1++[(zs9 (zej n S).2).1]/\(zej (n+1) S).2=(zs9 (zej n S).2).2
 |0,S=>⟨rfl,rfl⟩
 |n+1,S=>by
  obtain⟨h1,h2⟩:=zrf n (zs9 S).2;refine⟨?_,h2⟩;rw[zej,h1];rfl
def z7c(c:za1):Prop:=(∀x∈c.1,x<256)/\c.1.length<=100
theorem zvi{S:St}(h:S.ok):z7c (zs9 S).1:=by refine⟨(zct (zba h)).2,?_⟩;have h1:=zem (n:=((lenS 100 S).1:Int)) (S:=(lenS 100 S).2) (by omega);have h2:=zbx (m:=100) S (by omega) h;unfold zs9;simp only;omega
theorem zrg:∀(n:Nat) {S:St},S.ok-> ∀c∈(zej n S).1,z7c c
 |0,_,_,c,hc=>by simp[zej] at hc
 |n+1,S,h,c,hc=>by
  rw[zej,List.mem_cons] at hc;rcases hc with rfl|hc
  ·exact zvi h
  ·exact zrg n (zxt h) c hc
def getC(S:St):List za1 × St:=
 if(zej (lenS 64 S).1 (lenS 64 S).2).2=none\/ ¬zb5 (zej (lenS 64 S).1 (lenS 64 S).2).1=0 then([],none) else zej (lenS 64 S).1 (lenS 64 S).2
open Go Go.RowKit
def zda(m:Nat)(r:Int)(D:List zdw):Int:=if 65536<r then 4 else if r<0\/D.length≠m then 2 else if∃d∈D,((d.2.2.length:Nat):Int)≠r then 2 else 0
theorem Reads.colD{w:World}{B n i:Nat}{A:Option Addr}{l:List zdw}(h:Reads w B 1 A n (recs zgd l))(hi:i<n):
 ∃ad,A=some ad/\ad.block<B/\w.cell? (ad.add i)=some (.slice (l.getD i (none,0,[])).1 (l.getD i (none,0,[])).2.2.length (l.getD i (none,0,[])).2.1):=by
 obtain⟨ad,h1,h2,_,h3⟩:=h.rec_ (f:=zgd) (sz:=1) (fun _=>rfl) (none,0,[]) hi (by omega);have:=h3 0 _ rfl;rw[Nat.mul_one] at this;exact⟨ad,h1,h2,this⟩
theorem Reads.lenD{w:World}{B n:Nat}{A:Option Addr}{l:List zdw}(h:Reads w B 1 A n (recs zgd l)):n=l.length:=h.lenR (f:=zgd) (sz:=1) (fun _=>rfl) (by omega)
end Go.Hm
namespace Go.Proofs.Y
open Go.RowKit Go.Hm
set_option maxRecDepth 100000 in
theorem z8e{w:World}{Ac:Option Addr}{nc cc:Nat}{r:Int}{Ad:Option Addr}{nd cd:Nat}{D:List zdw}(h:Reads w w.heap.size 1 Ad nd (recs zgd D))(hn:nd<=4611686018427387903):
 Calls Tryz.prog 51 #[.agg #[.slice Ac nc cc,.int .i64 r,.slice Ad nd cd]] w (zak (.int .i64 (zda nc r D)) w):=by
 obtain rfl:=h.lenD;have K1:=Hz (fun(hh:65536<r)=>show zda nc r D=4 by rw[zda,if_pos hh]);have K2:=Hz (fun(hh: ¬65536<r) (h2:r<0\/D.length≠nc)=>show zda nc r D=2 by rw[zda,if_neg hh,if_pos h2]);have K3:=Hz (fun(hh: ¬65536<r) (h2: ¬(r<0\/D.length≠nc)) (d:zdw) (hd:d∈D) (h3:((d.2.2.length:Nat):Int)≠r)=>show zda nc r D=2 by rw[zda,if_neg hh,if_neg h2,if_pos ⟨d,hd,h3⟩]);have K4:=Hz (fun(hh: ¬65536<r) (h2: ¬(r<0\/D.length≠nc)) (h3:∀d∈D,((d.2.2.length:Nat):Int)=r)=>show zda nc r D=0 by rw[zda,if_neg hh,if_neg h2,if_neg (fun⟨d,hd,h4⟩=>h4 (h3 d hd))]);generalize zda nc r D=O at*;obtain⟨W0,hW0⟩:∃W,W=w.alloc (.cells #[.slice Ac nc cc,.int .i64 r,.slice Ad D.length cd] 25):=⟨_,rfl⟩;have b0:New w W0:=by rw[hW0];exact(Below.refl _ _).alloc (Nat.le_refl _) _
 have B0:Blk W0 w.heap.size 25 #[.slice Ac nc cc,.int .i64 r,.slice Ad D.length cd]:=by rw[hW0];exact Blk.new _ _ _
 obtain⟨x0,x1,x2⟩:=zad B0;rw[hW0] at x0 x1 x2;by_cases h0:65536<r
 ·have O1:=Hz (K1.out h0)
  clear K1 K2 K3 K4 B0 h;go_enter Tryz.func51,Tryz.ntmps51
  go_wp2
  go_ret
  exact⟨by rw[O1.out];rfl,by rw[<-hW0];exact b0⟩
 ·by_cases h1:r<0\/D.length≠nc
  ·have O1:=Hz (K2.out h0 h1)
   clear K1 K2 K3 K4 B0 h;by_cases h2:r<0
   ·go_enter Tryz.func51,Tryz.ntmps51
    go_wp2
    go_ret
    exact⟨by rw[O1.out];rfl,by rw[<-hW0];exact b0⟩
   ·have e1:((D.length:Int) != (nc:Int))=true:=by simp;omega
    clear h1;go_enter Tryz.func51,Tryz.ntmps51
    go_wp2
    go_ret
    exact⟨by rw[O1.out];rfl,by rw[<-hW0];exact b0⟩
  ·have K5:=Hz (K3.out h0 h1)
   have K6:=Hz (K4.out h0 h1);obtain⟨h2,h3⟩: ¬r<0/\D.length=nc:=by omega
   subst h3;have r0:=Reads.later h b0;clear h1 K1 K2 K3 K4 h;go_enter Tryz.func51,Tryz.ntmps51
   go_wp2
   rw[<-hW0];clear x0 x1 x2 hW0;go_loopw [23] (fun i wr=>∃k:Nat,i= .int .i64 (k:Int)/\k<=D.length/\New W0 wr/\Hid (∀d∈D.take k,((d.2.2.length:Nat):Int)=r)) (fun i _=>D.length-(intOf i).toNat)
   case atStart=>exact⟨0,rfl,by omega,New.refl _,Hz (by simp)⟩
   case round=>
    obtain⟨k,rfl,hk,hb,H⟩:=hrel;obtain⟨x0,x1,x2⟩:=zad (B0.below hb B0.lt);by_cases hlt:k<D.length
    ·obtain⟨ad,rfl,hbk,c0⟩:=(Reads.later r0 hb).colD hlt
     have hx:(D.getD k (none,0,[]))∈D:=by rw[List.getD_eq_getElem?_getD,List.getElem?_eq_getElem hlt];exact List.getElem_mem hlt
     have M1:=Hz (fun hh=>K5.out _ hx hh);have M2:=Hz (fun(hh:((((D.getD k (none,0,[])).2.2.length:Nat):Int)=r))=>show∀d∈D.take (k+1),((d.2.2.length:Nat):Int)=r by
      intro d hd;rw[zae D k (none,0,[]) hlt,List.mem_append] at hd;rcases hd with hd|hd
      ·exact H.out d hd
      ·obtain rfl:=List.mem_singleton.1 hd
       exact hh)
     clear hx;generalize(D.getD k (none,0,[])).1=aA at*;generalize(D.getD k (none,0,[])).2.2.length=m at*;generalize(D.getD k (none,0,[])).2.1=cA at*;have hiz:(k:Int)<(D.length:Int):=by omega
     by_cases he:(m:Int)=r
     ·have M3:=Hz (M2.out he)
      subst he;clear M1 M2;go_wp2
      go_roundw
      case rel=>exact⟨k+1,by go_num,by omega,hb,M3⟩
      case measure=>simp[intOf];omega
     ·have M3:=Hz (M1.out he)
      have e1:((m:Int) != r)=true:=by simpa using he
      clear M1 M2 he;go_wp2
      go_ret
      exact⟨by rw[M3.out];rfl,New.trans b0 hb⟩
    ·obtain rfl:k=D.length:=by omega
     have H2:=H.out;rw[List.take_length] at H2;have O1:=Hz (K6.out H2);clear H H2 K5 K6;go_wp2
     go_ret
     exact⟨by rw[O1.out];rfl,New.trans b0 hb⟩
end Go.Proofs.Y
