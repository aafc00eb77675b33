/- Merged. -/
import Derived.Test.YtmgfkpnghlmheaaGreatBun23
set_option maxHeartbeats 4000000
namespace Go.Hm
theorem z21{m:List Nat}(h:∀y∈m,y<2^1):m.sum<=m.length:=by
 induction m with
 |nil=>simp
 |cons y m ih=>
  have:=ih fun z hz=>h z (by simp[hz])
  have:=h y (by simp);simp;omega
end Go.Hm
namespace Go.Proofs.Y
open Go.RowKit Go.Hm
set_option maxRecDepth 100000 in
theorem zvy{w:World}{A:Option Addr}{m c:Nat}{b:List Nat}{n:Int}(h:Reads w w.heap.size 1 A m (za3 .u8 b))(h8:∀x∈b,x<256)(hm:m<=9223372036854775807)(hn0: -9223372036854775808<=n)(hn:n<=9223372036854775807):
 Calls Tryz.prog 124 #[.slice A m c,.int .i64 n] w (zap (.int .i64 (zp8 (zbf b 1 n))) w):=by
 have P:=zgv (c:=c) 1 n h h8 hm (by omega) (by omega) hn0 hn;have HU:=Hz (fun(l:List Nat) (hh:zbf b 1 n=some l)=>zsy h8 hh);generalize zbf b 1 n=U at*;cases U with
 |none=>
  have P:=Hz P;go_enter Tryz.func124,Tryz.ntmps124
  go_wp2_with fail
  refine P.out.mono ?_;rintro e w1 ⟨rfl,b1⟩;go_wp2
  go_ret
  exact⟨rfl,b1⟩
 |some l=>
  obtain⟨_,_,q3,q4⟩:=HU.out l rfl;have hsl:=z21 q3;have P:=Hz P;have CN:=Hz (show zp8 (some l)=((l.take l.length).sum:Nat) by rw[List.take_length];rfl);generalize zp8 (some l)=O at*;clear HU;go_enter Tryz.func124,Tryz.ntmps124
  go_wp2_with fail
  refine P.out.mono ?_;rintro e w1 ⟨A1,n1,c1,rfl,o1,b1⟩;obtain rfl:n1=l.length:=by have:=o1.len;rwa[zaa] at this
  go_wp2
  go_loopw [7,20] (fun s i wr=>∃k:Nat,i= .int .i64 (k:Int)/\k<=l.length/\s= .int .i64 (((l.take k).sum:Nat):Int)/\w1=wr) (fun _ i _=>l.length-(intOf i).toNat)
  case atStart=>exact⟨0,rfl,by omega,by simp,rfl⟩
  case round=>
   obtain⟨k,rfl,hk,rfl,rfl⟩:=hrel;by_cases hlt:k<l.length
   ·obtain⟨ad,rfl,_,c0⟩:=o1.reads.num hlt
    have HS:=Hz (zzs hlt);have hs1:=zmk (m:=l) k;have hy:l.getD k 0<2:=q3 _ (zc7 0 hlt);generalize l.getD k 0=y at*;generalize(l.take k).sum=s at*;have i1:(k:Int)<(l.length:Int):=by omega
    have hw1:IntKind.i64.wrap (y:Int)=(y:Int):=by rw[IntKind.wrap_i64];omega
    have hw2:IntKind.i64.wrap ((s:Int)+(y:Int))=(s:Int)+(y:Int):=by rw[IntKind.wrap_i64];omega
    go_wp2
    go_roundw
    case rel=>exact⟨k+1,by go_num,by omega,by rw[HS.out];simp,trivial⟩
    case measure=>simp[intOf];omega
   ·obtain rfl:k=l.length:=by omega
    rw[<-CN.out];go_wp2
    go_ret
    exact⟨rfl,b1⟩
end Go.Proofs.Y
namespace Go.Hm
open Go Go.RowKit
theorem zx3(a b c d f:Value)(n:Nat):(madeCells #[a,b,c,d,f] (n*5)).toList=(List.replicate n [a,b,c,d,f]).flatten:=by
 induction n with
 |zero=>simp[madeCells]
 |succ n ih=>
  rw[List.replicate_succ',List.flatten_append,<-ih];have e:∀m,m%5=0->(madeCells #[a,b,c,d,f] (m+5)).toList=(madeCells #[a,b,c,d,f] m).toList++[a,b,c,d,f]:=by intro m hm;simp only[madeCells,Array.toList_map,Array.toList_range,List.range_succ,List.map_append,List.map_cons,List.map_nil,List.append_assoc,List.cons_append,List.nil_append,List.size_toArray,List.length_cons,List.length_nil];rw[hm,show(m+1)%5=1 by omega,show(m+2)%5=2 by omega,show(m+3)%5=3 by omega,show(m+4)%5=4 by omega];rfl
  rw[Nat.succ_mul,e (n*5) (by omega)];simp
theorem z7y{A B:List Value}{x0 x1 x2 x3 x4 a b c d f:Value}{m:Nat}(h:A.length=m):(((((A++([x0,x1,x2,x3,x4]++B)).set m a).set (m+1) b).set (m+2) c).set (m+3) d).set (m+4) f=A++([a,b,c,d,f]++B):=by subst h;rw[List.set_append_right _ _ (Nat.le_refl _),List.set_append_right _ _ (by omega),List.set_append_right _ _ (by omega),List.set_append_right _ _ (by omega),List.set_append_right _ _ (by omega)];simp
theorem zz9{w:World}{base:Nat}{e:TypeId}{g n c m:Nat}{A B:List Value}{x0 x1 x2 x3 x4 a b d f k:Value}(h:w.ownsRow base e 5 (.slice (some ⟨g,0,none⟩) n c) n (A++([x0,x1,x2,x3,x4]++B)))(hm:A.length=m):
 ∃W,W=((((w.setCell ⟨g,m,none⟩ a).setCell ⟨g,m+1,none⟩ b).setCell ⟨g,m+2,none⟩ d).setCell ⟨g,m+3,none⟩ f).setCell ⟨g,m+4,none⟩ k/\W.ownsRow base e 5 (.slice (some ⟨g,0,none⟩) n c) n (A++([a,b,d,f,k]++B))/\w.grownBy W (some g):=by
 obtain⟨h1,g1⟩:=h.stored m a;obtain⟨h2,g2⟩:=h1.stored (m+1) b;obtain⟨h3,g3⟩:=h2.stored (m+2) d;obtain⟨h4,g4⟩:=h3.stored (m+3) f;obtain⟨h5,g5⟩:=h4.stored (m+4) k;rw[z7y hm] at h5;exact⟨_,rfl,h5,(((g1.trans g2).trans g3).trans g4).trans g5⟩
section
variable{P:Program}{ops:Array Oper}{rest:List Oper}{o:Oper}{a:Act}{Q:Exit->Act->World->Prop}
theorem z22{w:World}{t e:TypeId}{x0 x1 x2 x3 x4:Value}{bytes:Nat}(E:ElT P t e (.agg #[x0,x1,x2,x3,x4]) 5 bytes)(hgd:o.guard=none)(lo co:Operand)(ho:o.op=Op.makeSlice t lo co)
 (h5:(Value.agg #[x0,x1,x2,x3,x4]).cells= #[x0,x1,x2,x3,x4])
 {W:World}{B:Nat}{kl kc:IntKind}{L C:Int}(n:Nat)(hl:a.eval lo= .int kl L)(hc:a.eval co= .int kc C)(hL:L=(n:Int))(hC:C=(n:Int))(hb:Below B W w)(hbase:B<=w.heap.size)
 (hn:n*bytes<=140737488355328)(hm:n<=maxLen)
 (h:∀w',w'.ownsRow w.heap.size e 5 (.slice (some ⟨w.heap.size,0,none⟩) n n) n (List.replicate n [x0,x1,x2,x3,x4]).flatten->w.grownBy w' none->Below B W w'->w'.heap.size=w.heap.size+1->wpList P ops Q rest (a.put o.dst (.slice (some ⟨w.heap.size,0,none⟩) n n)) w'):
 wpList P ops Q (o::rest) a w:=by
 obtain⟨i,hi,hz0,hs1,hb1⟩:=info_parts E.hi;subst hL hC;have hmC:(n:Int)<=9223372036854775807:=by have h:=hm;simp only[maxLen] at h;omega
 have hbC:(i.bytes:Int)*(n:Int)<=281474976710656:=by
  have h:((i.bytes*n:Nat):Int)<=281474976710656:=by rw[hb1,Nat.mul_comm];omega
  rwa[Int.natCast_mul] at h
 have hrun:=run_make (P:=P) w t e i (.agg #[x0,x1,x2,x3,x4]) E.ht hi hz0 kl kc (n:Int) (n:Int) (by omega) (by omega) hbC hmC;rw[Int.toNat_natCast,hs1,h5] at hrun;refine wpList_plain hgd fun K hK=>?_
 unfold Oper.wp;simp[execOp,ho,hl,hc,hrun,Result.andThen];refine hK _ _ (h _ ?_ (World.grownBy_alloc _ _ _) (hb.alloc hbase _) (by simp));refine⟨by simp,.inr ⟨_,n,_,rfl,Nat.le_refl _,heap_alloc_new w _,Nat.le_refl _,hm,by simp[size_madeCells],?_⟩⟩;rw[List.take_of_length_le (by simp[size_madeCells])];exact zx3 x0 x1 x2 x3 x4 n
end
end Go.Hm
namespace Go.Proofs.Y
open Go.RowKit Go.Hm
def qcm(o:Option (List zab))(w:World)(e:Ending)(w':World):Prop:=
 match o with
 |none=>e= .returned (.tuple #[.slice none 0 0,.bool false])/\New w w'
 |some x=>∃A c,e= .returned (.tuple #[.slice A x.length c,.bool true])/\w'.ownsRow w.heap.size 61 5 (.slice A x.length c) x.length (recs zam x)/\New w w'
theorem qcn{m:List Nat}{r:List zab}(h:m.sum=r.length):zow (some m) r=zf1 m r:=by rw[zow];simp[h]
theorem qco{U:Option (List Nat)}{r:List zab}(h:zp8 U≠(r.length:Int)):zow U r=none:=by
 cases U with
 |none=>rfl
 |some m=>
  rw[zow];have: ¬m.sum=r.length:=fun e=>h (by simp[zp8,e])
  simp[this]
set_option maxRecDepth 100000 in
theorem qcp{w:World}{A:Option Addr}{mm c:Nat}{b:List Nat}{n:Int}{A2:Option Addr}{nr c2:Nat}{r:List zab}(h:Reads w w.heap.size 1 A mm (za3 .u8 b))(h8:∀x∈b,x<256)(hm:mm<=9223372036854775807)(hn0: -9223372036854775808<=n)(hn:n<=9223372036854775807)
 (h2:Reads w w.heap.size 5 A2 nr (recs zam r))(hnr:nr<=9223372036854775807):
 Calls Tryz.prog 127 #[.slice A mm c,.slice A2 nr c2,.int .i64 n] w (qcm (zow (zbf b 1 n) r) w):=by
 obtain rfl:=h2.lenCell;have P1:=Hz (zvy (c:=c) h h8 hm hn0 hn);have P2:=fun(W:World) (hW:New w W)=>zgv (w:=W) (c:=c) 1 n (Reads.later h hW) h8 hm (by omega) (by omega) hn0 hn
 have HU:=Hz (fun(l:List Nat) (hh:zbf b 1 n=some l)=>zsy h8 hh);generalize zbf b 1 n=U at*;by_cases hc:zp8 U=(r.length:Int)
 ·cases U with
  |none=>simp[zp8] at hc
  |some m=>
   have hs:m.sum=r.length:=by simp[zp8] at hc;omega
   obtain⟨_,q2,q3,q4⟩:=HU.out m rfl;subst q2;rw[qcn hs];obtain⟨J,hJ⟩:∃J,J=zf1 m r:=⟨_,rfl⟩;rw[<-hJ];have HJ:=Hz hJ;have HS:=Hz hs;have Q3:=Hz q3;have P2:=Hz P2;generalize zp8 (some m)=cn at*;subst hc;clear HU hJ hs q3 hn0;go_enter Tryz.func127,Tryz.ntmps127
   go_wp2_with fail
   refine P1.out.mono ?_;rintro e w1 ⟨rfl,b1⟩;have P2:=Hz (P2.out w1 b1);go_wp2_with fail
   refine P2.out.mono ?_;rintro e w2 ⟨A5,n5,c5,rfl,o5,b2⟩;obtain rfl:n5=m.length:=by have:=o5.len;rwa[zaa] at this
   have b02:=New.trans b1 b2;have o5:=Hz (fun(W:World) (hW:New w2 W)=>o5.later hW);have z2:=b02.size;clear P1 P2 b1 b2
   go_wp2_with (refine z22 z7w rfl (.tmp 26) (.tmp 26) rfl rfl (W:=w2) (B:=w2.heap.size) m.length rfl rfl rfl rfl (Below.refl _ _) (Nat.le_refl _) (by omega) (by simp only[maxLen];omega) ?_
                intro w3 u3 _ b3 s3)
   obtain⟨gm,hgm⟩:∃g,g=w2.heap.size:=⟨_,rfl⟩;have HGM:=Hz hgm;rw[<-hgm] at u3⊢;clear hgm;go_loopw [11,30] (fun a i wr=>∃(k q:Nat) (pre:List zab),i= .int .i64 (k:Int)/\a= .int .i64 (q:Int)/\k<=m.length/\pre.length=k/\Hid (q=(m.take k).sum)/\
    wr.ownsRow gm 61 5 (.slice (some ⟨gm,0,none⟩) m.length m.length) m.length (recs zam (pre++List.replicate (m.length-k) (false,0,[],0,0)))/\Hid (J=(zf1 (m.drop k) (r.drop q)).map (pre++ ·))/\New w2 wr) (fun _ i _=>m.length-(intOf i).toNat)
   case atStart=>exact⟨0,0,[],rfl,rfl,by omega,rfl,Hz (by simp),by simpa[recs,List.flatMap_replicate,zam,zad] using u3,Hz (by rw[HJ.out];simp),b3⟩
   case round=>
    clear u3 b3 s3;obtain⟨k,q,pre,rfl,rfl,hk,hpre,HQ,u,HJJ,b3⟩:=hrel;have b03:=New.trans b02 b3;by_cases hlt:k<m.length
    ·obtain⟨ad,e5,_,c0⟩:=(o5.out wr b3).reads.num hlt
     subst e5;have hy:m.getD k 0<2:=Q3.out _ (zc7 0 hlt);have HSN:=Hz (zzs hlt);have HSL:=Hz (zmk (m:=m) (k+1));have JS:=Hz (zq9 (r:=r) (q:=q) hlt);have JV:=Hz (fun(h0: ¬m.getD k 0=0) (hq:q<r.length)=>z6l hlt h0 hq);have hrep:List.replicate (m.length-k) ((false,0,[],0,0):zab)=(false,0,[],0,0)::List.replicate (m.length-(k+1)) (false,0,[],0,0):=by rw[show m.length-k=(m.length-(k+1))+1 by omega];rfl
     have hpl:(recs zam pre).length=k*5:=by rw[zar (sz:=5) (fun _=>rfl),hpre]
     rw[hrep,zaw,zif] at u;have f0:=u.frozenAt (k*5);have f1:=u.frozenAt (k*5+1);have f2:=u.frozenAt (k*5+2);have f3:=u.frozenAt (k*5+3);have f4:=u.frozenAt (k*5+4);have e0:=u.cellAt (k*5) (by omega);have e1:=u.cellAt (k*5+1) (by omega);have e2:=u.cellAt (k*5+2) (by omega);have e3:=u.cellAt (k*5+3) (by omega);have e4:=u.cellAt (k*5+4) (by omega);rw[List.getElem?_append_right (by omega),hpl] at e0 e1 e2 e3 e4;simp[zam] at e0 e1 e2 e3 e4;have HU:=Hz u;have HPL:=Hz hpl;have i1:(k:Int)<(m.length:Int):=by omega
     have RR:=Hz (fun(hq:q<r.length)=>(Reads.later h2 b03).cell5 hq);generalize m.getD k 0=y at*;clear u hrep hpl;by_cases h0:y=0
     ·subst h0
      have JS:=JS.out;rw[if_pos rfl] at JS;have HJ2:=Hz (show J=(zf1 (m.drop (k+1)) (r.drop q)).map ((pre++[nullC])++ ·) by rw[HJJ.out,JS,Option.map_map];congr 1;funext z;simp)
      have HQ2:=Hz (show q=(m.take (k+1)).sum by rw[HSN.out,<-HQ.out];rfl);clear JS JV HJJ HSN HSL HQ;obtain⟨W4,hW4,u4,g4⟩:=zz9 (a:= .bool true) (b:= .int .i64 0) (d:= .string (zad [])) (f:= .int .i64 0) (k:= .int .i64 0) HU.out HPL.out;have HW4:=Hz (show W4=((((wr.setCell ⟨gm,k*5,none⟩ (.bool true)).setCell ⟨gm,k*5+1,none⟩ (.int .i64 0)).setCell ⟨gm,k*5+2,none⟩ (.string ⟨#[]⟩)).setCell ⟨gm,k*5+3,none⟩ (.int .i64 0)).setCell ⟨gm,k*5+4,none⟩ (.int .i64 0) from hW4);have b4:New w2 W4:=b3.grown g4 b3.size (fun k hk=>by injection hk with hk;have:=HGM.out;omega);clear hW4 HU RR;go_wp2
      rw[<-HW4.out];go_roundw
      case rel=>exact⟨k+1,q,pre++[nullC],by go_num,rfl,by omega,by simp[hpre],HQ2,by rw[List.append_assoc,zaw];exact u4,HJ2,b4⟩
      case measure=>simp[intOf];omega
     ·obtain rfl:y=1:=by omega
      have hq:q<r.length:=by have:=HSN.out;have:=HSL.out;have:=HQ.out;have:=HS.out;omega
      have JV:=JV.out (by omega) hq;obtain⟨ad2,e6,_,d0,d1,d2,d3,d4⟩:=RR.out hq;subst e6;have HQ2:=Hz (show q+1=(m.take (k+1)).sum by rw[HSN.out,<-HQ.out]);generalize r.getD q (false,0,[],0,0)=x at*;obtain⟨xb,xn,xs,xx,xy⟩:=x;simp only at d0 d1 d2 d3 d4 JV;have i2:(q:Int)<(r.length:Int):=by omega
      cases xb with
      |true=>
       have HJ2:=Hz (show J=none by rw[HJJ.out,JV];rfl);clear JV JS HJJ HU RR HSN HSL;go_wp2
       go_ret2
       rw[HJ2.out];exact⟨rfl,b03⟩
      |false=>
       have HJ2:=Hz (show J=(zf1 (m.drop (k+1)) (r.drop (q+1))).map ((pre++[(false,xn,xs,xx,xy)])++ ·) by rw[HJJ.out,JV,if_neg (by simp),Option.map_map];congr 1;funext z;simp)
       clear JV JS HJJ HSN HSL HQ;obtain⟨W4,hW4,u4,g4⟩:=zz9 (a:= .bool false) (b:= .int .i64 xn) (d:= .string (zad xs)) (f:= .int .i64 xx) (k:= .int .i64 xy) HU.out HPL.out;have HW4:=Hz hW4;have b4:New w2 W4:=b3.grown g4 b3.size (fun k hk=>by injection hk with hk;have:=HGM.out;omega);clear hW4 HU RR;go_wp2
       rw[<-HW4.out];go_roundw
       case rel=>exact⟨k+1,q+1,pre++[(false,xn,xs,xx,xy)],by go_num,by go_num,by omega,by simp[hpre],HQ2,by rw[List.append_assoc,zaw];exact u4,HJ2,b4⟩
       case measure=>simp[intOf];omega
    ·obtain rfl:k=m.length:=by omega
     rw[Nat.sub_self,List.replicate_zero,List.append_nil] at u;have HJ2:=Hz (show J=some pre by rw[HJJ.out,z6m];simp);have HP:=Hz hpre;clear HJJ HQ hlt hpre;go_wp2
     go_ret2
     rw[HJ2.out];refine⟨some ⟨gm,0,none⟩,m.length,by rw[HP.out];rfl,?_,b03⟩;rw[HP.out];exact zbd u (by have:=HGM.out;omega)
 ·rw[qco hc]
  generalize zp8 U=cn at*;have e1:(cn != (r.length:Int))=true:=by simpa using hc
  clear hc HU P2;go_enter Tryz.func127,Tryz.ntmps127
  go_wp2_with fail
  refine P1.out.mono ?_;rintro e w1 ⟨rfl,b1⟩;go_wp2
  go_ret2
  exact⟨rfl,b1⟩
open Go.RowKit Go.Hm
theorem zwa{α:Type}{l:List α}{k:Nat}(d:α)(h:k<l.length):l.getD k d∈l:=by rw[List.getD_eq_getElem?_getD,List.getElem?_eq_getElem h];exact List.getElem_mem h
set_option maxRecDepth 100000 in
theorem zju{w:World}{A1:Option Addr}{c1:Nat}{L:List za2}{r:Int}{B1:Option Addr}{k1:Nat}{D1:List zdy}{A2:Option Addr}{c2:Nat}{B2:Option Addr}{k2:Nat}{D2:List zdy}
 (h1:TabIn w A1 c1 L B1 D1)(h2:TabIn w A2 c2 L B2 D2)(hD:D1.map (·.2.2)=D2.map (·.2.2)):
 Calls Tryz.prog 18 #[.agg #[.slice A1 L.length c1,.int .i64 r,.slice B1 D1.length k1],.agg #[.slice A2 L.length c2,.int .i64 r,.slice B2 D2.length k2]] w (zap (.bool true) w):=by
 have hl:D1.length=D2.length:=by have:=congrArg List.length hD;simpa using this
 have hat:∀k,k<D1.length->(D1.getD k (none,0,[])).2.2=(D2.getD k (none,0,[])).2.2:=by intro k hk;have:=congrArg (fun l=>l[k]?) hD;simp only[List.getElem?_map,List.getElem?_eq_getElem hk,List.getElem?_eq_getElem (show k<D2.length by omega),Option.map_some,Option.some.injEq] at this;rw[List.getD_eq_getElem?_getD,List.getElem?_eq_getElem hk,List.getD_eq_getElem?_getD,List.getElem?_eq_getElem (show k<D2.length by omega)];exact this
 have HAT:=Hz hat;obtain⟨W1,hW1⟩:∃W,W=w.alloc (.cells #[.slice A1 L.length c1,.int .i64 r,.slice B1 D1.length k1] 25):=⟨_,rfl⟩;obtain⟨W2,hW2⟩:∃W,W=W1.alloc (.cells #[.slice A2 L.length c2,.int .i64 r,.slice B2 D2.length k2] 25):=⟨_,rfl⟩;have b1:New w W1:=by rw[hW1];exact(Below.refl _ _).alloc (Nat.le_refl _) _
 have b2:New W1 W2:=by rw[hW2];exact(Below.refl _ _).alloc (Nat.le_refl _) _
 have b02:=New.trans b1 b2;have X1:Blk W2 w.heap.size 25 #[.slice A1 L.length c1,.int .i64 r,.slice B1 D1.length k1]:=by
  have:Blk W1 w.heap.size 25 #[.slice A1 L.length c1,.int .i64 r,.slice B1 D1.length k1]:=by rw[hW1];exact Blk.new _ _ _
  exact this.below b2 this.lt
 have X2:Blk W2 (w.heap.size+1) 25 #[.slice A2 L.length c2,.int .i64 r,.slice B2 D2.length k2]:=by
  have e:w.heap.size+1=W1.heap.size:=by rw[hW1];simp
  rw[e,hW2];exact Blk.new _ _ _
 have T1:=Hz (fun(W:World) (hW:New W2 W)=>h1.later (New.trans b02 hW));have T2:=Hz (fun(W:World) (hW:New W2 W)=>h2.later (New.trans b02 hW));have F:=Hz (fun(W:World) (hW:New W2 W)=>And.intro (zaf (X1.below hW X1.lt)) (zaf (X2.below hW X2.lt)));have HW:=Hz (show(w.alloc (.cells #[.slice A1 L.length c1,.int .i64 r,.slice B1 D1.length k1] 25)).alloc (.cells #[.slice A2 L.length c2,.int .i64 r,.slice B2 D2.length k2] 25)=W2 by rw[hW2,hW1]);obtain⟨⟨x0,x1,x2⟩,y0,y1,y2⟩:=F.out W2 (New.refl _);rw[<-HW.out] at x0 x1 x2 y0 y1 y2;have s1:=h1.few;have s2:=h1.few2;have s3:=h2.few2;have P1:=Hz (zmz (c:=c1) (c2:=c2) (T1.out W2 (New.refl _)).cols (T2.out W2 (New.refl _)).cols s1);have e1:((D1.length:Int) != (D2.length:Int))=false:=by simp;omega
 have HL:=Hz hl;clear hW1 hW2 X1 X2 h1 h2 hat hD b1 b2 hl;go_enter Tryz.func18,Tryz.ntmps18
 go_wp2_with fail
 rw[HW.out];refine P1.out.mono ?_;rintro e w3 ⟨rfl,b3⟩;clear x0 x1 x2 y0 y1 y2 e1;go_wp2
 go_loopw [5] (fun i wr=>∃k:Nat,i= .int .i64 (k:Int)/\k<=D1.length/\New W2 wr) (fun i _=>D1.length-(intOf i).toNat)
 case atStart=>exact⟨0,rfl,by omega,b3⟩
 case round=>
  obtain⟨k,rfl,hk,hb⟩:=hrel;by_cases hlt:k<D1.length
  ·have hlt2:k<D2.length:=by have:=HL.out;omega
   obtain⟨⟨x0,x1,x2⟩,y0,y1,y2⟩:=F.out wr hb;obtain⟨E1,E2,E3,E4,E5⟩:=(T1.out _ (New.trans hb (New.drew wr))).within _ (zwa (none,0,[]) hlt);obtain⟨G1,G2,G3,G4,G5⟩:=(T2.out _ (New.trans hb (New.drew wr))).within _ (zwa (none,0,[]) hlt2);have P:=Hz (z1d (c:=(D1.getD k (none,0,[])).2.1) (c2:=(D2.getD k (none,0,[])).2.1) E1 G1 (by omega) (by omega) (fun x hx=>(E2 x hx).2) (fun x hx=>(G2 x hx).2));rw[HAT.out k hlt,decide_eq_true rfl] at P;obtain⟨ad,ea,hbd,c0⟩:=(T1.out _ hb).data.colD hlt;obtain⟨ad2,ea2,hbd2,d0⟩:=(T2.out _ hb).data.colD hlt2;rw[HAT.out k hlt] at c0;subst ea ea2;have hbx:(ad.add k).block<wr.drew.heap.size:=by rw[za0];exact hbd
   have hbx2:(ad2.add k).block<wr.drew.heap.size:=by rw[za0];exact hbd2
   have C1:=Hz (zgb c0 hbx);have C2:=Hz (zgb d0 hbx2);clear E1 E2 E3 E4 E5 G1 G2 G3 G4 G5 c0 d0;generalize(D1.getD k (none,0,[])).1=a1 at*;generalize(D1.getD k (none,0,[])).2.1=m1 at*;generalize(D2.getD k (none,0,[])).1=a2 at*;generalize(D2.getD k (none,0,[])).2.1=m2 at*;generalize(D2.getD k (none,0,[])).2.2=l2 at*;have i1:(k:Int)<(D1.length:Int):=by omega
   have i2:(k:Int)<(D2.length:Int):=by omega
   go_wp2
   clear x0 x1 x2 y0 y1 y2;refine zat New [(true,0),(true,1),(true,2),(true,3),(true,4),(true,5),(true,6),(true,7),(true,8),(true,9),(false,10),(true,11)]
    New.refl New.trans (by kernel_rfl) (by kernel_rfl) (by kernel_rfl) (by kernel_rfl) ?_
   have hU:=New.refl wr.drew;repeat(first
    |(refine za1 rfl rfl (v:=?_) (fun W hW=>?_) ?_;rotate_left;(obtain⟨⟨x0,x1,x2⟩,y0,y1,y2⟩:=F.out W (New.trans hb (New.trans (New.drew wr) (New.trans hU hW)));have g1:=C1.out W (New.trans hU hW);have g2:=C2.out W (New.trans hU hW);go_simp<;> with_reducible rfl);simp only[Act.put,List.setIfInBounds_toArray,List.set_cons_zero,List.set_cons_succ])
    |(refine zbb rfl rfl (fun K hK=>?_);go_simp
      refine P.out.mono ?_;rintro e u ⟨rfl,q,rfl⟩;refine hK _ _ (zic _ _) ?_;clear hK;replace hU:=New.trans hU (zic _ q)))
   refine zc3 ?_;clear C1 C2 P hU;go_wp2
   go_roundw
   case rel=>exact⟨k+1,by go_num,by omega,New.trans hb (zic _ _)⟩
   case measure=>simp[intOf];omega
  ·obtain rfl:k=D1.length:=by omega
   obtain⟨⟨x0,x1,x2⟩,y0,y1,y2⟩:=F.out wr hb;go_wp2
   go_ret
   exact⟨rfl,New.trans b02 hb⟩
end Go.Proofs.Y
namespace Go.Hm
open Go Go.RowKit
def ztl(c:za2):Prop:=(∀z∈c.1,z<256)/\c.1.length<=140737488351232
def qc0(c:zab):Prop:=c.2.2.1.length<=140737488351232/\ ∀z∈c.2.2.1,z<256
end Go.Hm
namespace Go.Proofs.Y
open Go.RowKit Go.Hm
structure TabOwn(w:World)(B:Nat)(Ac:Option Addr)(cc:Nat)(L:List za2)(Ad:Option Addr)(cd:Nat)(D:List zdy):Prop where
 cols:w.ownsRow B 70 3 (.slice Ac L.length cc) L.length (recs zh8 L)
 data:w.ownsRow B 71 1 (.slice Ad D.length cd) D.length (recs zhu D)
 rows:RowsIn w B D
section
variable{w w':World}{B:Nat}{Ac:Option Addr}{cc:Nat}{L:List za2}{Ad:Option Addr}{cd:Nat}{D:List zdy}
theorem TabOwn.later(h:TabOwn w B Ac cc L Ad cd D)(hb:New w w'):TabOwn w' B Ac cc L Ad cd D:=⟨zau h.cols hb,zau h.data hb,h.rows.later hb⟩
theorem TabOwn.far{g:Nat}(h:TabOwn w B Ac cc L Ad cd D)(hg:w.grownBy w' (some g))(hB:g<B):TabOwn w' B Ac cc L Ad cd D:=
 ⟨World.ownsRow.kept h.cols hg (.inr (fun e=>by have:=(World.ownsRow.lt h.cols _ e).1;omega)),World.ownsRow.kept h.data hg (.inr (fun e=>by have:=(World.ownsRow.lt h.data _ e).1;omega)),
  fun d hd=>World.ownsRow.kept (h.rows d hd) hg (.inr (fun e=>by have:=(World.ownsRow.lt (h.rows d hd) _ e).1;omega))⟩
theorem TabOwn.tabIn(h:TabOwn w B Ac cc L Ad cd D)(hl:L.length<=100000)(hdl:D.length<=100000)(hL:∀x∈L,ztl x)(hD:∀d∈D,∀y∈d.2.2,qc0 y):TabIn w Ac cc L Ad D:=by
 obtain⟨_,_,e1,q1,q2⟩:=zcg h.cols;obtain⟨_,_,e2,q3,q4⟩:=zcg h.data;injection e1 with e1 _ e1c;injection e2 with e2 _ e2c;subst e1 e1c e2 e2c;refine⟨Reads.of_own h.cols,hL,q1,by omega,Reads.of_own h.data,by omega,fun d hd=>?_⟩;have hr:=h.rows d hd;obtain⟨_,_,e3,q5,q6⟩:=zcg hr;injection e3 with e3 _ e3c;subst e3 e3c;refine⟨Reads.of_own hr,fun y hy=>hD d hd y hy,q5,by simp only[maxLen] at q6;omega,fun hn=>?_⟩;rcases hr.2 with⟨hv,_⟩|⟨g,cap,cur,hv,_⟩
 ·injection hv
 ·injection hv with hv
  rw[hn] at hv;cases hv
theorem TabPost.own{er:Int}{r:Int}{C:List (List zab)}{e:Ending}(h:TabPost er L r C w e w'):
 ∃(Ac Ad:Option Addr) (cc cd:Nat) (D:List zdy),e= .returned (.tuple #[.agg #[.slice Ac L.length cc,.int .i64 r,.slice Ad D.length cd],.int .i64 er])/\TabOwn w' w.heap.size Ac cc L Ad cd D/\D.map (·.2.2)=C/\New w w':=by
 obtain⟨Ac,Ad,cc,cd,D,rfl,h1,h2,h3,h4,h5⟩:=h;exact⟨Ac,Ad,cc,cd,D,rfl,⟨h1,h2,h3⟩,h4,h5⟩
end
end Go.Proofs.Y
