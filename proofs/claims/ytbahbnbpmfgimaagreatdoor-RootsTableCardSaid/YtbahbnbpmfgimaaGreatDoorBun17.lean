import Derived.Test.YtbahbnbpmfgimaaGreatDoorBun15
import Derived.Test.YtbahbnbpmfgimaaGreatDoorBun16
set_option maxHeartbeats 4000000
set_option maxRecDepth 100000
namespace Go.Hm
open Go Go.RowKit
theorem RowsAt.at_{w:World}{A:Option Addr}{n c:Nat}{D:List zds}(h:RowsAt w A n c D){k:Nat}(a:k<D.length):
 ∃ad,A=some ad/\ad.block<w.heap.size/\w.cell? (ad.add k)=some (.slice (D.getD k (none,0,[])).1 (D.getD k (none,0,[])).2.2.length (D.getD k (none,0,[])).2.1):=by
 obtain⟨ad,u,e,d,b,g⟩:=h.row.at_ (k:=k) (by rw[h.len];exact a);have:=zpy (f:=zf6) (sz:=1) (fun _=>rfl) D (none,0,[]) k 0 a (by omega);rw[qq7,quc] at this;rw[this] at b;obtain rfl:=qqf b;exact⟨ad,e,d,g⟩
def zik(L:List (List Nat)):Nat:=(L.map List.length).sum
theorem z8h(L:List (List Nat))(p:List Nat):zik (L++[p])=zik L+p.length:=by simp[zik]
theorem zoe(L:List (List Nat))(k:Nat):zik (L.take k)<=zik L:=by
 have e:zik L=zik (L.take k)+zik (L.drop k):=by unfold zik;rw[<-qud,<-que,qtq]
 omega
theorem zwa{L:List (List Nat)}{k:Nat}(a:k<L.length):zik (L.take (k+1))=zik (L.take k)+(L.getD k []).length:=by rw[zac _ k [] a,z8h]
theorem zf7{L:List (List Nat)}{k:Nat}(a:k<L.length):L.getD k []∈L:=by rw[qsh,qqt a];exact qrf a
end Go.Hm
namespace Go.Proofs.Y
open Go.RowKit Go.Hm
end Go.Proofs.Y
namespace Go.Hm
open Go Go.RowKit
def qej(s:List Nat)(n:Nat):List Nat:=s.length::(s++[n])
def upL(s:List Nat)(L:List (List Nat))(k:Nat):List Nat:=qej s L.length++(L.take k).flatMap zje
theorem qek(s:List Nat)(L:List (List Nat)):upL s L 0=qej s L.length:=by simp[upL]
theorem qj9(s:List Nat)(L:List (List Nat)):upL s L L.length=zb2 s L:=by simp[upL,qej,zb2]
theorem qel(s:List Nat)(L:List (List Nat)){k:Nat}(a:k<L.length):upL s L (k+1)=upL s L k++zje (L.getD k []):=by rw[upL,upL,zac _ k [] a,quf,qrc];simp
end Go.Hm
namespace Go.Proofs.Y
open Go.RowKit Go.Hm
theorem zwb{w:World}{s:List Nat}{A:Option Addr}{n c:Nat}{D:List zds}(h:RowsAt w A n c D)(hn:n<=9223372036854775806)(f:∀x∈s,x<256)(hs:s.length<=140737488351232)(M:zik (bytesOf D)<=1099511627776):
 Calls Tryz.prog 66 #[.string (zaf s),.slice A n c] w (OptB (za9 s (bytesOf D)) w):=by
 obtain rfl:=h.len;have hz:=zbq s;have hB:=zd6 D;have N:=qwk h;have H8:=qwk f;have P:=qwk M;by_cases h1:s.length=0
 ·have e:za9 s (bytesOf D)=none:=by unfold za9;exact if_neg (by omega)
  rw[e];obtain rfl:=qrh h1;clear h f M e;go_enter Tryz.func66,Tryz.ntmps66
  go_wp2
  go_ret2
  exact⟨rfl,qwd _ _⟩
 by_cases h2:255<s.length
 ·have e:za9 s (bytesOf D)=none:=by unfold za9;exact if_neg (by omega)
  rw[e];have d0:((s.length:Int)==0)=false:=by rw[beq_eq_false_iff_ne];omega
  have d1:decide ((255:Int)<(s.length:Int))=true:=by simp;omega
  clear h f M e;go_enter Tryz.func66,Tryz.ntmps66
  go_wp2
  go_ret2
  exact⟨rfl,qwd _ _⟩
 by_cases h3:255<D.length
 ·have e:za9 s (bytesOf D)=none:=by unfold za9;exact if_neg (by omega)
  rw[e];have d0:((s.length:Int)==0)=false:=by rw[beq_eq_false_iff_ne];omega
  have d1:decide ((255:Int)<(s.length:Int))=false:=by simp;omega
  have d2:decide ((255:Int)<(D.length:Int))=true:=by simp;omega
  clear h f M e;go_enter Tryz.func66,Tryz.ntmps66
  go_wp2
  go_ret2
  exact⟨rfl,qwd _ _⟩
 have e:za9 s (bytesOf D)=some (zb2 s (bytesOf D)):=by unfold za9;exact if_pos (by omega)
 rw[e];have d0:((s.length:Int)==0)=false:=by rw[beq_eq_false_iff_ne];omega
 have d1:decide ((255:Int)<(s.length:Int))=false:=by simp;omega
 have d2:decide ((255:Int)<(D.length:Int))=false:=by simp;omega
 have hD:D.length<=255:=by omega
 have a4:s.length<=255:=by omega
 have E:=qwk hB;have a1:IntKind.u8.wrap (s.length:Int)=(s.length:Int):=by simp[IntKind.wrap,IntKind.bits,IntKind.signed];omega
 clear h f M e h1 h2 h3 hB;go_enter Tryz.func66,Tryz.ntmps66
 go_wp2
 go_loop [6,31] (fun z i=>∃(k m:Nat),k<=D.length/\i= .int .i64 (k:Int)/\z= .int .i64 (m:Int)/\m<=1099511640000/\Hid (m=2+s.length+8*k+zik ((bytesOf D).take k))) (fun _ i=>D.length-(intOf i).toNat)
 case atStart=>exact⟨0,2+s.length,by omega,rfl,by go_num,by omega,qwk (by simp[zik])⟩
 case round=>
  obtain⟨k,m,hk,rfl,rfl,hm,HM⟩:=hrel;by_cases a:k<D.length
  ·obtain⟨ad,rfl,hb,hc⟩:=N.out.at_ a
   have H:=ze3 D k;generalize D.getD k (none,0,[])=d at*;have t:=zwa (L:=bytesOf D) (k:=k) (by rw[E.out];exact a);rw[H] at t;have h6:=zoe (bytesOf D) (k+1);have J:m+(8+d.2.2.length)=2+s.length+8*(k+1)+zik ((bytesOf D).take (k+1)):=by rw[t,HM.out];omega
   have hd:d.2.2.length<=1099511627776:=by have:=P.out;omega
   have K:m+(8+d.2.2.length)<=1099511640000:=by have:=P.out;omega
   have F:=qwk J;clear H t h6 J;obtain⟨m2,I⟩:∃x,x=m+(8+d.2.2.length):=⟨_,rfl⟩;have i1:(m:Int)+(8+(d.2.2.length:Int))=(m2:Int):=by omega
   rw[<-I] at F K;clear I;go_wp2
   go_round
   case rel=>exact⟨k+1,m2,by omega,by go_num,by go_num,K,F⟩
   case measure=>simp[intOf];omega
  ·obtain rfl:k=D.length:=by omega
   clear HM;have a1:(s.length:Int)%256=(s.length:Int):=by omega
   have a2:(D.length:Int)%256=(D.length:Int):=by omega
   go_wp2_with (first
    |(refine zcf elB rfl (.const (.int .i64 0)) (.tmp 41) rfl (W:=w) (B:=w.heap.size) 0 m rfl rfl rfl rfl (by omega) (qwd _ _) (qq0 _) rfl (by omega) (by simp only[maxLen];omega) ?_
      intro w1 o1 g1 b1 s1;have z1:=b1.size;clear g1 s1)
    |(refine zcs elB rfl (.tmp 43) (.tmp 47) rfl (W:=w) (B:=w.heap.size) (k:= .u8) (l:=[]) o1 rfl rfl s.length rfl b1 (qq0 _) z1 (by omega) (by simp only[maxLen];omega) ?_
      intro A2 c2 w2 _ _ o2 _ b2 _ _;have z2:=b2.size)
    |(refine zer elB qih rfl (.tmp 49) (.tmp 50) rfl (W:=w) (B:=w.heap.size) o2 H8.out rfl rfl b2 (qq0 _) z2 (by omega) ?_
      intro y C Q _ _ p _ g;have z3:=g.size)
    |(refine zcs elB rfl (.tmp 52) (.tmp 56) rfl (W:=w) (B:=w.heap.size) p rfl rfl D.length rfl g (qq0 _) z3 (by omega) (by simp only[maxLen];omega) ?_
      intro A4 c4 w4 _ _ o4 _ b4 _ _))
   have B4:=qwk b4;have Y:=qwk (show Own w4 w.heap.size 5 (.slice A4 (0+1+s.length+1) c4) (zar .u8 (upL s (bytesOf D) 0)) by rw[qek,qej,E.out];simpa using o4);clear o1 b1 z1 o2 b2 z2 p g z3 o4 b4;have R4:=qwk (N.out);obtain⟨q4,u⟩:∃q,q=0+1+s.length+1:=⟨_,rfl⟩;rw[<-u] at Y⊢;have G:=qwk (show q4=2+s.length+8*0+zik ((bytesOf D).take 0) by rw[u];simp[zik];omega);clear u;go_loopw [9,60] (fun v i wr=>∃(k q c:Nat) (A:Option Addr),k<=D.length/\i= .int .i64 (k:Int)/\v= .slice A q c/\Hid (q=2+s.length+8*k+zik ((bytesOf D).take k))/\Hid (Own wr w.heap.size 5 (.slice A q c) (zar .u8 (upL s (bytesOf D) k)))/\Hid (New w wr)) (fun _ i _=>D.length-(intOf i).toNat)
   case atStart=>exact⟨0,q4,c4,A4,by omega,rfl,rfl,G,Y,B4⟩
   case round=>
    clear G Y B4;obtain⟨k,q,cq,Aq,hk,rfl,rfl,T,O,b⟩:=hrel;by_cases a:k<D.length
    ·obtain⟨ad,rfl,hb,hc⟩:=(N.out.later b.out).at_ a
     have RD:=qwk (fun(W:World) (hW:New w W)=>((N.out.later hW).parts.at_ a).1);have H:=ze3 D k;have Z:=qel s (bytesOf D) (k:=k) (by rw[E.out];exact a);have t:=zwa (L:=bytesOf D) (k:=k) (by rw[E.out];exact a);have h6:=zoe (bytesOf D) (k+1);rw[H] at t Z;generalize D.getD k (none,0,[])=d at*;have hp:d.2.2.length<=1099511627776:=by have:=P.out;omega
     have hq:q<=1099511640000:=by have:=P.out;have:=T.out;omega
     have U:=qwk (show q+8+d.2.2.length=2+s.length+8*(k+1)+zik ((bytesOf D).take (k+1)) by rw[t,T.out];omega);have V:=qwk Z;have O2:=qwk (show Own wr w.heap.size 5 (.slice Aq (q+0) cq) (zar .u8 (upL s (bytesOf D) k++low d.2.2.length 0)) by simpa[low] using O.out);have a0:=qwk (fun j=>show(upL s (bytesOf D) k++low d.2.2.length j).length=(upL s (bytesOf D) k).length+j by rw[qrp,za0]);clear H Z t h6 T O;go_wp2
     go_loopw [9,64] (fun v i wr=>∃(j c:Nat) (A:Option Addr),j<=8/\i= .int .i64 (j:Int)/\v= .slice A (q+j) c/\Hid (Own wr w.heap.size 5 (.slice A (q+j) c) (zar .u8 (upL s (bytesOf D) k++low d.2.2.length j)))/\Hid (New w wr)) (fun _ i _=>8-(intOf i).toNat)
     case atStart=>exact⟨0,cq,Aq,by omega,rfl,rfl,O2,b⟩
     case round=>
      clear O2 b hc hb;obtain⟨j,cj,Aj,hj,rfl,rfl,O,b⟩:=hrel;by_cases a3:j<8
      ·have S:=qwk (zy1 d.2.2.length j)
       have j1:(8:Int)*(j:Int)<64:=by omega
       have o:=O.out;have r:=b.out;have hz:=r.size;clear O b
       go_wp2_with (refine zcs elB rfl (.tmp 67) (.tmp 75) rfl (W:=w) (B:=w.heap.size) o rfl rfl (d.2.2.length/256^j%256) (by rw[S.out]) r (qq0 _) (by omega) (by omega) (by simp only[maxLen];omega) ?_
                    intro y C Q _ _ p _ g _ _)
       have X:=qwk (show Own Q w.heap.size 5 (.slice y (q+(j+1)) C) (zar .u8 (upL s (bytesOf D) k++low d.2.2.length (j+1))) by rw[qrc] at p;exact p);have R:=qwk g;clear o p r g;go_roundw
       case rel=>exact⟨j+1,C,y,by omega,by go_num,rfl,X,R⟩
       case measure=>simp[intOf];omega
      ·obtain rfl:j=8:=by omega
       have o:=O.out;have r:=b.out;have r0:=RD.out _ r;have hz:=r.size;clear O b
       go_wp2_with (refine zaq elB rfl (.tmp 78) (.tmp 79) rfl (W:=w) (B:=w.heap.size) (base:=w.heap.size) o r0 rfl rfl r (qq0 _) (by omega) (by omega) (by simp only[maxLen];omega) ?_
                    intro y C Q _ _ p _ g _)
       have X:=qwk (show Own Q w.heap.size 5 (.slice y (q+8+d.2.2.length) C) (zar .u8 (upL s (bytesOf D) (k+1))) by rw[V.out,zje,<-qrc];exact p);have R:=qwk g;clear o p r g r0;go_roundw
       case rel=>exact⟨k+1,q+8+d.2.2.length,C,y,by omega,by go_num,rfl,U,X,R⟩
       case measure=>simp[intOf];omega
    ·obtain rfl:k=D.length:=by omega
     have o:=O.out;rw[<-E.out,qj9] at o;have O5:=qwk o;clear o O;go_wp2
     go_ret2
     exact⟨_,_,_,rfl,O5.out,b.out⟩
def wrI(x:Int):Int:=IntKind.i64.wrap x
theorem z12(x:Int):wrI x=(x+9223372036854775808)%18446744073709551616-9223372036854775808:=by unfold wrI;rw[qwr]
def zf9(x:Int):Prop:= -9223372036854775808<=x/\x<=9223372036854775807
theorem qin(x:Int):zf9 (wrI x):=by rw[z12];unfold zf9;omega
theorem qm0{x:Int}(h:zf9 x):wrI x=x:=by rw[z12];unfold zf9 at h;omega
theorem qfe{x y:Int}(h:zf9 y):wrI (x+wrI (y-x))=y:=by rw[z12,z12];unfold zf9 at h;omega
theorem zk4{x:Int}(h:zf9 x):zig x<18446744073709551616:=by unfold zf9 at h;unfold zig;split<;> omega
theorem qio{n:Nat}(h:n<18446744073709551616):zf9 (zag n):=by unfold zf9 zag;split<;> omega
def zeb:List Int->List Int
 |x::y::l=>wrI (y-x)::zeb (y::l)
 |_=>[]
theorem ze5:∀l:List Int,(zeb l).length=l.length-1
 | []=>rfl
 | [_]=>rfl
 |x::y::l=>by
  have:=ze5 (y::l);rw[zeb,qr1,this];simp
theorem zwk:∀(l:List Int) (k:Nat),k+1<l.length->(zeb l).getD k 0=wrI (l.getD (k+1) 0-l.getD k 0)
 | [],k,h=>by simp at h
 | [_],k,h=>by simp at h
 |x::y::l,0,h=>rfl
 |x::y::l,k+1,h=>by
  have:=zwk (y::l) k (by simpa using h);rw[zeb,qu1,this];rfl
theorem zhv:∀(l:List Int),∀s∈zeb l,zf9 s
 | [],_,h=>by simp[zeb] at h
 | [_],_,h=>by simp[zeb] at h
 |x::y::l,s,h=>by
  rw[zeb] at h;rcases qsm.1 h with rfl|h
  ·exact qin _
  ·exact zhv (y::l) s h
def zji(x:Int):List Int->List Int
 | []=>[]
 |s::l=>wrI (x+s)::zji (wrI (x+s)) l
theorem zst:∀(l:List Int) (x:Int),(∀y∈l,zf9 y)->zji x (zeb (x::l))=l
 | [],_,_=>rfl
 |y::l,x,h=>by
  rw[zeb,zji,qfe (h y (by simp)),zst l y (fun z a=>h z (by simp[a]))]
theorem zwl:∀(l:List Int) (x:Int),(zji x l).length=l.length
 | [],_=>rfl
 |s::l,x=>by rw[zji,qr1,qr1,zwl l]
theorem z13:∀(l:List Int) (x:Int),∀y∈zji x l,zf9 y
 | [],_,_,h=>by simp[zji] at h
 |s::l,x,y,h=>by
  rw[zji] at h;rcases qsm.1 h with rfl|h
  ·exact qin _
  ·exact z13 l _ y h
def z88(d:Int)(l:List Int):Int:=l.getLast?.getD d
theorem zsu(d x:Int)(l:List Int):z88 d (x::l)=z88 x l:=by unfold z88;rw[List.getLast?_cons];rfl
theorem zwm:∀(a b:List Int) (x:Int),zji x (a++b)=zji x a++zji (z88 x (zji x a)) b
 | [],b,x=>rfl
 |s::a,b,x=>by
  rw[qr0,zji,zji,zwm a b,qr0,zsu]
def zhw(l:List Int):Nat->Int
 |0=>l.getD 0 0
 |k+1=>min (zhw l k) (l.getD (k+1) 0)
def leastD(l:List Int):Int:=zhw l (l.length-1)
theorem zwn(l:List Int):∀k i,i<=k->zhw l k<=l.getD i 0
 |0,i,h=>by
  obtain rfl:i=0:=by omega
  exact qu2 _
 |k+1,i,h=>by
  rw[zhw];rcases qq4 i (k+1) with e|e
  ·have:=zwn l k i (by omega)
   omega
  ·obtain rfl:i=k+1:=by omega
   omega
theorem zwo(l:List Int):∀k,∃i,i<=k/\zhw l k=l.getD i 0
 |0=>⟨0,qq0 _,rfl⟩
 |k+1=>by
  obtain⟨i,hi,e⟩:=zwo l k;rw[zhw];rcases Int.le_total (zhw l k) (l.getD (k+1) 0) with h|h
  ·exact⟨i,by omega,by rw[Int.min_eq_left h,e]⟩
  ·exact⟨k+1,qq0 _,by rw[Int.min_eq_right h]⟩
theorem zhx{l:List Int}{i:Nat}(h:i<l.length):l.getD i 0∈l:=by rw[qsh,qqt h];exact qrf h
theorem z89{l:List Int}(h:∀x∈l,zf9 x){k:Nat}(b:k<l.length):zf9 (zhw l k):=by obtain⟨i,a,e⟩:=zwo l k;rw[e];exact h _ (zhx (by omega))
theorem zl9{l:List Int}(h:∀x∈l,zf9 x)(a:0<l.length):zf9 (leastD l):=z89 h (by omega)
theorem zqi{l:List Int}{x:Int}(h:x∈l):leastD l<=x:=by obtain⟨i,a,rfl⟩:=qtv h;have:=zwn l (l.length-1) i (by omega);rw[qsh,qqt a] at this;exact this
def zdz(l:List Int):List Nat:=l.map fun s=>(s-leastD l).toNat
theorem zqj(l:List Int):(zdz l).length=l.length:=by simp[zdz]
theorem zma{l:List Int}(h:∀x∈l,zf9 x):∀m∈zdz l,m<=18446744073709551615:=fun m d=>by obtain⟨s,a,rfl⟩:=qqu.1 d;have b:=h s a;have c:=zl9 h (List.length_pos_of_mem a);have e:=zqi a;unfold zf9 at b c;omega
def blockD(l:List Int):List Nat:=vp (zig (leastD l))++(wid (zdz l)::low (pk (wid (zdz l)) (zdz l)) ((wid (zdz l)*l.length+7)/8))
theorem zsv{l:List Int}(h:∀x∈l,zf9 x)(c:0<l.length)(a:l.length<=32):(blockD l).length<=268:=by have d:=zae (zk4 (zl9 h c));have b:=zk2 _ (zma h);have e:wid (zdz l)*l.length<=64*32:=quy b a;unfold blockD;rw[qrp,qr1,za0];omega
def blk(s:List Int)(k:Nat):List Int:=(s.drop (k*32)).take 32
theorem zqk(s:List Int)(k:Nat):(blk s k).length=min 32 (s.length-k*32):=by simp[blk]
theorem zwp{s:List Int}(h:∀x∈s,zf9 x)(k:Nat):∀x∈blk s k,zf9 x:=fun x a=>h x (qte (qro a))
def zcq(s:List Int)(K:Nat):List Nat:=(List.range K).flatMap fun k=>blockD (blk s k)
theorem ziq(s:List Int):zcq s 0=[]:=rfl
theorem zir(s:List Int)(k:Nat):zcq s (k+1)=zcq s k++blockD (blk s k):=by unfold zcq;rw[quo,quf];simp
def nblk(n:Nat):Nat:=(n+31)/32
theorem zg9{s:List Int}(h:∀x∈s,zf9 x):∀k,k<=nblk s.length->(zcq s k).length<=268*k
 |0,_=>by simp[ziq]
 |k+1,hk=>by
  have ih:=zg9 h k (by omega);unfold nblk at hk;have:=zsv (zwp h k) (by rw[zqk];omega) (by rw[zqk];omega);rw[zir,qrp];omega
theorem qff(s:List Int)(k:Nat):s.take ((k+1)*32)=s.take (k*32)++blk s k:=by unfold blk;rw[qsw,qt5,qu3]
def zql(l:List Int):Option (List Nat):=
 if 65536<l.length then none else if l.length=0 then some [] else some (vp (zig (l.getD 0 0))++zcq (zeb l) (nblk (l.length-1)))
theorem zj8{l:List Int}{b:List Nat}(h:zql l=some b):l.length<=65536:=by
 unfold zql at h;split at h
 ·cases h
 ·omega
theorem zis{l:List Int}{b:List Nat}(c:∀x∈l,zf9 x)(h:zql l=some b):b.length<=600000:=by
 have d:=zj8 h;unfold zql at h;rw[if_neg (by omega)] at h;split at h
 ·injection h with h
  subst h;simp
 ·injection h with h
  subst h;have e:=zae (zk4 (c _ (zhx (show 0<l.length by omega))));have a:=zg9 (zhv l) (nblk (l.length-1)) (by rw[ze5];exact qq0 _);unfold nblk at a⊢;rw[qrp];omega
def zit(n:Nat)(S:St):List Int × St:=
 match zch (zcv (nby ((zbn (zk3 S).2).1:Int) (n:Int)) (zbn (zk3 S).2).2).1 ((zbn (zk3 S).2).1:Int) (n:Int) with
 |some m=>(m.map fun y:Nat=>wrI (zag (zk3 S).1+(y:Int)),(zcv (nby ((zbn (zk3 S).2).1:Int) (n:Int)) (zbn (zk3 S).2).2).2)
 |none=>([],none)
theorem zzo{l:List Int}(h:∀x∈l,zf9 x)(g:0<l.length)(b:l.length<=65536)(r:List Nat):zit l.length (some (blockD l++r))=(l,some r):=by
 have f:=zk2 _ (zma h);have a:(low (pk (wid (zdz l)) (zdz l)) ((wid (zdz l)*l.length+7)/8)).length=(wid (zdz l)*l.length+7)/8:=za0 _ _;have d:=zea (low (pk (wid (zdz l)) (zdz l)) ((wid (zdz l)*l.length+7)/8)) r;rw[a] at d;have e:=zio (zdz l) (wid (zdz l)) f (by rw[zqj];exact b) (qq0 _) (zma h);rw[zqj] at e;unfold zit blockD;rw[qrc,zj5 _ _ (zk4 (zl9 h g))];simp only[qr0,zbn];rw[zum _ _ f b,d];dsimp only;rw[e];dsimp only;rw[zqg];congr 1
 unfold zdz;rw[qsj];have:∀s∈l,((fun y:Nat=>wrI (leastD l+(y:Int))) ∘ fun s=>(s-leastD l).toNat) s=s:=by intro s c;have i:=zqi c;simp only[Function.comp];rw[show leastD l+(((s-leastD l).toNat:Nat):Int)=s by omega];exact qm0 (h s c)
 rw[qsk this];simp
theorem zwq(n:Nat):(zit n none).2=none:=by unfold zit;rw[z85,zj6,zeh];split<;> rfl
theorem zzp{b m:List Nat}{x:Int}{n:Nat}(h:zch b x (n:Int)=some m):m.length=n:=by
 unfold zch at h;split at h
 ·injection h with h
  rw[<-h,zfc,qrn]
 ·cases h
theorem zzq{n:Nat}{S:St}{r:List Nat}(h:(zit n S).2=some r):(zit n S).1.length=n:=by
 unfold zit at h⊢;split
 ·rename_i m a
  rw[qtl];exact zzp a
 ·rename_i a
  rw[a] at h;cases h
theorem z9a{S:St}(a:S.ok):(zbn S).2.ok:=by
 unfold zbn;split
 ·rename_i b r
  exact qxp fun x c=>a _ rfl x (by simp[c])
 ·exact qxo
def zzr(n:Nat):Nat->List Int × St->List Int × St
 |0,p=>p
 |k+1,p=>((zzr n k p).1++zji (z88 0 (zzr n k p).1) (zit (min 32 (n-k*32)) (zzr n k p).2).1,(zit (min 32 (n-k*32)) (zzr n k p).2).2)
theorem z14{s:List Int}(h:∀x∈s,zf9 x)(x:Int):∀(k:Nat) (r:List Nat),k<=nblk s.length->zzr s.length k ([x],some (zcq s k++r))=(x::zji x (s.take (k*32)),some r)
 |0,r,_=>by simp[zzr,ziq,zji]
 |k+1,r,hk=>by
  unfold nblk at hk;have hbl:=zqk s k;rw[zzr,zir,qrc,z14 h x k _ (by unfold nblk;omega)];dsimp only;rw[<-hbl,zzo (zwp h k) (by omega) (by omega)];dsimp only;rw[zsu,qr0,<-zwm,<-qff]
def qkp(n:Nat)(S:St):List Int × St:=zzr (n-1) (nblk (n-1)) ([zag (zk3 S).1],(zk3 S).2)
def zr9(n:Nat)(b:List Nat):List Int × St:=if n=0 then([],some b) else qkp n (some b)
theorem z9b{l:List Int}{b:List Nat}(h:∀x∈l,zf9 x)(a:zql l=some b):zr9 l.length b=(l,some []):=by
 have d:=zj8 a;unfold zql at a;rw[if_neg (by omega)] at a;unfold zr9;cases l with
 |nil=>
  simp at a;subst a;rfl
 |cons x l=>
  rw[if_neg (by simp)] at a⊢;injection a with a;subst a;have e:=z14 (zhv (x::l)) x (nblk l.length) [] (by rw[ze5];exact qq0 _);rw[qra,ze5] at e;unfold qkp;rw[qr1,qu4,qu5,zj5 _ _ (zk4 (h x (by simp)))];dsimp only;rw[zqg];rw[qr1,qu4] at e;rw[e,qru (by rw[ze5,qr1];unfold nblk;omega),zst l x (fun y c=>h y (by simp[c]))]
theorem z15(n:Nat)(p:List Int × St):∀(k:Nat) (r:List Nat),(zzr n k p).2=some r->(zzr n k p).1.length=p.1.length+min (k*32) n
 |0,r,_=>by simp[zzr]
 |k+1,r,h=>by
  rw[zzr] at h⊢;dsimp only at h⊢;have h1:=zzq h;cases e:(zzr n k p).2 with
  |none=>
   rw[e,zwq] at h;cases h
  |some q=>
   have a:=z15 n p k q e;rw[<-e,qrp,zwl,h1,a];omega
theorem z9c(n:Nat)(p:List Int × St)(h:∀x∈p.1,zf9 x):∀k,∀x∈(zzr n k p).1,zf9 x
 |0=>h
 |k+1=>by
  intro x a;rw[zzr] at a;rcases qr5.1 a with a|a
  ·exact z9c n p h k x a
  ·exact z13 _ _ x a
theorem qfg{n:Nat}{b:List Nat}(c:∀x∈b,x<256):∀x∈(zr9 n b).1,zf9 x:=by
 unfold zr9;split
 ·intro x a
  cases a
 ·refine z9c _ _ (fun x a=>?_) _
  rw[qr6] at a;rw[a];exact qio (zzm (qxp c))
theorem z9d{n:Nat}{b r:List Nat}(h:(zr9 n b).2=some r):(zr9 n b).1.length=n:=by
 unfold zr9 at h⊢;by_cases a:n=0
 ·rw[if_pos a,a]
  rfl
 ·rw[if_neg a] at h⊢
  unfold qkp at h⊢;have:=z15 _ _ _ _ h;rw[this,qu0];unfold nblk;omega
structure IsDel(b:List Nat)(n:Int)(o:Option (List Int)):Prop where
 sound:∀l,o=some l->(l.length:Int)=n/\zql l=some b/\ ∀x∈l,zf9 x
 compl:∀l,(∀x∈l,zf9 x)->(l.length:Int)=n->zql l=some b->o=some l
theorem IsDel.uniq{b:List Nat}{n:Int}{o p:Option (List Int)}(h:IsDel b n o)(k:IsDel b n p):o=p:=by
 cases o with
 |some l=>obtain⟨a,b,c⟩:=h.sound l rfl;exact(k.compl l c a b).symm
 |none=>
  cases p with
  |none=>rfl
  |some l=>obtain⟨a,b,c⟩:=k.sound l rfl;exact h.compl l c a b
theorem z9e{b:List Nat}{n:Int}(h:n<0\/65536<n):IsDel b n none:=
 ⟨fun l e=>(by cases e),fun l _ c a=>(by have:=zj8 a;omega)⟩
theorem qfh{b:List Nat}{n:Nat}(c:∀x∈b,x<256):IsDel b (n:Int) (if(zr9 n b).2=some []/\zql (zr9 n b).1=some b then some (zr9 n b).1 else none):=by
 refine⟨fun l e=>?_,fun l d f a=>?_⟩
 ·split at e
  ·rename_i h
   injection e with e;subst e;exact⟨by rw[z9d h.1],h.2,qfg c⟩
  ·cases e
 ·obtain rfl:l.length=n:=by omega
  rw[z9b d a,if_pos ⟨rfl,a⟩]
end Go.Proofs.Y
namespace Go.Hm
open Go Go.RowKit
def eqC(a b:zab):Bool:=a.1==b.1&&(a.2.1==b.2.1&&((zaf a.2.2.1).toList==(zaf b.2.2.1).toList&&(a.2.2.2.1==b.2.2.2.1&&a.2.2.2.2==b.2.2.2.2)))
theorem qiu{a b:zab}(c:∀z∈a.2.2.1,z<256)(d:∀z∈b.2.2.1,z<256):eqC a b=decide (a=b):=by obtain⟨e,f,g,h,i⟩:=a;obtain⟨j,k,l,m,n⟩:=b;unfold eqC;dsimp only at*;rw[zg2 c d,qrd];simp
def eqS(a b:zdp):Bool:=a.1==b.1&&(a.2.1==b.2.1&&(eqC a.2.2.1 b.2.2.1&&eqC a.2.2.2 b.2.2.2))
theorem qnh{a b:zdp}(e:∀z∈a.2.2.1.2.2.1,z<256)(f:∀z∈a.2.2.2.2.2.1,z<256)(g:∀z∈b.2.2.1.2.2.1,z<256)(h:∀z∈b.2.2.2.2.2.1,z<256):eqS a b=true↔a=b:=by obtain⟨n,c,p,q⟩:=a;obtain⟨m,d,r,s⟩:=b;unfold eqS;dsimp only at*;rw[qiu e g,qiu f h];simp
end Go.Hm
namespace Go.Proofs.Y
open Go.RowKit Go.Hm
theorem z5j{n n':Int}{b b':Bool}{p q a c:zab}(W:World):
 (binOp .eql 133 (zcm (n,b,p,q)) (zcm (n',b',a,c))).run Tryz.prog W= .ok (.bool (eqS (n,b,p,q) (n',b',a,c))) W:=by
 obtain⟨d,e,f,g,h⟩:=p;obtain⟨i,j,k,l,m⟩:=q;obtain⟨o,r,s,t,u⟩:=a;obtain⟨v,w,x,y,z⟩:=c;show(binOp .eql 133 (.agg #[.int .i64 n,.bool b,.bool d,.int .i64 e,.string (zaf f),.int .i64 g,.int .i64 h,.bool i,.int .i64 j,.string (zaf k),.int .i64 l,.int .i64 m]) (.agg #[.int .i64 n',.bool b',.bool o,.int .i64 r,.string (zaf s),.int .i64 t,.int .i64 u,.bool v,.int .i64 w,.string (zaf x),.int .i64 y,.int .i64 z])).run Tryz.prog W=_;go_simp
 unfold eqS eqC
 repeat' split
 all_goals simp_all
def zew(s:zdp):Prop:=(s.2.2.1.2.2.1.length<=140737488351232/\ ∀z∈s.2.2.1.2.2.1,z<256)/\s.2.2.2.2.2.1.length<=140737488351232/\ ∀z∈s.2.2.2.2.2.1,z<256
theorem zh0{w:World}{t:Int}{s:zdp}(hf:zew s):Calls Tryz.prog 133 #[.int .i64 t,zcm s] w (zap (.bool (zcj t s)) w):=by
 obtain⟨M,c⟩:∃M,M=zcj t s:=⟨_,rfl⟩;rw[<-c];unfold zcj at c;obtain⟨n,b,p,q⟩:=s;obtain⟨⟨i,j⟩,k,l⟩:=hf;dsimp only at c i j k l;have E:∀W,(binOp .eql 133 (zcm (n,false,p,q)) (zcm (n,false,zbb,zbb))).run Tryz.prog W= .ok (.bool (decide (p=zbb)&&decide (q=zbb))) W:=fun W=>by
  rw[z5j];have:eqS (n,false,p,q) (n,false,zbb,zbb)=(decide (p=zbb)&&decide (q=zbb)):=by rw[qrd,qnh j l (by simp[zbb]) (by simp[zbb])];simp
  rw[this]
 have I:=fun(h1:zad p t false=true) (h2:zad q t false=true) (W:World)=>zfw (w:=W) (t:=t) (a:=p) (b:=q) (znp h1) (znp h2)
 have L:=fun(W:World)=>zgf (w:=W) (b:=p.1) (n:=p.2.1) (s:=p.2.2.1) (x:=p.2.2.2.1) (y:=p.2.2.2.2) (cn:=[]) (t:=t) (nu:=false) i
 have N:=fun(W:World)=>zgf (w:=W) (b:=q.1) (n:=q.2.1) (s:=q.2.2.1) (x:=q.2.2.2.1) (y:=q.2.2.2.2) (cn:=[]) (t:=t) (nu:=false) k
 generalize(decide (p=zbb)&&decide (q=zbb))=eq at*;generalize zkv t p q=o at*;obtain⟨m,r,u,v,z⟩:=p;obtain⟨A,B,D,F,G⟩:=q;dsimp only at L N c;generalize zad (m,r,u,v,z) t false=m1 at*;generalize zad (A,B,D,F,G) t false=m2 at*;have E:∀W,(binOp .eql 133 (.agg #[.int .i64 n,.bool false,.bool m,.int .i64 r,.string (zaf u),.int .i64 v,.int .i64 z,.bool A,.int .i64 B,.string (zaf D),.int .i64 F,.int .i64 G]) (.agg #[.int .i64 n,.bool false,.bool false,.int .i64 0,.string ⟨#[]⟩,.int .i64 0,.int .i64 0,.bool false,.int .i64 0,.string ⟨#[]⟩,.int .i64 0,.int .i64 0])).run Tryz.prog W= .ok (.bool eq) W:=E;have L:Hid (∀W,Calls Tryz.prog 83 #[.agg #[.bool m,.int .i64 r,.string (zaf u),.int .i64 v,.int .i64 z],.agg #[.string ⟨#[]⟩,.int .i64 t,.bool false]] W (zap (.bool m1) W)):=qwk L;have N:Hid (∀W,Calls Tryz.prog 83 #[.agg #[.bool A,.int .i64 B,.string (zaf D),.int .i64 F,.int .i64 G],.agg #[.string ⟨#[]⟩,.int .i64 t,.bool false]] W (zap (.bool m2) W)):=qwk N;unfold zde zay at I;dsimp only at I;have I:=qwk I;show Calls Tryz.prog 133 #[.int .i64 t,.agg #[.int .i64 n,.bool b,.bool m,.int .i64 r,.string (zaf u),.int .i64 v,.int .i64 z,.bool A,.int .i64 B,.string (zaf D),.int .i64 F,.int .i64 G]] w (zap (.bool M) w);have d:=qw1 w 133 #[.int .i64 n,.bool b,.bool m,.int .i64 r,.string (zaf u),.int .i64 v,.int .i64 z,.bool A,.int .i64 B,.string (zaf D),.int .i64 F,.int .i64 G];have hb:New w (w.alloc (.cells #[.int .i64 n,.bool b,.bool m,.int .i64 r,.string (zaf u),.int .i64 v,.int .i64 z,.bool A,.int .i64 B,.string (zaf D),.int .i64 F,.int .i64 G] 133)):=(qwd _ _).alloc (qq0 _) _;have H:=qwk d;have K:=qwk hb;obtain⟨Q,R,S,T,U,V,X,Y,Z,x9,f,g⟩:=zbd d;clear d hb i j k l;by_cases P:t<0\/3<t\/n<0\/65536<n
 ·rw[if_pos P] at c
  have h:=qwk c;clear c E;by_cases h1:t<0;all_goals try by_cases h2:3<t
  all_goals try by_cases h3:n<0
  all_goals try(have h4:65536<n:=by omega)
  all_goals
   clear P;go_enter Tryz.func133,Tryz.ntmps133
   go_wp2
   go_ret
   exact⟨by rw[h.out];rfl,K.out⟩
 rw[if_neg P] at c;have h1: ¬t<0:=by omega
 have h2: ¬3<t:=by omega
 have h3: ¬n<0:=by omega
 have h4: ¬65536<n:=by omega
 clear P;cases b with
 |false=>
  rw[if_neg (by simp)] at c;have h:=qwk c;clear c;go_enter Tryz.func133,Tryz.ntmps133
  go_wp2
  go_ret
  exact⟨by rw[h.out];rfl,K.out⟩
 |true=>
  rw[if_pos rfl] at c;have h:=qwk c;clear c E;go_enter Tryz.func133,Tryz.ntmps133
  go_wp2_with fail
  refine(L.out _).mono ?_;rintro e w1 ⟨rfl,O⟩;have d:=(H.out.alloc _).below O (by simp;omega);have BC:=(qw1 _ _ _).below O (by simp);have J:=qw5 (qw5 K.out ((qwd _ _).alloc (qq0 _) _)) O;simp only[qww] at BC;clear Q R S T U V X Y Z x9 f g H K O;obtain⟨Q,R,S,T,U,V,X,Y,Z,x9,f,g⟩:=zbd d;obtain⟨y0,y1,y2⟩:=zan BC;cases m1 with
  |false=>
   go_wp2_with fail
   go_ret
   exact⟨by rw[h.out];rfl,J⟩
  |true=>
   go_wp2_with fail
   refine(N.out _).mono ?_;rintro e w2 ⟨rfl,b2⟩;replace d:=d.below b2 d.lt;replace J:=qw5 J b2;clear Q R S T U V X Y Z x9 f g b2 y0 y1 y2 BC;obtain⟨Q,R,S,T,U,V,X,Y,Z,x9,f,g⟩:=zbd d;cases m2 with
   |false=>
    go_wp2_with fail
    go_ret
    exact⟨by rw[h.out];rfl,J⟩
   |true=>
    have C:=qwk (I.out (by trivial) (by trivial));go_wp2_with fail
    refine(C.out _).mono ?_;rintro e w3 ⟨rfl,b3⟩;go_wp2
    go_ret
    exact⟨by rw[h.out];rfl,qw5 J b3⟩
end Go.Proofs.Y
namespace Go.Hm
open Go Go.RowKit
def zkw(t:Int)(s:zdp):List Nat:=plB t [s.2.2.1,s.2.2.2]
def putS(l:List Nat)(t:Int)(s:zdp):List Nat:=
 if zcj t s then(if s.2.1 then l++vp s.1.toNat++[1]++vp (zkw t s).length++zkw t s else l++vp s.1.toNat++[0]) else l
theorem zkd{t:Int}{s:zdp}(h:zcj t s=true):(0<=t/\t<=3)/\0<=s.1/\s.1<=65536:=by
 unfold zcj at h;split at h
 ·simp at h
 ·omega
theorem zke{t:Int}{s:zdp}(h:zcj t s=true)(a:s.2.1=true):zad s.2.2.1 t false=true/\zad s.2.2.2 t false=true/\zkv t s.2.2.1 s.2.2.2<=0:=by
 unfold zcj at h;split at h
 ·simp at h
 ·simpa[a] using h
theorem qam{t:Int}{s:zdp}(h:zcj t s=true)(f:s.2.1=true):zjk t [s.2.2.1,s.2.2.2]=true:=by
 obtain⟨d,e,-⟩:=zke h f;have a:=(zkd h).1;rw[plOk_iff];refine⟨⟨a.1,a.2,by simp⟩,fun c b=>?_⟩;simp at b;rcases b with rfl|rfl
 ·exact d
 ·exact e
end Go.Hm
namespace Go.Proofs.Y
open Go.RowKit Go.Hm
theorem zpe{t:Int}{s:zdp}(h:zcj t s=true)(e:s.2.1=true):(zkw t s).length<=131112:=by
 obtain⟨c,d,-⟩:=zke h e;have a:=znk c;have b:=znk d;have f:s.2.2.1.2.2.1.length<=65536:=zgg c;have g:s.2.2.2.2.2.1.length<=65536:=zgg d;unfold zkw plB;split
 ·rw[za0];simp
 ·simp only[qt6,qut,qra,qrp]
  omega
def statData(s:zdp):Prop:=zaj s.2.2.1/\zaj s.2.2.2
theorem statData.fine{s:zdp}(h:statData s):zew s:=⟨h.1.1,h.2.1⟩
theorem qan{w:World}{A:Option Addr}{n c:Nat}{l:List Nat}{t:Int}{s:zdp}(h:Reads w w.heap.size 1 A n (zar .u8 l))(hn:n<=100000000)(hs:statData s):
 Calls Tryz.prog 113 #[.slice A n c,.int .i64 t,zcm s] w (zcx (putS l t s) w):=by
 obtain rfl:n=l.length:=h.len;have HR:=qwk h;have SR:=fun(W:World)=>zh0 (w:=W) (t:=t) hs.fine
 have K:=fun(e:zcj t s=true)=>zkd e
 have O:=fun(e:zcj t s=true) (eh:s.2.1=true) (W:World)=>zmg (t:=t) (c:=2) (qxk W 75 (zay s.2.2.1++zay s.2.2.2).toArray 2 5 (recs zay [s.2.2.1,s.2.2.2]) (by simp[recs]) (by simp[recs,zay])) (fun y hy=>by simp at hy;rcases hy with rfl|rfl;exact hs.1;exact hs.2) (by omega)
 have a0:=fun(e:zcj t s=true) (eh:s.2.1=true)=>(show plO t [s.2.2.1,s.2.2.2]=some (zkw t s) by unfold plO zkw;rw[if_pos (qam e eh)])
 have J:=fun(e:zcj t s=true) (eh:s.2.1=true)=>zpe e eh
 obtain⟨M,j⟩:∃M,M=putS l t s:=⟨_,rfl⟩;rw[<-j];unfold putS at j;clear hs h;generalize zcj t s=R at*;generalize zkw t s=E at*;obtain⟨nn,b,⟨U,X,Y,Z,p5⟩,⟨q1,q2,q3,q4,q5⟩⟩:=s;dsimp only at K O a0 J j;have SR:Hid (∀W,Calls Tryz.prog 133 #[.int .i64 t,.agg #[.int .i64 nn,.bool b,.bool U,.int .i64 X,.string (zaf Y),.int .i64 Z,.int .i64 p5,.bool q1,.int .i64 q2,.string (zaf q3),.int .i64 q4,.int .i64 q5]] W (zap (.bool R) W)):=qwk SR;show Calls Tryz.prog 113 #[.slice A l.length c,.int .i64 t,.agg #[.int .i64 nn,.bool b,.bool U,.int .i64 X,.string (zaf Y),.int .i64 Z,.int .i64 p5,.bool q1,.int .i64 q2,.string (zaf q3),.int .i64 q4,.int .i64 q5]] w (zcx M w);have L:=qw1 w 133 #[.int .i64 nn,.bool b,.bool U,.int .i64 X,.string (zaf Y),.int .i64 Z,.int .i64 p5,.bool q1,.int .i64 q2,.string (zaf q3),.int .i64 q4,.int .i64 q5];have hb:New w (w.alloc (.cells #[.int .i64 nn,.bool b,.bool U,.int .i64 X,.string (zaf Y),.int .i64 Z,.int .i64 p5,.bool q1,.int .i64 q2,.string (zaf q3),.int .i64 q4,.int .i64 q5] 133)):=(qwd _ _).alloc (qq0 _) _;obtain⟨o,p,q,r,u,v,x,z,C,D,d,f⟩:=zbd L;have G:=qwk O;have i:=qwk a0;have g:=qwk J;clear O a0 J;cases R with
 |false=>
  rw[if_neg (by simp)] at j;have HM:=qwk j;clear j K G i g;go_enter Tryz.func113,Tryz.ntmps113
  go_wp2_with fail
  refine(SR.out _).mono ?_;rintro e w1 ⟨rfl,m⟩;have a:=qw5 hb m;have CL:=qwk (zht (c:=c) (qxj HR.out a) (by omega));clear m hb L o p q r u v x z C D d f;go_wp2_with fail
  refine CL.out.mono ?_;rintro e w2 ⟨A2,n2,c2,rfl,Q,k⟩;go_wp2_with fail
  go_ret
  rw[HM.out];exact⟨_,_,_,rfl,Q.base_le a.size,qw5 a k⟩
 |true=>
  rw[if_pos rfl] at j;obtain⟨-,⟨n0,n1⟩⟩:=K rfl;clear K;obtain⟨N,rfl⟩:=qsu n0;rw[qrn] at j;have hw:IntKind.u64.wrap (N:Int)=(N:Int):=by rw[qwp];omega
  have V:=zae (n:=N) (by omega);cases b with
  |false=>
   rw[if_neg (by simp)] at j;have HM:=qwk j;clear j G i g;go_enter Tryz.func113,Tryz.ntmps113
   go_wp2_with fail
   refine(SR.out _).mono ?_;rintro e w1 ⟨rfl,m⟩;have a:=qw5 hb m;have F:=L.below m L.lt;clear m hb L o p q r u v x z C D d f;obtain⟨o,p,q,r,u,v,x,z,C,D,d,f⟩:=zbd F;have P:=qwk (zdc A l.length c l N w1 (qxj HR.out a) (by omega) (by omega));go_wp2_with fail
   refine P.out.mono ?_;rintro e w2 ⟨A2,n2,c2,rfl,Q,k⟩;have a5:n2<=100000010:=by have:=Q.len;rw[zaa,qrp] at this;omega
   have H:=qw5 a k;have a7:=k.size;have B2:=F.below k F.lt;clear P k F o p q r u v x z C D d f;obtain⟨o,p,q,r,u,v,x,z,C,D,d,f⟩:=zbd B2;have T:=a.size
   go_wp2_with (refine zcs elB rfl (.tmp 24) (.tmp 25) rfl (W:=w) (B:=w.heap.size) (Q.base_le T) rfl rfl 0 rfl H (qq0 _) (by omega) (by omega) (by simp only[maxLen];omega) ?_
                intro A5 c5 w5 _ _ o5 _ b5 _ _)
   go_ret
   rw[HM.out];exact⟨_,_,_,rfl,o5,b5⟩
  |true=>
   rw[if_pos rfl] at j;have O:=G.out rfl rfl;rw[i.out rfl rfl] at O;have J:=g.out rfl rfl;have O:Hid (∀W:World,Calls Tryz.prog 134 #[.int .i64 t,.slice (some ⟨W.heap.size,0,none⟩) 2 2] (W.alloc (.cells #[.bool U,.int .i64 X,.string (zaf Y),.int .i64 Z,.int .i64 p5,.bool q1,.int .i64 q2,.string (zaf q3),.int .i64 q4,.int .i64 q5] 75)) (OptB (some E) (W.alloc (.cells #[.bool U,.int .i64 X,.string (zaf Y),.int .i64 Z,.int .i64 p5,.bool q1,.int .i64 q2,.string (zaf q3),.int .i64 q4,.int .i64 q5] 75)))):=qwk O;have HM:=qwk j;clear j G i g;have V2:=zae (n:=E.length) (by omega);have P2:=qwk (fun(W:World)=>zdc none 0 0 [] E.length W qwy (by omega) (by omega));have a6:IntKind.u64.wrap (E.length:Int)=(E.length:Int):=by rw[qwp];omega
   go_enter Tryz.func113,Tryz.ntmps113
   go_wp2_with fail
   refine(SR.out _).mono ?_;rintro e w1 ⟨rfl,m⟩;have a:=qw5 hb m;have F:=L.below m L.lt;clear m hb L o p q r u v x z C D d f;obtain⟨o,p,q,r,u,v,x,z,C,D,d,f⟩:=zbd F;have P:=qwk (zdc A l.length c l N w1 (qxj HR.out a) (by omega) (by omega));go_wp2_with fail
   refine P.out.mono ?_;rintro e w2 ⟨A2,n2,c2,rfl,Q,k⟩;have a5:n2<=100000010:=by have:=Q.len;rw[zaa,qrp] at this;omega
   have H:=qw5 a k;have a7:=k.size;have T:=a.size;have B2:=F.below k F.lt;have o2:=Q.base_le T;clear P k F o p q r u v x z C D d f Q;obtain⟨o,p,q,r,u,v,x,z,C,D,d,f⟩:=zbd B2;go_wp2_with fail
   refine(O.out _).mono ?_;rintro e w3 ⟨A3,n3,c3,rfl,k3,b3⟩;have ha:New w2 (w2.alloc (.cells #[.bool U,.int .i64 X,.string (zaf Y),.int .i64 Z,.int .i64 p5,.bool q1,.int .i64 q2,.string (zaf q3),.int .i64 q4,.int .i64 q5] 75)):=(qwd _ _).alloc (qq0 _) _;have I:=qw5 ha b3;have S:=ziw k3 (o2.later ha);have o3:=o2.later I;have a1:=qw5 H I;have b4:=I.size;have a9:n3<=131112:=by have l3:=k3.len;rw[zaa] at l3;omega
   have a4:Hid (n3=E.length):=qwk (by have l3:=k3.len;rwa[zaa] at l3);have P2:Hid (∀W,Calls Tryz.prog 111 #[.slice none 0 0,.int .u64 (n3:Int)] W (zcx ([]++vp E.length) W)):=qwk (by rw[a4.out];exact P2.out);have a6:IntKind.u64.wrap (n3:Int)=(n3:Int):=by rw[qwp];omega
   clear ha b3 I o2 H B2 o p q r u v x z C D d f
   go_wp2_with (refine zcs elB rfl (.tmp 37) (.tmp 38) rfl (W:=w) (B:=w.heap.size) o3 rfl rfl 1 rfl a1 (qq0 _) (by omega) (by omega) (by simp only[maxLen];omega) ?_
                intro A5 c5 w5 _ _ o5 g5 b5 _ d5)
   have a3:=zmj S d5 k3;have k5:=k3.kept g5 S;have b9:=b5.size;refine(P2.out _).mono ?_;rintro e w6 ⟨A6,n6,c6,rfl,k6,b6⟩;rw[qrr] at k6;have b0:n6<=10:=by have:=k6.len;rw[zaa] at this;omega
   have o6:=o5.later b6;have a8:=k5.later b6;have a2:=qw5 b5 b6;have c0:=a2.size;clear k3 k5 o3 a1 o5 b5 b6 S g5 d5;go_wp2_with (first
    |(refine zaq elB rfl (.tmp 40) (.tmp 44) rfl (W:=w) (B:=w.heap.size) o6 k6.reads rfl rfl a2 (qq0 _) (by omega) (by omega) (by simp only[maxLen];omega) ?_
      intro A7 c7 w7 _ _ o7 g7 b7 _;have k7:=a8.kept g7 a3;have c1:=b7.size)
    |(refine zaq elB rfl (.tmp 46) (.tmp 47) rfl (W:=w) (B:=w.heap.size) o7 k7.reads rfl rfl b7 (qq0 _) (by omega) (by omega) (by simp only[maxLen];omega) ?_
      intro A8 c8 w8 _ _ o8 _ b8 _))
   go_ret
   rw[HM.out];exact⟨_,_,_,rfl,o8,b8⟩
end Go.Proofs.Y
namespace Go.Hm
open Go Go.RowKit
abbrev zjv:=Option Addr × Nat × List zju
def zri(d:zjv):List Value:=[.slice d.1 d.2.2.length d.2.1]
def RowBIn(w:World)(d:zjv):Prop:=Reads w w.heap.size 1 d.1 d.2.2.length (recs zjb d.2.2)
theorem RowBIn.later{w w':World}{d:zjv}(h:RowBIn w d)(a:New w w'):RowBIn w' d:=qxj h a
theorem zxx(D:List zju):(recs zjb D).length=D.length:=by rw[zaw (sz:=1) (fun _=>rfl)];omega
theorem qbq(D:List zju):∀u∈recs zjb D,u.oneCell'=true:=by intro u a;unfold recs at a;obtain⟨d,_,b⟩:=qtj.1 a;obtain rfl:=qr6.1 b;rfl
end Go.Hm
namespace Go.Proofs.Y
open Go.RowKit Go.Hm
theorem qp5:ElT Tryz.prog 22 24 (.slice none 0 0) 1 24:=⟨by kernel_rfl,by kernel_rfl,rfl,by omega⟩
end Go.Proofs.Y
namespace Go.Hm
open Go Go.RowKit
theorem zh7{P:Program}{t:TypeId}{sz:Nat}(a:P.underlying t=some (.slice (P.elem t)))(b:∀w,(sizeOf (P.elem t)).run P w= .ok sz w)(A:Option Addr)(n c k m:Nat)(e:k<=m)(d:m<=c)(w:World):
 (Instr.sliceAt t (.slice A n c) (some (.int .i64 (k:Int))) (some (.int .i64 (m:Int))) none).run P w= .ok (.slice (if c=k then A else A.map (·.add (k*sz))) (m-k) (c-k)) w:=by
 rw[run_sliceAt_slice w t _ _ _ _ a,run_slice_lh w t A n c a .i64 .i64 (k:Int) (m:Int) (by omega) (by omega) (by omega),b];simp[Result.andThen,sliced]
theorem qhb{P:Program}{t:TypeId}{sz:Nat}(b:P.underlying t=some (.slice (P.elem t)))(d:∀w,(sizeOf (P.elem t)).run P w= .ok sz w)(A:Option Addr)(n c m:Nat)(f:m<=c)(w:World):
 (Instr.sliceAt t (.slice A n c) none (some (.int .i64 (m:Int))) none).run P w= .ok (.slice A m c) w:=by
 rw[run_sliceAt_slice w t _ _ _ _ b,run_slice_h w t A n c b .i64 (m:Int) (by omega) (by omega),d];have e:∀a:Addr,a.add 0=a:=fun a=>by simp[Addr.add]
 cases A<;> simp[Result.andThen,sliced,e]
theorem qhc{P:Program}{t:TypeId}{sz:Nat}(a:P.underlying t=some (.slice (P.elem t)))(b:∀w,(sizeOf (P.elem t)).run P w= .ok sz w)(A:Option Addr)(n c k:Nat)(d:k<=n)(w:World):
 (Instr.sliceAt t (.slice A n c) (some (.int .i64 (k:Int))) none none).run P w= .ok (.slice (if c=k then A else A.map (·.add (k*sz))) (n-k) (c-k)) w:=by
 rw[run_sliceAt_slice w t _ _ _ _ a,run_slice_l w t A n c a .i64 (k:Int) (by omega) (by omega),b];simp[Result.andThen,sliced]
open Go Go.RowKit
variable{P:Program}
theorem zm8{o:Oper}{a:Act}{w:World}{K:Act->World->Prop}{Q:Exit->Act->World->Prop}(ty:TypeId)(x y:Operand)(l:o.op= .store ty x y)
 (g:Nat)(b:Array Value)(m:a.eval x= .pointer (some ⟨g,0,none⟩))(n:a.eval y= .agg b){t:TypeId}{c:Array Value}(f:Blk w g t c)(hi:(P.info? ty).map (·.size)=some b.size)
 (d:c.size=b.size)(j:b.all (·.oneCell')=true)
 (h:∀W,Blk W g t b->w.grownBy W (some g)->K (a.put o.dst undef) W):o.wp P a w K Q:=by
 refine wp_store_row ty x y l g b m n t c f hi d j ?_;refine h _ ?_ ⟨rfl,rfl,rfl,by simp[World.setRow],fun k _ i=>?_⟩
 ·unfold Blk at f⊢
  simp[World.setRow,Array.getElem?_modify,f]
 ·simp[World.setRow,Array.getElem?_modify]
  intro e;exact absurd (by rw[e]) i
end Go.Hm
