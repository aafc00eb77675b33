import Derived.Test.YtbahbnbpmfgimaaGreatDoorBun10
import Derived.Test.YtbahbnbpmfgimaaGreatDoorBun8
set_option maxHeartbeats 2000000
set_option maxRecDepth 100000
namespace Go.Hm
open Go Go.RowKit
def za8(n:Nat):Nat:=if n<2 then 0 else 2^(n-1).log2
theorem zsk{n:Nat}(h:2<=n):za8 n=2^(n-1).log2/\2^(n-1).log2<n/\n<=2^((n-1).log2+1):=by have a:=qrv (n:=n-1) (by omega);have b:=qrw (n:=n-1);refine⟨by unfold za8;rw[if_neg (by omega)],by omega,by omega⟩
theorem zho{n:Nat}(h:2<=n):1<=za8 n/\za8 n<n/\n-za8 n<=za8 n:=by obtain⟨a,c,b⟩:=zsk h;rw[a];rw[qrx] at b;have:=qry (n:=(n-1).log2) (show 0<2 by omega);omega
open Go Go.RowKit
theorem qea{n k:Nat}(b:k<8)(x:Nat):(128::(List.replicate (zgl n) 0++((zjc n).take k++List.replicate (8-k) 0))).set (1+zgl n+k) x=128::(List.replicate (zgl n) 0++((zjc n).take k++(x::List.replicate (8-(k+1)) 0))):=by
 have a:((zjc n).take k).length=k:=by simp[zjc];omega
 rw[show 1+zgl n+k=(zgl n+k)+1 by omega,qtb,qsy _ _ (by simp),qsy _ _ (by rw[a];simp),a,qtd,show zgl n+k-zgl n-k=0 by omega,show 8-k=(8-(k+1))+1 by omega,qs0,qs1]
theorem z39{n k:Nat}(a:k<8):(zjc n).take (k+1)=(zjc n).take k++[qmo n k]:=by
 rw[zac _ k 0 (by simp[zjc];exact a)];congr 1
 simp[zjc,a]
end Go.Hm
namespace Go.Proofs.Y
open Go.RowKit Go.Hm
theorem z70{w:World}:Calls Tryz.prog 45 #[] w (zap (.agg (zb1 zkz)) w):=by
 have c:New w (w.alloc (.cells (zb1 zkz) 98)):=(qwd _ _).alloc (qq0 _) _;have a:(Tryz.prog.info? 98).map (·.size)=some (zb1 zkz).size:=by kernel_rfl
 have b:=za1 (qw1 w 98 (zb1 zkz));have H:=qwk (qtc a b);clear a b;go_enter Tryz.func45,Tryz.ntmps45
 go_wp2
 exact bodyPost_ret (results_cell_row rfl _ _ w.heap.size _ (zb1 zkz) (0,0) _ rfl H.out.2 (show Tryz.prog.underlying 98=some (.array 8 97) by kernel_rfl) rfl H.out.1) rfl ⟨rfl,c⟩
theorem qjy{w:World}(n:Int):Calls Tryz.prog 47 #[.int .i64 n] w (zcx (qjx n) w):=by
 by_cases t:0<=n/\n<=2147483647
 ·obtain⟨f,V⟩:=t
  obtain⟨N,rfl⟩:=qsu f;have d:qjx (N:Int)=zv2 N:=by unfold qjx;rw[if_pos ⟨f,V⟩,qrn]
  rw[d];have I:decide ((N:Int)<0)=false:=by simp
  have T:decide ((2147483647:Int)<(N:Int))=false:=by simp;omega
  obtain⟨r,Y⟩:∃r,r=(N+8)%64:=⟨_,rfl⟩;have l:zgl N=63-r:=by unfold zgl;omega
  have L:r<64:=by omega
  have e3:((N:Int)+8)%64=(r:Int):=by omega
  have e1:((N:Int)+8).tmod 64=(r:Int):=by rw[qsa (by omega)];omega
  have HL:=qwk (zo4 N);have C:=fun k (s:k<8) (x:Nat)=>qea (n:=N) s x
  have F:=fun k (s:k<8)=>z39 (n:=N) s
  have A:zv2 N=128::(List.replicate (zgl N) 0++zjc N):=rfl;obtain⟨z,M⟩:∃z,z=zgl N:=⟨_,rfl⟩;rw[<-M] at C A l;have e2:(63:Int)-(r:Int)=(z:Int):=by omega
  have P:z<64:=by omega
  have v:=qwk C;have y:=qwk F;have u:=qwk A;clear Y l M C F A d;go_enter Tryz.func47,Tryz.ntmps47
  go_wp2_with (refine zcf elB rfl _ _ rfl (W:=w) (B:=w.heap.size) (1+z+8) (1+z+8) rfl rfl (by omega) (by omega) (qq0 _) (qwd _ _) (qq0 _) rfl (by omega) (by simp only[maxLen];omega) ?_;intro Z Q U G z1;have R:Own Z w.heap.size 5 (.slice (some ⟨w.heap.size,0,none⟩) (1+z+8) (1+z+8)) (zar .u8 (List.replicate (1+z+8) 0)):=by(rw[zb5];exact Q)
               obtain⟨_,_,H,J,st⟩:=R.num0 (i:=0) (by omega))
  have a:=st 128;rw[show(List.replicate (1+z+8) 0).set 0 128=128::(List.replicate z 0++((zjc N).take 0++List.replicate (8-0) 0)) by rw[show 1+z+8=(z+8)+1 by omega,qs0,qs1,List.replicate_append_replicate.symm];rfl] at a
  have e:=G.setCell (p:=⟨w.heap.size,0,none⟩) (qq0 _) (.int .u8 ((128:Nat):Int));have c:=qwk a;have m:=qwk e;clear H J st Q R a e U G;go_loopw [22] (fun i wr=>∃k:Nat,k<=8/\i= .int .i64 (k:Int)/\Hid (Own wr w.heap.size 5 (.slice (some ⟨w.heap.size,0,none⟩) (1+z+8) (1+z+8)) (zar .u8 (128::(List.replicate z 0++((zjc N).take k++List.replicate (8-k) 0)))))/\Hid (New w wr)) (fun i _=>8-(intOf i).toNat)
  case atStart=>exact⟨0,by omega,rfl,c,m⟩
  case round=>
   clear c m;obtain⟨k,s,rfl,O,b⟩:=hrel;by_cases g:k<8
   ·obtain⟨q,D⟩:∃q,q=1+z+k:=⟨_,rfl⟩
    obtain⟨S,h⟩:∃q,q=56-8*k:=⟨_,rfl⟩;obtain⟨x,j⟩:∃x,x=qmo N k:=⟨_,rfl⟩;obtain⟨_,K,H,J,st⟩:=O.out.num0 (i:=q) (by omega);have i1:(1:Int)+(z:Int)+(k:Int)=(q:Int):=by omega
    have i2:(56:Int)-8*(k:Int)=(S:Int):=by omega
    have v1:8*(N:Int)/2^S%256=(x:Int):=by rw[j,h];unfold qmo;simp
    have a:=st x;rw[j,D,v.out k g,<-j,<-D] at a;have E:=y.out k g;rw[<-j] at E;rw[show(zjc N).take k++(x::List.replicate (8-(k+1)) 0)=(zjc N).take (k+1)++List.replicate (8-(k+1)) 0 by rw[E];simp] at a;have e:=b.out.setCell (p:=⟨w.heap.size,q,none⟩) (qq0 _) (.int .u8 (x:Int));have c:=qwk a;have m:=qwk e;have X:q<1+z+8:=by omega
    clear D h j st a e E O b;go_wp2
    go_roundw
    case rel=>exact⟨k+1,by omega,by go_num,c,m⟩
    case measure=>simp[intOf];omega
   ·obtain rfl:k=8:=by omega
    have o:=O.out;rw[qru (by simp[zjc]),show List.replicate (8-8) 0=([]:List Nat) from rfl,qra,<-u.out] at o;have c:=qwk o;clear o O;go_wp2
    go_ret
    exact⟨_,_,_,rfl,c.out,b.out⟩
 ·have d:qjx n=[]:=by unfold qjx;rw[if_neg t]
  rw[d];by_cases f:n<0
  ·have I:decide (n<0)=true:=by simpa using f
   clear t d;go_enter Tryz.func47,Tryz.ntmps47
   go_wp2
   go_ret
   exact⟨_,_,_,rfl,qw0,qw4 _⟩
  ·have I:decide (n<0)=false:=by simpa using f
   have T:decide (2147483647<n)=true:=by simp;omega
   clear t d;go_enter Tryz.func47,Tryz.ntmps47
   go_wp2
   go_ret
   exact⟨_,_,_,rfl,qw0,qw4 _⟩
end Go.Proofs.Y
namespace Go.Hm
open Go Go.RowKit
def lenOf:Value->Nat
 | .slice _ n _=>n
 |_=>0
end Go.Hm
namespace Go.Proofs.Y
open Go.RowKit Go.Hm
end Go.Proofs.Y
namespace Go.Hm
open Go Go.RowKit
def zv4(M:List Nat)(k:Nat):List Nat:=(M.drop (64*k)).take 64
def zhi(M:List Nat):Nat->S8
 |0=>zkz
 |k+1=>z38 (zhi M k) (zv4 M k)
theorem z1i(M:List Nat)(k:Nat):OkS (zhi M k):=by
 cases k with
 |zero=>exact z7x
 |succ k=>exact qd7 _ _
theorem z1j{M:List Nat}{k:Nat}(h:64*k+64<=M.length):(zv4 M k).length=64:=by unfold zv4;rw[qqx,qqw];omega
theorem z71{M:List Nat}{k:Nat}(h:∀x∈M,x<256):∀x∈zv4 M k,x<256:=fun x b=>h x (qte (qro b))
def zf2(l:List Nat):List Nat:=l++zv2 l.length
theorem qjz{l:List Nat}(h:∀x∈l,x<256):∀x∈zf2 l,x<256:=by
 intro x b;rcases qr5.1 b with b|b
 ·exact h x b
 ·exact qjw _ x b
theorem z1k(l:List Nat):(zf2 l).length=l.length+(zv2 l.length).length:=by simp[zf2]
theorem qeb(l:List Nat):(zf2 l).length%64=0:=by rw[z1k];exact qd9 _
theorem z72{l:List Nat}{k:Nat}(h:64*k+64<=l.length):zv4 (zf2 l) k=(l.drop (64*k)).take 64:=by unfold zv4 zf2;rw[qtf (by omega),qtg (by rw[qqw];omega)]
def zv5(l:List Nat):S8:=zhi (zf2 l) ((zf2 l).length/64)
def zv6(s:S8):List Int:=[s.1,s.2.1,s.2.2.1,s.2.2.2.1,s.2.2.2.2.1,s.2.2.2.2.2.1,s.2.2.2.2.2.2.1,s.2.2.2.2.2.2.2]
theorem zv7(s:S8):zb1 s=(za5 .u32 (zv6 s)).toArray:=rfl
def qmq(s:S8)(k:Nat):Int:=(zv6 s).getD (k/4) 0/2^(24-k%4*8)%256
def zv8(s:S8):List Int:=(List.range 32).map (qmq s)
def zef(l:List Nat):List Int:=zv8 (zv5 l)
theorem zg4(s:S8):(zv8 s).length=32:=by simp[zv8]
theorem z73{s:S8}{k:Nat}(b:k<32):(zv8 s).take (k+1)=(zv8 s).take k++[qmq s k]:=by
 rw[zac _ k 0 (by rw[zg4];exact b)];congr 1
 simp[zv8,b]
def zt9(l:List Int):List Int:=l++List.replicate (32-l.length) 0
theorem z74{l:List Int}(h:l.length<=32):(zt9 l).length=32:=by simp[zt9];omega
theorem z75{l:List Int}(h:l.length<32)(x:Int):(zt9 l).set l.length x=zt9 (l++[x]):=by unfold zt9;rw[qsy _ _ (qq0 _),qsz,show 32-l.length=(32-(l++[x]).length)+1 by simp;omega,qs0,qs1];simp
theorem z4a{l:List Int}(h:l.length=32):zt9 l=l:=by simp[zt9,h]
section
variable{P:Program}{w:World}{a:Act}{dst:Option Tmp}{tt:TypeId}{pos:String}{af:Array Edge}{gd:Option (Nat × Bool)}
theorem zeg{ty t:TypeId}{x:Operand}{g:Nat}{cs:Array Value}{d:TypeDesc}(c:a.eval x= .pointer (some ⟨g,0,none⟩))(B:Blk w g t cs)(b:P.underlying ty=some d)(e:d.isRow=true)(hi:(P.info? ty).map (·.size)=some cs.size):
 (execOp a.eval ⟨dst,.load ty x,tt,pos,af,gd⟩).run P w= .ok (.value (.agg cs)) w:=by
 unfold execOp;simp only[c,Instr.loadAt,Instr.sureAddr,qwg,qwh,qwi,run_loadVar_row w g t ty cs (0,0) d B b (by cases d<;> simp_all[TypeDesc.isRow]) hi]
theorem zk0(w:World)(c:Addr)(ty:TypeId)(cs:List Value)(d:TypeDesc)(e:∀j v,cs[j]? =some v->w.cell? (c.add j)=some v)
 (h:P.underlying ty=some d)(k:d.isRow=true)(hi:(P.info? ty).map (·.size)=some cs.length):
 (loadVar ty c).run P w= .ok (.agg cs.toArray) w:=by
 have f:(loadCells c cs.length).run P w= .ok cs.toArray w:=run_loadCells_list (P:=P) w c cs e;cases hq:P.info? ty with
 |none=>simp[hq] at hi
 |some i=>
  have g:i.size=cs.length:=by simpa[hq] using hi
  have b:(isAgg ty).run P w= .ok true w:=by unfold isAgg;rw[qwg,run_underlying h w];cases d<;> simp_all
  simp[loadVar,Sem.run_bind,b,sizeOf,typeInfo,hq,g,f]
theorem zoa{ty:TypeId}{x:Operand}{b:Addr}{cs:List Value}{d:TypeDesc}(g:a.eval x= .pointer (some b))(c:∀j v,cs[j]? =some v->w.cell? (b.add j)=some v)(f:P.underlying ty=some d)(e:d.isRow=true)(hi:(P.info? ty).map (·.size)=some cs.length):
 (execOp a.eval ⟨dst,.load ty x,tt,pos,af,gd⟩).run P w= .ok (.value (.agg cs.toArray)) w:=by
 unfold execOp;simp only[g,Instr.loadAt,Instr.sureAddr,qwg,qwh,qwi,zk0 w b ty cs d c f e hi]
theorem zob{b e:TypeId}{x:Operand}{n c cap:Nat}{A:Option Addr}(f:a.eval x= .slice A c cap)(h:P.underlying b=some (.array n e))(d:n<=c):
 (execOp a.eval ⟨dst,.sliceToArrayPointer b x,tt,pos,af,gd⟩).run P w= .ok (.value (.pointer A)) w:=by
 unfold execOp;simp only[f,qwg,run_arrayAt w b e n A c cap h d,qwi,qwh]
theorem znd{t:TypeId}{x:Operand}{b hi c:Option Operand}{v:Value}(d:(Instr.sliceAt t (a.eval x) (b.map a.eval) (hi.map a.eval) (c.map a.eval)).run P w= .ok v w):
 (execOp a.eval ⟨dst,.slice t x b hi c,tt,pos,af,gd⟩).run P w= .ok (.value v) w:=by
 unfold execOp;simp only[qwg,d,qwi,qwh]
theorem zoc{b:Array Oper}{rest:List Oper}{o:Oper}{Q:Exit->Act->World->Prop}(c:o.guard=none)(t:TypeId)(x:Operand)(d hi e:Option Operand)(g:o.op= .slice t x d hi e){v:Value}
 (i:(Instr.sliceAt t (a.eval x) (d.map a.eval) (hi.map a.eval) (e.map a.eval)).run P w= .ok v w)(h:wpList P b Q rest (a.put o.dst v) w):wpList P b Q (o::rest) a w:=by
 refine wpList_plain c fun K f=>?_
 unfold Oper.wp execOp;simp only[g,qwg,i,qwi,qwh];exact f _ _ h
end
open Go Go.RowKit
def zau:List Int:=List.replicate 32 0
theorem z76{P:Program}{t:TypeId}(a:P.underlying t=some (.slice (P.elem t)))(b:∀w,(sizeOf (P.elem t)).run P w= .ok 1 w)(A:Option Addr)(n c k:Nat)(d:k<=n)(w:World):
 (Instr.sliceAt t (.slice A n c) (some (.int .i64 (k:Int))) none none).run P w= .ok (.slice (if c=k then A else A.map (·.add k)) (n-k) (c-k)) w:=by
 rw[run_sliceAt_slice w t _ _ _ _ a,run_slice_l w t A n c a .i64 (k:Int) (by omega) (by omega),b];simp[Result.andThen,sliced]
theorem qec{P:Program}{t:TypeId}(a:P.underlying t=some (.slice (P.elem t)))(b:∀w,(sizeOf (P.elem t)).run P w= .ok 1 w)(A:Option Addr)(n c k m:Nat)(e:k<=m)(d:m<=c)(w:World):
 (Instr.sliceAt t (.slice A n c) (some (.int .i64 (k:Int))) (some (.int .i64 (m:Int))) none).run P w= .ok (.slice (if c=k then A else A.map (·.add k)) (m-k) (c-k)) w:=by
 rw[run_sliceAt_slice w t _ _ _ _ a,run_slice_lh w t A n c a .i64 .i64 (k:Int) (m:Int) (by omega) (by omega) (by omega),b];simp[Result.andThen,sliced]
theorem qj0{P:Program}{t:TypeId}(b:P.underlying t=some (.slice (P.elem t)))(d:∀w,(sizeOf (P.elem t)).run P w= .ok 1 w)(A:Option Addr)(n c m:Nat)(f:m<=c)(w:World):
 (Instr.sliceAt t (.slice A n c) none (some (.int .i64 (m:Int))) none).run P w= .ok (.slice A m c) w:=by
 rw[run_sliceAt_slice w t _ _ _ _ b,run_slice_h w t A n c b .i64 (m:Int) (by omega) (by omega),d];have e:∀a:Addr,a.add 0=a:=zgi;cases A<;> simp[Result.andThen,sliced,e]
end Go.Hm
namespace Go.Proofs.Y
open Go.RowKit Go.Hm
theorem sB:Tryz.prog.underlying 24=some (.slice (Tryz.prog.elem 24)):=by kernel_rfl
theorem zB:∀w,(sizeOf (Tryz.prog.elem 24)).run Tryz.prog w= .ok 1 w:=fun w=>by
 have h:(Tryz.prog.info? (Tryz.prog.elem 24)).map (·.size)=some 1:=by kernel_rfl
 cases hq:Tryz.prog.info? (Tryz.prog.elem 24) with
 |none=>rw[hq] at h;cases h
 |some i=>
  rw[hq] at h;have:i.size=1:=by simpa using h
  simp[sizeOf,typeInfo,hq,this]
theorem qed:Tryz.prog.underlying 101=some (.array 64 5):=by kernel_rfl
theorem qij:Tryz.prog.underlying 98=some (.array 8 97):=by kernel_rfl
theorem zct:Tryz.prog.underlying 35=some (.array 32 5):=by kernel_rfl
theorem qpp{l:List Nat}(h:l.length=64):(Tryz.prog.info? 101).map (·.size)=some (zar .u8 l).length:=by
 rw[zaa,h]
 kernel_rfl
theorem i8w(s:S8):(Tryz.prog.info? 98).map (·.size)=some (zb1 s).size:=by
 rw[show(zb1 s).size=8 from rfl]
 kernel_rfl
theorem qdu{l:List Int}(h:l.length=32):(Tryz.prog.info? 35).map (·.size)=some (za5 .u8 l).toArray.size:=by
 rw[show(za5 .u8 l).toArray.size=32 by simp[za5,h]]
 kernel_rfl
theorem zua{w:World}{A:Option Addr}{n c:Nat}{l:List Nat}(h:Reads w w.heap.size 1 A n (zar .u8 l))(h8:∀x∈l,x<256)(hc:n<=c)(hn:n<=10000000)(hC:ConstIn w):
 Calls Tryz.prog 25 #[.slice A n c] w (zap (.agg (za5 .u8 (zef l)).toArray) w):=by
 obtain rfl:=h.len;obtain⟨r,hr⟩:∃r,r=l.length%64:=⟨_,rfl⟩;obtain⟨wh,g2⟩:∃r,r=l.length-l.length%64:=⟨_,rfl⟩;have e1:(l.length:Int)%64=(r:Int):=by omega
 have e2:(l.length:Int).tmod 64=(r:Int):=by rw[qsa (by omega)];omega
 have e3:(l.length:Int)-(r:Int)=(wh:Int):=by omega
 have a4:wh%64=0:=by omega
 have a0:wh<=l.length:=by omega
 have HR:=qwk h;have HC:=qwk hC;have HH:=qwk h8;have c7:=qwk a4;have c3:=qwk (qjz h8);have a6:=qwk (z1k l);have f5:=qwk (qeb l);have f6:=qwk (zo4 l.length);clear h hC h8 hr g2 a4;go_enter Tryz.func25,Tryz.ntmps25
 go_wp2_with fail
 obtain⟨W0,U⟩:∃W,W=w.alloc (.cells (za5 .u8 zau).toArray 35):=⟨_,rfl⟩;have b0:New w W0:=by rw[U];exact(qwd _ _).alloc (qq0 _) _
 have D0:Blk W0 w.heap.size 35 (za5 .u8 zau).toArray:=by rw[U];exact qw1 _ _ _
 refine(z70).mono ?_;rintro e w1 ⟨rfl,b1⟩;have b1:New W0 w1:=by rw[U];exact b1
 have D1:=D0.below b1 D0.lt;have d2:=qw5 b0 b1;have b5:=qwk d2;have Q:=qwk D1;clear U b0 D0 b1 D1 d2;go_wp2_with (first|(refine wpList_store_row rfl 98 (.tmp 3) (.tmp 9) rfl w1.heap.size (zb1 zkz) rfl rfl _ _ (heap_alloc_new _ _) (i8w _) rfl (zj0 _) ?_;rw[zbj])|fail)
 obtain⟨W2,V⟩:∃W,W=w1.alloc (.cells (zb1 zkz) 98):=⟨_,rfl⟩;have c2:New w1 W2:=by rw[V];exact(qwd _ _).alloc (qq0 _) _
 have G2:Blk W2 w1.heap.size 98 (zb1 (zhi (zf2 l) 0)):=by rw[V];exact qw1 _ _ _
 have D2:=qwk (Q.out.below c2 Q.out.lt);have B2:=qwk (qw5 b5.out c2);have hG:w.heap.size<w1.heap.size:=Q.out.lt;have b6:=qwk G2;rw[<-V];generalize w1.heap.size=G at*;clear V c2 G2 b5 Q e1 e2 e3;go_loopw [5] (fun i wr=>∃k a:Nat,Hid (a=64*k)/\a<=wh/\i= .int .i64 (a:Int)/\Hid (Blk wr G 98 (zb1 (zhi (zf2 l) k)))/\Hid (Blk wr w.heap.size 35 (za5 .u8 zau).toArray)/\Hid (New w wr)) (fun i _=>wh-(intOf i).toNat)
 case atStart=>exact⟨0,0,qwk rfl,by omega,rfl,b6,D2,B2⟩
 case round=>
  clear b6 D2 B2;obtain⟨k,a,HA,ha,rfl,S,D,b⟩:=hrel;by_cases Y:a<wh
  ·obtain⟨a2,d5⟩:∃x,x=a+64:=⟨_,rfl⟩
   have f9:a2<=wh:=by have:=HA.out;have:=c7.out;omega
   have i2:IntKind.i64.wrap ((a:Int)+64)=(a2:Int):=by rw[qwr];omega
   have SL:=qwk (fun W:World=>qec sB zB A l.length c a a2 (by omega) (by omega) W);have hb:=z72 (l:=l) (k:=k) (by rw[<-HA.out];omega);have f:(zv4 (zf2 l) k).length=64:=z1j (by rw[<-HA.out,a6.out];omega);have z:=z71 (k:=k) c3.out;rw[<-HA.out] at hb;have hcut:=fun(W:World) (d:New w W)=>((qxj HR.out d).cut (k:=a) (cap:=c) (by omega) hc).take (k:=64) (by omega)
   have F:=qwk (fun(W:World) (d:New w W)=>show∃C,(if c=a then A else A.map (·.add a))=some C/\ ∀j v,(zar .u8 (zv4 (zf2 l) k))[j]? =some v->W.cell? (C.add j)=some v by obtain⟨C,h1,_,h3⟩:=(hcut W d).2 (by omega);rw[qq7,qq7] at*;rw[zeq,zfa,<-hb] at h3;exact⟨C,h1,h3⟩)
   have HZ:=qwk (show a2-a=64 by omega);generalize(if c=a then A else A.map (·.add a))=AA at*;have d0:=qwk (fun W:World=>(show(Instr.sliceAt 24 (.slice A l.length c) (some (.int .i64 (a:Int))) (some (.int .i64 (a2:Int))) none).run Tryz.prog W= .ok (.slice AA 64 (c-a)) W by have:=SL.out W;rwa[HZ.out] at this));have I:=qwk f;have g5:=qwk z;have CP:=qwk (fun(W:World) (d:New w W)=>zn9 (w:=W) (zhi (zf2 l) k) (z1i _ _) (zv4 (zf2 l) k) f z (HC.out.new d));have O:z38 (zhi (zf2 l) k) (zv4 (zf2 l) k)=zhi (zf2 l) (k+1):=rfl;rw[O] at CP;clear hb f z hcut O SL;obtain⟨C,rfl,_⟩:=F.out wr b.out;have CL:=qwk (fun(W:World) (d:New w W)=>show∀j v,(zar .u8 (zv4 (zf2 l) k))[j]? =some v->W.cell? (C.add j)=some v by obtain⟨f8,h1,h2⟩:=F.out W d;obtain rfl:=qqf h1;exact h2)
   have b4:=qwk d5;clear F d5;go_wp2
   refine zc6 New 9 [(0,0),(1,1),(1,2),(1,3),(1,4),(1,5),(1,6),(0,7),(2,8),(2,9)]
    qw4 qw5 (by kernel_rfl) (by kernel_rfl) (by kernel_rfl) (by kernel_rfl) ?_
   have hU:=qw5 b.out (qw6 wr);refine zc7 rfl rfl (v:= .agg (zb1 (zhi (zf2 l) k))) (fun W d=>zeg rfl (S.out.below (qw5 (qw6 wr) d) S.out.lt) qij rfl (i8w _)) ?_;simp only[Act.put,qta,qs1,qtb];iterate 4 (
    refine zb8 rfl rfl (v:=?_) (fun W=>?_) ?_;rotate_left
    ·go_simp<;> with_reducible rfl
    simp only[Act.put,qta,qs1,qtb])
   refine zb8 rfl rfl (v:= .slice (some C) 64 (c-a)) (fun W=>znd (d0.out W)) ?_;simp only[Act.put,qta,qs1,qtb];refine zb8 rfl rfl (v:= .pointer (some C)) (fun W=>zob rfl qed (qq0 _)) ?_;simp only[Act.put,qta,qs1,qtb];refine zc7 rfl rfl (v:= .agg (zar .u8 (zv4 (zf2 l) k)).toArray) (fun W d=>zoa rfl (CL.out W (qw5 hU d)) qed rfl (qpp I.out)) ?_;simp only[Act.put,qta,qs1,qtb];refine zbh rfl rfl (fun K M=>?_);go_simp
   (with_reducible refine(CP.out _ hU).mono ?_)
   rintro e9 w9 ⟨rfl,P⟩;refine M _ _ (.inr (.inr P)) ?_;clear M;have hN:=qw5 (qw6 wr) P;have J:=S.out.below hN S.out.lt;have D9:=D.out.below hN D.out.lt;have L:=qw5 hU P;refine zbh rfl rfl (fun K M=>?_);refine wp_store_row 98 (.tmp 3) (.tmp 29) rfl G (zb1 (zhi (zf2 l) (k+1))) rfl rfl _ _ (za1 J) (i8w _) rfl (zj0 _) ?_;refine M _ _ (.inr (.inl rfl)) ?_;clear M;refine zgm ?_;have hF:=zbv (g:=G) w9 (zb1 (zhi (zf2 l) (k+1)));have u:=qwk (zbi J (zb1 (zhi (zf2 l) (k+1))));have t:=qwk (D9.grown hF (by simp;omega));have s:=qwk (qxb L hF (by omega));have f1:=qwk (show a2=64*(k+1) by rw[b4.out,HA.out];omega);have e4:(a:Int)+64=(a2:Int):=by have:=b4.out;omega
   clear J D9 L hN hU hF i2 CP CL d0 P;go_wp2
   go_roundw
   case rel=>exact⟨k+1,a2,f1,f9,rfl,u,t,s⟩
   case measure=>simp[intOf];omega
  ·have d6:a=wh:=by omega
   have HK:=qwk (show wh=64*k by rw[<-d6];exact HA.out);subst d6;have SL:=qwk (fun W:World=>z76 sB zB A l.length c a a0 W);have hcut:=(qxj HR.out b.out).cut (k:=a) (cap:=c) a0 hc;rw[qq7,zeq] at hcut;generalize(if c=a then A else A.map (·.add a))=A3 at*;have d4:qjx (l.length:Int)=zv2 l.length:=by unfold qjx;rw[if_pos (by omega),qrn]
   have e0:(zv2 l.length).length<=72:=by rw[zo4];unfold zgl;omega
   have PD:=qwk (fun W:World=>qjy (w:=W) (l.length:Int));rw[d4] at PD;have d7:(l.drop a).length=l.length-a:=qqw;have d9:(zf2 l).drop a=l.drop a++zv2 l.length:=by unfold zf2;rw[qtf a0]
   have c4:=qwk d9;have o:=qwk hcut;have z0:=b.out.size;have a3:=qwk e0;have f3:=qwk d7;clear hcut d4 d9 e0 d7 f6;go_wp2_with (first
    |(refine zoc rfl 24 (.tmp 30) (some (.tmp 31)) none none rfl (SL.out wr) ?_)
    |(refine zaq elB rfl (.const (.slice none 0 0)) (.tmp 32) rfl (W:=w) (B:=w.heap.size) (base:=w.heap.size) (l:=[]) qw0 o.out rfl rfl b.out (qq0 _) z0 (by omega) (by simp only[maxLen];omega) ?_
      intro A8 c8 w8 _ _ o8 g8 b8 _))
   have S8:=qwk (S.out.grown g8 (by simp[Value.ownBlock]));have D8:=qwk (D.out.grown g8 (by simp[Value.ownBlock]));rw[qrr,qrs] at o8;have O8:=qwk o8;have B8:=qwk b8;clear g8 o8 b8 z0 S D;refine(PD.out _).mono ?_;rintro e w9 ⟨A9,n9,P,rfl,o9,L⟩;have r9:=o9.reads;obtain rfl:=r9.len;have a1:=O8.out.later L;have J:=qwk (S8.out.below L S8.out.lt);have D9:=qwk (D8.out.below L D8.out.lt);have a7:=qw5 B8.out L;have z9:=a7.size;have e7:l.length-a+(zv2 l.length).length<=10000100:=by have:=a3.out;omega
   clear o9 PD SL o O8 B8 S8 D8 L
   go_wp2_with (refine zaq elB rfl (.tmp 33) (.tmp 36) rfl (W:=w) (B:=w.heap.size) (base:=w.heap.size) a1 r9 rfl rfl a7 (qq0 _) z9 (by omega) (by simp only[maxLen];omega) ?_
                intro f0 a8 h0 g3 _ b3 a9 d3 _)
   have u:=qwk (J.out.push a1 a9 (by decide));have t:=qwk (D9.out.push a1 a9 (by decide));rw[<-c4.out,show(zf2 l).drop a=(zf2 l).drop (64*k) by rw[HK.out]] at b3;have R:=qwk (qw3 b3);have s:=qwk d3;have HM:=qwk (show l.length-a+(zv2 l.length).length=(zf2 l).length-64*k by rw[a6.out,<-HK.out];omega);have p:=qwk (show 64*k<=(zf2 l).length by rw[a6.out,<-HK.out];omega);have g1:l.length-a+(zv2 l.length).length<=a8:=by omega
   have g9:a8<=maxLen:=by assumption
   generalize l.length-a+(zv2 l.length).length=e8 at*;clear a1 r9 a9 a7 d3 z9 b3 J D9 c4 e7 a0 a3 f3;have c0:=qwk (show e8=(zf2 l).length-64*k from HM.out);clear HM HA HK;go_loopw [6] (fun v wr=>∃(k m c:Nat) (A:Option Addr),Hid (m=(zf2 l).length-64*k)/\Hid (64*k<=(zf2 l).length)/\v= .slice A m c/\m<=c/\Hid (TR wr 5 A m (zar .u8 ((zf2 l).drop (64*k))))/\Hid (Blk wr G 98 (zb1 (zhi (zf2 l) k)))/\Hid (Blk wr w.heap.size 35 (za5 .u8 zau).toArray)/\Hid (New w wr)) (fun v _=>lenOf v)
   case atStart=>exact⟨k,e8,a8,f0,c0,p,rfl,g1,R,u,t,s⟩
   case round=>
    clear c0 p R u t s;obtain⟨k,m,c,A,HM,p,rfl,g0,T,S,D,b⟩:=hrel;by_cases Y:64<=m
    ·have d8:64*k+64<=(zf2 l).length:=by have:=HM.out;have:=p.out;omega
     have f:(zv4 (zf2 l) k).length=64:=z1j d8;have z:=z71 (k:=k) c3.out;have d1:=qwk (fun W:World=>show(Instr.sliceAt 24 (.slice A m c) none (some (.int .i64 64)) none).run Tryz.prog W= .ok (.slice A 64 c) W from qj0 sB zB A m c 64 (by omega) W);have f7:=qwk (fun W:World=>show(Instr.sliceAt 24 (.slice A m c) (some (.int .i64 64)) none none).run Tryz.prog W= .ok (.slice (if c=64 then A else A.map (·.add 64)) (m-64) (c-64)) W from z76 sB zB A m c 64 Y W);have hcut:=T.out.cut (k:=64) (cap:=c) Y g0;rw[zeq,qth,show 64*k+64=64*(k+1) by omega] at hcut;generalize(if c=64 then A else A.map (·.add 64))=A' at*;have o:=qwk hcut;obtain⟨C,rfl,_⟩:=T.out.1.2 (by omega);have CL:=qwk (fun(W:World) (d:New wr W)=>show∀j v,(zar .u8 (zv4 (zf2 l) k))[j]? =some v->W.cell? (C.add j)=some v by have h2:=((T.out.below d).1.take (k:=64) Y);rw[qq7,zfa] at h2;obtain⟨f8,e2,_,h3⟩:=h2.2 (by omega);obtain rfl:=qqf e2;exact h3)
     have I:=qwk f;have CP:=qwk (fun(W:World) (d:New w W)=>zn9 (w:=W) (zhi (zf2 l) k) (z1i _ _) (zv4 (zf2 l) k) f z (HC.out.new d));have O:z38 (zhi (zf2 l) k) (zv4 (zf2 l) k)=zhi (zf2 l) (k+1):=rfl;rw[O] at CP;have f4:=qwk (show m-64=(zf2 l).length-64*(k+1) by have:=HM.out;omega);have b7:=qwk (show 64*(k+1)<=(zf2 l).length by omega);clear f z hcut O d8 HM p;go_wp2
     refine zc6 New 6 [(0,0),(1,1),(1,2),(1,3),(0,4),(2,5),(2,6)]
      qw4 qw5 (by kernel_rfl) (by kernel_rfl) (by kernel_rfl) (by kernel_rfl) ?_
     have hU:=qw5 b.out (qw6 wr);refine zc7 rfl rfl (v:= .agg (zb1 (zhi (zf2 l) k))) (fun W d=>zeg rfl (S.out.below (qw5 (qw6 wr) d) S.out.lt) qij rfl (i8w _)) ?_;simp only[Act.put,qta,qs1,qtb];refine zb8 rfl rfl (v:=?_) (fun W=>?_) ?_;rotate_left
     ·go_simp<;> with_reducible rfl
     simp only[Act.put,qta,qs1,qtb];refine zb8 rfl rfl (v:= .slice (some C) 64 c) (fun W=>znd (d1.out W)) ?_;simp only[Act.put,qta,qs1,qtb];refine zb8 rfl rfl (v:= .pointer (some C)) (fun W=>zob rfl qed (qq0 _)) ?_;simp only[Act.put,qta,qs1,qtb];refine zc7 rfl rfl (v:= .agg (zar .u8 (zv4 (zf2 l) k)).toArray) (fun W d=>zoa rfl (CL.out W (qw5 (qw6 wr) d)) qed rfl (qpp I.out)) ?_;simp only[Act.put,qta,qs1,qtb];refine zbh rfl rfl (fun K M=>?_);go_simp
     (with_reducible refine(CP.out _ hU).mono ?_)
     rintro e9 w9 ⟨rfl,P⟩;refine M _ _ (.inr (.inr P)) ?_;clear M;have hN:=qw5 (qw6 wr) P;have J:=S.out.below hN S.out.lt;have D9:=D.out.below hN D.out.lt;have T9:=o.out.below hN;have L:=qw5 hU P;refine zbh rfl rfl (fun K M=>?_);refine wp_store_row 98 (.tmp 3) (.tmp 46) rfl G (zb1 (zhi (zf2 l) (k+1))) rfl rfl _ _ (za1 J) (i8w _) rfl (zj0 _) ?_;refine M _ _ (.inr (.inl rfl)) ?_;clear M;refine zgm ?_;have hF:=zbv (g:=G) w9 (zb1 (zhi (zf2 l) (k+1)));have u:=qwk (zbi J (zb1 (zhi (zf2 l) (k+1))));have t:=qwk (D9.grown hF (by simp;omega));have R:=qwk (T9.keep hF J (by decide));have s:=qwk (qxb L hF (by omega));clear J D9 T9 L hN hU hF CP CL d1 P o;go_wp2_with (refine zoc rfl 24 (.tmp 47) (some (.const (.int .i64 64))) none none rfl (f7.out _) ?_)
     go_roundw
     case rel=>exact⟨k+1,m-64,c-64,A',f4,b7,rfl,by omega,R,u,t,s⟩
     case measure=>simp[lenOf];omega
    ·have hk:zhi (zf2 l) k=zv5 l:=by
      unfold zv5;congr 1
      have:=HM.out;have:=p.out;have:=f5.out;omega
     rw[hk] at S;clear hk T HM p;obtain⟨W5,X⟩:∃W,W=wr.alloc (.cells (za5 .u8 zau).toArray 35):=⟨_,rfl⟩;have c5:New wr W5:=by rw[X];exact(qwd _ _).alloc (qq0 _) _
     have E5:Blk W5 wr.heap.size 35 (za5 .u8 (zt9 ((zv8 (zv5 l)).take 0))).toArray:=by rw[X];exact qw1 _ _ _
     have S5:=qwk (S.out.below c5 S.out.lt);have D5:=qwk (D.out.below c5 D.out.lt);have B5:=qwk (qw5 b.out c5);have a5:=qwk E5;have g7:G<wr.heap.size:=S.out.lt;have c6:=qwk (show wr.alloc (.cells (za5 .u8 zau).toArray 35)=W5 from X.symm);clear c5 E5 S D b X;go_wp2
     have d:=c6.out;rw[show(za5 .u8 zau).toArray= qxy from rfl] at d;rw[d];clear d c6;have g6:w.heap.size<wr.heap.size:=by have:=a5.out.lt;omega
     generalize wr.heap.size=E at*;go_loopw [49] (fun i wr=>∃k:Nat,k<=32/\i= .int .i64 (k:Int)/\Hid (Blk wr E 35 (za5 .u8 (zt9 ((zv8 (zv5 l)).take k))).toArray)/\Hid (Blk wr G 98 (zb1 (zv5 l)))/\Hid (Blk wr w.heap.size 35 (za5 .u8 zau).toArray)/\Hid (New w wr)) (fun i _=>32-(intOf i).toNat)
     case atStart=>exact⟨0,by omega,rfl,a5,S5,D5,B5⟩
     case round=>
      clear a5 S5 D5 B5;obtain⟨k,hk,rfl,T,S,D,b⟩:=hrel;by_cases b2:k<32
      ·obtain⟨q,hq⟩:∃x,x=k/4:=⟨_,rfl⟩
       obtain⟨r4,e5⟩:∃x,x=k%4:=⟨_,rfl⟩;obtain⟨sh,e6⟩:∃x,x=24-r4*8:=⟨_,rfl⟩;have i1:(k:Int)/4=(q:Int):=by omega
       have i2:(k:Int).tdiv 4=(q:Int):=by rw[qti (by omega)];omega
       have i3:(k:Int)%4=(r4:Int):=by omega
       have i4:(k:Int).tmod 4=(r4:Int):=by rw[qsa (by omega)];omega
       have i5:(24:Int)-(r4:Int)*8=(sh:Int):=by omega
       have j1:(q:Int)<8:=by omega
       have j2:(k:Int)<32:=by omega
       have s1:=S.out;rw[zv7] at s1;have c1:=zf5 (i:=q) s1 (by simp[zv6];omega);obtain⟨y,hy⟩:∃y,y=qmq (zv5 l) k:=⟨_,rfl⟩;have v1:(zv6 (zv5 l)).getD q 0/2^sh%256=y:=by rw[hy,e6,e5,hq];rfl
       have Z:((zv8 (zv5 l)).take k).length=k:=by rw[qqx,zg4];omega
       have c2:=zf5 (i:=k) T.out (by rw[z74 (by rw[Z];omega)];exact b2);have f2:=T.out.frozen k;have t3:=zt8 T.out (i:=k) y;have N:=z75 (l:=(zv8 (zv5 l)).take k) (by rw[Z];exact b2) y;rw[Z,hy,<-z73 b2,<-hy] at N;rw[N] at t3;have hF:Far E wr (wr.setCell ⟨E,k,none⟩ (.int .u8 y)):=zy5 _ _;have T3:=qwk t3;have S3:=qwk (S.out.grown hF (by simp;omega));have D3:=qwk (D.out.grown hF (by simp;omega));have B3:=qwk (qxb b.out hF (by omega));generalize(zv6 (zv5 l)).getD q 0=x at*;have g4:sh<=24:=by omega
       clear hq e5 e6 s1 hy Z t3 N hF T S D b;go_wp2
       go_roundw
       case rel=>exact⟨k+1,by omega,by go_num,T3,S3,D3,B3⟩
       case measure=>simp[intOf];omega
      ·obtain rfl:k=32:=by omega
       have t3:=T.out;rw[qru (by rw[zg4];omega),z4a (zg4 _)] at t3;have hz:(za5 .u8 zau).toArray.size=(za5 .u8 (zv8 (zv5 l))).toArray.size:=by simp[za5,zau,zg4]
       have H:=qwk (qtc (za1 t3) (qtc (za1 D.out) (qtc (qdu (zg4 (zv5 l))) (qtc hz (qtc (zfb .u8 (zv8 (zv5 l))) (zbi D.out (za5 .u8 (zv8 (zv5 l))).toArray))))));have bE:=qxb b.out (zbv (g:=w.heap.size) wr (za5 .u8 (zv8 (zv5 l))).toArray) (qq0 _);have BE:=qwk bE;have hS:zv8 (zv5 l)=zef l:=rfl;rw[hS] at H BE;generalize(za5 .u8 (zef l)).toArray=cs at*;clear t3 hz bE hS T S D b;go_wp2_with (first
        |(refine wpList_load_row rfl 35 (.tmp 7) rfl E rfl _ cs _ _ H.out.1 zct rfl H.out.2.2.1 ?_)
        |(refine wpList_store_row rfl 35 (.tmp 2) (.tmp 65) rfl w.heap.size cs rfl rfl _ _ H.out.2.1 H.out.2.2.1 H.out.2.2.2.1 H.out.2.2.2.2.1 ?_))
       exact bodyPost_ret (results_cell_row rfl _ _ w.heap.size _ cs (0,0) _ rfl H.out.2.2.2.2.2 zct rfl H.out.2.2.1) rfl ⟨rfl,BE.out⟩
open Go.RowKit Go.Hm Go.WideShapes Go.ChangeShapes
theorem gConst:Tryz.prog.globalNamed "hypostyle/sha.constants" =some 1:=by kernel_rfl
theorem tConst:(Tryz.prog.globals[1]?).map (·.type)=some 148:=by kernel_rfl
theorem qmu:(Go.Proofs.YtbahbnbpmfgimaaGreatDoor.Rows.laid_hypostyle_sha_constants:DataW Unit)= .agg (kI.map fun k=> .lit (.int .u32 k)):=by rfl
abbrev zze:List (String × DataW Unit):=[("hypostyle/sha.constants",Go.Proofs.YtbahbnbpmfgimaaGreatDoor.Rows.laid_hypostyle_sha_constants),("hypostyle/roots.kinds",Go.Proofs.YtbahbnbpmfgimaaGreatDoor.Rows.laid_hypostyle_roots_kinds)]
theorem zuf{W:World}(h:laidMetH Tryz.prog zze W):ConstIn W:=by
 rw[MakeChecks.laidMetH_plain _ _ _ (by kernel_rfl)] at h;obtain⟨I,⟨F,K,a,E,H,J,e,r,s,o,_,D⟩,_,u⟩:=h;obtain rfl:=qqf (gConst.symm.trans e);obtain rfl:=qqf (tConst.symm.trans r);obtain⟨w,G,rfl,d,g,C,p⟩:=DataW.trod_array (show Tryz.prog.underlying 148=some (.array 64 97) by kernel_rfl) o;have l:Tryz.prog.cellsOf 148=64:=by kernel_rfl
 have y:Tryz.prog.cellsOf 97=1:=by kernel_rfl
 rw[l] at g;rw[qmu] at d;simp only[qqg,qqn] at d;have b:∀i,i<64->W.cell? ⟨1,i,none⟩=some (.int .u32 (kI.getD i 0)):=by
  intro i q;have n:=p i q;rw[y,qq7] at n;have c:i<a.toList.length:=by omega
  have j:(a.toList.drop i).take 1=[a.toList[i]]:=by rw[qrb c];rfl
  rw[j,qqt (by omega)] at n;obtain⟨x,t,z,_⟩:=DataW.trod_int (show Tryz.prog.underlying 97=some (.int .u32) by kernel_rfl) n;have f:(w.map (·.1))[i]? =(kI.map fun k=>(DataW.lit (.int .u32 k):DataW Unit))[i]? :=by rw[d.1]
  rw[qtk,qqt (show i<w.length by omega),qtk,qqt (show i<kI.length from q)] at f;simp only[qtw,qqh] at f;rw[z] at f;simp only[qqo,qqp,true_and] at f;have B:=World.var?_cell e s i;rw[B];simp only[qqe,and_true] at t;rw[qus (by simpa using c)];have A:a[i]'(by simpa using c)=a.toList[i]:=by simp
  rw[A,t,f,qsh,qqt (show i<kI.length from q)];rfl
 refine⟨?_,b⟩;have m:=b 0 (by omega);unfold World.cell? at m;rcases qq4 1 W.heap.size with v|v
 ·exact v
 ·rw[qq5 (by omega)] at m
  cases m
theorem qev(os:Os)(args:Array Value):laidMetH Tryz.prog zze ((World.doorLaid Tryz.prog 19 os).forCall (fun _ _=>0) ⟨#[],args,[]⟩).memory:=
 laidMetH_of_parts3 (fuel:=8) (laidMet_of_run' 8 (by kernel_rfl) (by kernel_rfl)) (by kernel_rfl) (by kernel_rfl)
end Go.Proofs.Y
namespace Go.Hm
open Go Go.RowKit
abbrev zku:zab:=(false,0,[],0,0)
def ziu(s:List zab × List Nat)(c:zab):List zab × List Nat:=
 if c∈s.1 then(s.1,s.2++[s.1.idxOf c]) else(s.1++[c],s.2++[s.1.length])
def zgs(l:List zab):List zab × List Nat:=l.foldl ziu ([],[])
theorem zhy(l:List zab)(c:zab):zgs (l++[c])=ziu (zgs l) c:=by simp[zgs]
def zjj(s:Option Nat)(p:Nat):Option Nat:=
 match s with
 |none=>none
 |some k=>if k<p then none else if p=k then some (k+1) else some k
def qdw(l:List Nat):Option Nat:=l.foldl zjj (some 0)
theorem zmb(l:List Nat)(p:Nat):qdw (l++[p])=zjj (qdw l) p:=by simp[qdw]
theorem zmc{α:Type}{C:List α->Prop}(c:C [])(d:∀l x,C l->C (l++[x])):∀l,C l:=fun l=>by
 have:∀k,∀l:List α,l.length=k->C l:=by
  intro k;induction k with
  |zero=>intro l a;rw[qu6.1 a];exact c
  |succ k f=>
   intro l a;have b:l≠ []:=by intro e;subst e;simp at a
   rw[<-List.dropLast_concat_getLast b];exact d _ _ (f _ (by simp[a]))
 exact this _ l rfl
theorem zzs:∀(l:List Nat) (m:Nat),qdw l=some m-> ∀p∈l,p<m:=by
 refine zmc ?_ ?_
 ·intro m _ p a;simp at a
 ·intro l x c m h p a
  rw[zmb] at h;cases hl:qdw l with
  |none=>rw[hl] at h;simp[zjj] at h
  |some j=>
   rw[hl] at h;have b:=c j hl;unfold zjj at h;dsimp only at h;split at h
   ·cases h
   ·split at h
    all_goals
     injection h with h;rcases qr5.1 a with a|a
     ·have:=b p a;omega
     ·rw[qr6.1 a];omega
structure IsEnt(l E:List zab)(P:List Nat):Prop where
 nodup:E.Nodup
 map:P.map (fun p=>E.getD p zku)=l
 ord:qdw P=some E.length
theorem IsEnt.lt{l E:List zab}{P:List Nat}(h:IsEnt l E P):∀p∈P,p<E.length:=zzs P _ h.ord
theorem IsEnt.len{l E:List zab}{P:List Nat}(h:IsEnt l E P):P.length=l.length:=by rw[<-h.map,qtl]
theorem zwr{α:Type}{E:List α}{c d:α}{p:Nat}(h:p<E.length):(E++[c]).getD p d=E.getD p d:=by rw[qsh,qsh,qs2 h]
theorem zlf:∀l,IsEnt l (zgs l).1 (zgs l).2:=by
 refine zmc ?_ ?_
 ·exact⟨by simp[zgs],by simp[zgs],by simp[zgs,qdw]⟩
 ·intro l c h
  rw[zhy];obtain⟨g,i,f⟩:=h;have d:=zzs _ _ f;generalize zgs l=s at*;obtain⟨E,P⟩:=s;dsimp only at g i f d;unfold ziu;dsimp only;split
  ·rename_i j
   have k:E.idxOf c<E.length:=qu7.2 j;refine⟨g,?_,?_⟩
   ·rw[que,i]
    congr 1
    simp only[qrj,qrk];rw[qsh,qqt k,List.getElem_idxOf k];rfl
   ·rw[zmb,f]
    unfold zjj;dsimp only;rw[if_neg (by omega),if_neg (by omega)]
  ·rename_i j
   refine⟨?_,?_,?_⟩
   ·rw[List.nodup_append]
    refine⟨g,by simp,?_⟩;intro a m b n e;rw[qr6.1 n] at e;exact j (e▸m)
   ·rw[que]
    congr 1
    ·rw[<-i]
     exact qsk fun p o=>zwr (d p o)
    ·simp
   ·rw[zmb,f]
    unfold zjj;dsimp only;rw[if_neg (by omega),if_pos rfl];simp
theorem z4t{E:List zab}(h:E.Nodup){p:Nat}(b:p<E.length):E.idxOf (E.getD p zku)=p:=by
 rw[qsh,qqt b,qsi];have e:E.idxOf E[p]<E.length:=qu7.2 (qrf b);have:=List.getElem_idxOf e;have a:=List.pairwise_iff_getElem.1 h;rcases Nat.lt_trichotomy (E.idxOf E[p]) p with f|c|d
 ·exact absurd this (a _ _ e b f)
 ·exact c
 ·exact absurd this.symm (a _ _ b e d)
theorem IsEnt.uniq:∀{l E:List zab} {P:List Nat},IsEnt l E P->zgs l=(E,P):=by
 have m:∀P:List Nat,∀l E,IsEnt l E P->zgs l=(E,P):=by
  refine zmc ?_ ?_
  ·intro l E h
   have b:=h.map;have d:=h.ord;simp only[qrk] at b;subst b;simp[qdw] at d;have:E=[]:=qu6.1 (by omega);subst this;rfl
  ·intro P p o l E h
   obtain⟨b,d,a⟩:=h;rw[que] at d;simp only[qrj,qrk] at d;rw[zmb] at a;subst d;cases hk:qdw P with
   |none=>rw[hk] at a;simp[zjj] at a
   |some k=>
    rw[hk] at a;have i:=zzs _ _ hk;unfold zjj at a;dsimp only at a;rw[zhy];split at a
    ·cases a
    ·split at a
     ·rename_i j
      injection a with a;subst j;have f:E=E.take p++[E.getD p zku]:=by
       have c:p<E.length:=by omega
       conv=>lhs;rw[<-qtq p E,qrb c,qt8 (by omega)]
       rw[qsh,qqt c];rfl
      have n:(E.take p).length=p:=by rw[qqx];omega
      have e:(P.map fun p=>E.getD p zku)=P.map fun q=>(E.take p).getD q zku:=by
       refine qsk fun q s=>?_
       have:=i q s;conv=>lhs;rw[f]
       exact zwr (by omega)
      have g:=o (P.map fun p=>E.getD p zku) (E.take p) ⟨b.sublist (List.take_sublist _ _),e.symm,by rw[hk,n]⟩;rw[g];have r:E.getD p zku∉E.take p:=by rw[f,List.nodup_append] at b;intro e;exact b.2.2 _ e _ (by simp) rfl
      unfold ziu;dsimp only;rw[if_neg r,n,<-f]
     ·rename_i t u
      injection a with a;have c:p<E.length:=by omega
      have g:=o (P.map fun p=>E.getD p zku) E ⟨b,rfl,by rw[hk,a]⟩;rw[g];have e:E.getD p zku∈E:=by rw[qsh,qqt c];exact qrf c
      unfold ziu;dsimp only;rw[if_pos e,z4t b c]
 intro l E P h;exact m P l E h
theorem zmd:∀l:List zab,∀c,c∈(zgs l).1↔c∈l:=by
 refine zmc ?_ ?_
 ·intro c;simp[zgs]
 ·intro l x a c
  rw[zhy];unfold ziu;split
  ·rename_i b
   have:=(a x).1 b;rw[a c,qr5,qr6];constructor
   ·exact fun h=> .inl h
   ·rintro(h|rfl)
    ·exact h
    ·exact this
  ·dsimp only
   rw[qr5,qr5,a c]
theorem zlg:∀l:List zab,(zgs l).1.length<=l.length:=by
 refine zmc ?_ ?_
 ·simp[zgs]
 ·intro l x a
  rw[zhy];unfold ziu;split
  ·simp;omega
  ·simp;omega
open Go Go.RowKit
theorem ziw{c d:World}{base:Nat}{e f:TypeId}{u v:Value}{xs i:List Value}(h:Own d c.heap.size e u xs)(g:Own c base f v i):u.ownBlock=none\/u.ownBlock≠v.ownBlock:=by
 rcases hu:u.ownBlock with _|k
 ·exact .inl rfl
 ·refine .inr fun e=>?_
  have a:=(h.lt k hu).1;have b:=(g.lt k e.symm).2;omega
theorem zmj{W:World}{base:Nat}{e:TypeId}{u v a:Value}{xs:List Value}(h:u.ownBlock=none\/u.ownBlock≠v.ownBlock)(d:a.ownBlock=v.ownBlock\/ ∃g,a.ownBlock=some g/\W.heap.size<=g)(k:Own W base e u xs):u.ownBlock=none\/u.ownBlock≠a.ownBlock:=by
 rcases hu:u.ownBlock with _|g
 ·exact .inl rfl
 ·right
  rcases d with d|⟨b,d,c⟩
  ·rw[d,<-hu]
   rcases h with h|h
   ·rw[hu] at h;cases h
   ·exact h
  ·rw[d]
   intro e;injection e with e;have:=(k.lt g hu).2;omega
theorem zgu{u v:Value}(h:u.ownBlock=none\/u.ownBlock≠v.ownBlock):v.ownBlock=none\/v.ownBlock≠u.ownBlock:=by
 rcases hv:v.ownBlock with _|k
 ·exact .inl rfl
 ·refine .inr fun e=>?_
  rcases h with h|h
  ·rw[h] at e;cases e
  ·exact h (by rw[hv,e])
open Go Go.RowKit
inductive Ev where
 |among (lo hi:Nat)
 |beside (lo hi:Nat)
 |node
def ql2:Ev->Bool
 | .beside _ _=>true
 |_=>false
def cnt(es:List Ev):Nat:=es.countP ql2
end Go.Hm
