import Derived.BigQuiet
import Derived.Test.YtbahbnbpmfgimaaGreatDoorBun2
import Derived.Test.YtbahbnbpmfgimaaGreatDoorBun3
set_option maxHeartbeats 2000000
set_option maxRecDepth 100000
namespace Go.Proofs.Y
open Go.RowKit Go.Hm
theorem qih:Tryz.prog.underlying 9=some .string:=by kernel_rfl
theorem elS:ElT Tryz.prog 236 9 (.string ⟨#[]⟩) 1 16:=⟨by kernel_rfl,by kernel_rfl,rfl,by omega⟩
def DrewPost(v:Value)(w:World)(e:Ending)(w':World):Prop:=e= .returned v/\ ∃k,w'=w.drewN k
def zap(v:Value)(w:World)(e:Ending)(w':World):Prop:=e= .returned v/\New w w'
def zd5(v:Value)(w:World)(e:Ending)(w':World):Prop:=e= .returned v/\w=w'
theorem DrewPost.new{v:Value}{w w':World}{e:Ending}(h:DrewPost v w e w'):zap v w e w':=by obtain⟨a,k,rfl⟩:=h;exact⟨a,zd4 w k⟩
def OptB(o:Option (List Nat))(w:World)(e:Ending)(w':World):Prop:=
 match o with
 |none=>e= .returned (.tuple #[.slice none 0 0,.bool false])/\Below w.heap.size w w'
 |some l=>∃A n c,e= .returned (.tuple #[.slice A n c,.bool true])/\Own w' w.heap.size 5 (.slice A n c) (zar .u8 l)/\Below w.heap.size w w'
theorem OptB.u{o:Option (List Nat)}{w w':World}{e:Ending}(h:OptB o w e w'):
 ∃A n c,e= .returned (.tuple #[.slice A n c,.bool o.isSome])/\Own w' w.heap.size 5 (.slice A n c) (zar .u8 (o.getD []))/\Below w.heap.size w w':=by
 cases o with
 |none=>exact⟨none,0,0,h.1,qw0,h.2⟩
 |some l=>exact h
def OptW(o:Option (List Nat))(w:World)(e:Ending)(w':World):Prop:=
 match o with
 |none=>e= .returned (.tuple #[.slice none 0 0,.bool false])/\Below w.heap.size w w'
 |some l=>∃A n c,e= .returned (.tuple #[.slice A n c,.bool true])/\Own w' w.heap.size 138 (.slice A n c) (zar .u64 l)/\Below w.heap.size w w'
theorem OptW.u{o:Option (List Nat)}{w w':World}{e:Ending}(h:OptW o w e w'):
 ∃A n c,e= .returned (.tuple #[.slice A n c,.bool o.isSome])/\Own w' w.heap.size 138 (.slice A n c) (zar .u64 (o.getD []))/\Below w.heap.size w w':=by
 cases o with
 |none=>exact⟨none,0,0,h.1,qw0,h.2⟩
 |some l=>exact h
def OptT(o:Option (List (List Nat)))(w:World)(e:Ending)(w':World):Prop:=
 match o with
 |none=>e= .returned (.tuple #[.slice none 0 0,.bool false])/\Below w.heap.size w w'
 |some l=>∃A n c,e= .returned (.tuple #[.slice A n c,.bool true])/\Own w' w.heap.size 9 (.slice A n c) (zsm l)/\Below w.heap.size w w'
theorem OptT.u{o:Option (List (List Nat))}{w w':World}{e:Ending}(h:OptT o w e w'):
 ∃A n c,e= .returned (.tuple #[.slice A n c,.bool o.isSome])/\Own w' w.heap.size 9 (.slice A n c) (zsm (o.getD []))/\Below w.heap.size w w':=by
 cases o with
 |none=>exact⟨none,0,0,h.1,qw0,h.2⟩
 |some l=>exact h
end Go.Proofs.Y
namespace Go.Hm
open Go Go.RowKit Go.WideShapes Go.ChangeShapes Go.Deep
section
variable{H:Type}{enc:TypeId × Value->H}{P:Program}{W:World}{t e:TypeId}{cs:List Value}{n:Nat}
def zdm(P:Program)(t:TypeId):Array Field:=match P.underlying t with|some (.struct fs)=>fs|_=> #[]
theorem Held.part(h:Held enc P W t cs)(j:P.underlying t=some (.struct (zdm P t)))(i off n:Nat){ft:TypeId}(b:((zdm P t)[i]?.map fun f=>(f.type,f.offset))=some (ft,off))(g:P.cellsOf ft=n):Held enc P W ft ((cs.drop off).take n):=by
 obtain⟨_,a⟩:=h.field j;cases hfi:(zdm P t)[i]? with
 |none=>rw[hfi] at b;cases b
 |some f=>
  rw[hfi] at b;simp only[qtw,qqh,qqg] at b;obtain⟨c,d⟩:=b;have:=a i f hfi;rw[c,d,g] at this;exact this
theorem Held.partLen(h:Held enc P W t cs)(b:P.underlying t=some (.struct (zdm P t)))(a:P.cellsOf t=n):cs.length=n:=(h.field b).1.trans a
theorem z77(l:List Int):recs (fun n:Int=>[.int .i64 n]) l=za5 .i64 l:=by
 induction l with
 |nil=>rfl
 |cons x l a=>rw[zhq,a];rfl
theorem Held.ints_{te:TypeId}(r:P.underlying t=some (.slice te))(p:P.cellsOf te=1)(a:P.bytesOf te=8)(hi:P.underlying te=some (.int .i64))(h:Held enc P W t cs):
 ∃A c,∃l:List Int,cs=[.slice A l.length c]/\l.length<=c/\c*8<=140737488351232/\Reads W W.heap.size 1 A l.length (za5 .i64 l)/\ ∀x∈l,-9223372036854775808<=x/\x<=9223372036854775807:=by
 obtain⟨A,c,l,i,j,_,k,m,o⟩:=h.recs (f:=fun n:Int=>[.int .i64 n]) (sz:=1) (by_:=8) (Q:=fun x=> -9223372036854775808<=x/\x<=9223372036854775807) 0 r p a (fun _=>rfl) (by omega) (fun cs q=>by obtain⟨n,b,d,g⟩:=q.i64 hi;exact⟨n,b,d,g⟩)
 exact⟨A,c,l,i,j,by unfold reachBytes at k;omega,by rw[<-z77];exact m,o⟩
theorem qj2{α:Type}{l:List α}(h:l.length=3):∃a b c,l=[a,b,c]:=by
 match l,h with
 | [a,b,c],_=>exact⟨a,b,c,rfl⟩
end
open Go Go.RowKit
section
variable{w w':World}{base sz n:Nat}{e:TypeId}{v:Value}{xs:List Value}
theorem z8o{B:Nat}(h:w.ownsRow base e sz v n xs)(j:Below B w w')(i:w.heap.size<=B):w'.ownsRow base e sz v n xs:=by
 refine⟨h.1,?_⟩;rcases h.2 with k|⟨g,c,d,rfl,f,b,rest⟩
 ·exact .inl k
 ·refine .inr ⟨g,c,d,rfl,f,?_,rest⟩
  rw[j.block g (qqv (qq2.1 b).1 i)];exact b
theorem zba(h:w.ownsRow base e sz v n xs)(b:New w w'):w'.ownsRow base e sz v n xs:=z8o h b (qq0 _)
theorem zfd{b':Nat}(h:w.ownsRow base e sz v n xs)(f:b'<=base):w.ownsRow b' e sz v n xs:=by
 refine⟨h.1,?_⟩;rcases h.2 with i|⟨g,b,c,j,d,rest⟩
 ·exact .inl i
 ·exact .inr ⟨g,b,c,j,qqs f d,rest⟩
theorem zes(h:w.ownsRow base e sz v n xs):∃A c,v= .slice A n c/\n<=c/\c<=maxLen:=by
 rcases h.2 with⟨b,k⟩|⟨g,d,f,b,_,_,i,j,_⟩
 ·exact⟨none,0,by rw[b,k],by omega,by simp[maxLen]⟩
 ·exact⟨_,_,b,i,j⟩
theorem zd8:w.ownsRow base e sz (.slice none 0 0) 0 []:=⟨by simp,.inl ⟨rfl,rfl⟩⟩
theorem zat{g:Nat}{t:TypeId}{cs:Array Value}(h:w.ownsRow base e sz v n xs)(j:Blk w g t cs)(b:e≠t):v.ownBlock≠some g:=by
 rcases h.2 with⟨rfl,_⟩|⟨f,c,d,rfl,_,k,_⟩
 ·simp[Value.ownBlock]
 ·intro i
  have:f=g:=by simpa[Value.ownBlock] using i
  subst this;exact qw2 (t:=e) k j b rfl
end
theorem z4e(a b c:Value)(n:Nat):(madeCells #[a,b,c] (n*3)).toList=(List.replicate n [a,b,c]).flatten:=by
 induction n with
 |zero=>simp[madeCells]
 |succ n f=>
  rw[qt4,qul,<-f];have e:∀m,m%3=0->(madeCells #[a,b,c] (m+3)).toList=(madeCells #[a,b,c] m).toList++[a,b,c]:=by intro m d;simp only[madeCells,qum,qun,quo,que,qrj,qrk,qrc,qr0,qrr,qrt,qr1,qub];rw[d,show(m+1)%3=1 by omega,show(m+2)%3=2 by omega];rfl
  rw[qsv,e (n*3) (by omega)];simp
section
variable{P:Program}{ops:Array Oper}{rest:List Oper}{o:Oper}{a:Act}{Q:Exit->Act->World->Prop}
theorem zd9{w:World}{t e:TypeId}{z:Value}{sz b:Nat}(E:ElT P t e z sz b)(y:o.guard=none)(s x:Operand)
 (M:o.op= .call {callee:= .builtin .append,args:= #[s,x],argTypes:= #[t,t]})
 {W:World}{B base n:Nat}{v:Value}{us xs:List Value}(d:w.ownsRow base e sz v n xs)(N:a.eval s=v)(R:a.eval x= .slice (some ⟨w.heap.size,0,none⟩) 1 1)
 (I:Below B W w)(p:B<=base)(f:base<=w.heap.size)(O:us.length=sz)(H:∀u∈us,u.oneCell'=true)
 (L:(n+1)*b<=140737488355328)(hm:n+1<=maxLen)
 (h:∀A' c' w',n+1<=c'->c'<=maxLen->w'.ownsRow base e sz (.slice A' (n+1) c') (n+1) (xs++us)->w.grownBy w' v.ownBlock->Below B W w'->w.heap.size<w'.heap.size->
  (Value.ownBlock (.slice A' (n+1) c')=v.ownBlock\/ ∃g,Value.ownBlock (.slice A' (n+1) c')=some g/\w.heap.size<=g)->wpList P ops Q rest (a.put o.dst (.slice A' (n+1) c')) w'):
 wpList P ops Q (o::rest) a (w.alloc (.cells us.toArray e)):=by
 obtain⟨i,J,C,D,F⟩:=info_parts E.hi;refine wpList_append_own_at _ y s x t M base e i z sz b E.ht J C D F E.hz E.hs v n xs N (qqk d _) ⟨w.heap.size,0,none⟩ 1 1 us R (by omega) ?_ H hm L (by simp;omega) ?_
 ·have:=qwe (heap_alloc_new w (.cells us.toArray e))
  simpa using this
 intro S w' c G _ m;obtain⟨A',c',rfl,q,r⟩:=zes c;have j:w.grownBy w' v.ownBlock:=(qwf w (.cells us.toArray e) v.ownBlock).trans G;have A:=G.size;simp at A;refine h A' c' w' q r c j (I.grown j (qqs p f) (fun k K=>by have:=(qqj d k K).1;omega)) (by omega) ?_;rcases m with l|l
 ·exact .inl l
 ·exact .inr ⟨_,l,by simp⟩
theorem z4f{w:World}{t e:TypeId}{x y z:Value}{b:Nat}(E:ElT P t e (.agg #[x,y,z]) 3 b)(j:o.guard=none)(q p:Operand)(H:o.op=Op.makeSlice t q p)
 {W:World}{B:Nat}{kl kc:IntKind}{L C:Int}(n:Nat)(G:a.eval q= .int kl L)(D:a.eval p= .int kc C)(u:L=(n:Int))(r:C=(n:Int))(A:Below B W w)(d:B<=w.heap.size)
 (I:n*b<=140737488355328)(hm:n<=maxLen)
 (h:∀w',w'.ownsRow w.heap.size e 3 (.slice (some ⟨w.heap.size,0,none⟩) n n) n (List.replicate n [x,y,z]).flatten->w.grownBy w' none->Below B W w'->w'.heap.size=w.heap.size+1->wpList P ops Q rest (a.put o.dst (.slice (some ⟨w.heap.size,0,none⟩) n n)) w'):
 wpList P ops Q (o::rest) a w:=by
 obtain⟨i,F,m,l,f⟩:=info_parts E.hi;subst u r;have k:(n:Int)<=9223372036854775807:=by have h:=hm;simp only[maxLen] at h;omega
 have g:(i.bytes:Int)*(n:Int)<=281474976710656:=by
  have h:((i.bytes*n:Nat):Int)<=281474976710656:=by rw[f,qrl];omega
  rwa[qrm] at h
 have c:=run_make (P:=P) w t e i (.agg #[x,y,z]) E.ht F m kl kc (n:Int) (n:Int) (by omega) (by omega) g k;rw[qrn,l] at c;refine wpList_plain j fun K s=>?_
 unfold Oper.wp;simp[execOp,H,G,D,c,Result.andThen];refine s _ _ (h _ ?_ (qwf _ _ _) (A.alloc d _) (by simp));refine⟨by simp,.inr ⟨_,n,_,rfl,qq0 _,heap_alloc_new w _,qq0 _,hm,by simp[size_madeCells],?_⟩⟩;rw[qru (by simp[size_madeCells])];exact z4e x y z n
end
theorem z8p{w w' W:World}{f g:Nat}(b:w.grownBy w' (some f))(c:w'.grownBy W (some g))(i:w.heap.size<=g):w.grownBy W (some f):=
 ⟨c.os.trans b.os,c.tape.trans b.tape,c.output.trans b.output,qqs b.size c.size,fun k h d=>(c.block k (qqv h b.size) (fun e=>by injection e with e;omega)).trans (b.block k h d)⟩
theorem zy8{w:World}{base:Nat}{e:TypeId}{g n c sz:Nat}{xs:List Value}(h:w.ownsRow base e sz (.slice (some ⟨g,0,none⟩) n c) n xs):∃cs,Blk w g e cs:=by
 rcases h.2 with⟨f,_⟩|⟨k,i,d,f,_,j,_⟩
 ·cases f
 ·injection f with b _ _
  injection b with b;injection b with b;subst b;exact⟨d,j⟩
theorem qeq{A B:List Value}{x y z a b c:Value}{m:Nat}(h:A.length=m):(((A++([x,y,z]++B)).set m a).set (m+1) b).set (m+2) c=A++([a,b,c]++B):=by subst h;rw[qsy _ _ (qq0 _),qsy _ _ (by omega),qsy _ _ (by omega)];simp
theorem qer{w:World}{base:Nat}{e:TypeId}{g n c m:Nat}{A B:List Value}{x y z a b d:Value}(h:w.ownsRow base e 3 (.slice (some ⟨g,0,none⟩) n c) n (A++([x,y,z]++B)))(hm:A.length=m):
 ∃W,W=((w.setCell ⟨g,m,none⟩ a).setCell ⟨g,m+1,none⟩ b).setCell ⟨g,m+2,none⟩ d/\W.ownsRow base e 3 (.slice (some ⟨g,0,none⟩) n c) n (A++([a,b,d]++B))/\w.grownBy W (some g):=by
 obtain⟨l,i⟩:=h.stored m a;obtain⟨p,j⟩:=l.stored (m+1) b;obtain⟨f,k⟩:=p.stored (m+2) d;rw[qeq hm] at f;exact⟨_,rfl,f,(i.trans j).trans k⟩
theorem z8q{w w':World}{g j:Nat}{ty:TypeId}{x y z a b c:Value}(h:Blk w' g ty #[x,y,z])(d:w.grownBy w' (some j))(l:w.heap.size<=g):
 ∃W3,W3=(((w'.setCell ⟨g,0,none⟩ a).setCell ⟨g,1,none⟩ b).setCell ⟨g,2,none⟩ c)/\Blk W3 g ty #[a,b,c]/\w.grownBy W3 (some j)/\ ∀k,k≠g->W3.heap[k]? =w'.heap[k]? :=by
 refine⟨_,rfl,by simpa using((h.set_ 0 a).set_ 1 b).set_ 2 c,⟨d.os,d.tape,d.output,by simpa[World.setCell] using d.size,fun k f i=>?_⟩,fun k f=>?_⟩
 ·rw[qwc _ _ _ _ (show k≠g by omega),qwc _ _ _ _ (show k≠g by omega),qwc _ _ _ _ (show k≠g by omega)]
  exact d.block k f i
 ·rw[qwc _ _ _ _ f,qwc _ _ _ _ f,qwc _ _ _ _ f]
theorem z4g{w:World}{row:Option Nat}:w.grownBy w.drew row:=⟨rfl,rfl,rfl,qq0 _,fun _ _ _=>rfl⟩
theorem z1o{b:World}{p:Addr}{u:Value}(h:b.cell? p=some u)(d:p.block<b.drew.heap.size):∀W,New b.drew W->W.cell? p=some u:=fun _ c=>(qwu c d).trans h
theorem Reads.litR(w:World)(e:TypeId)(cs:Array Value)(n sz:Nat)(xs:List Value)(h:cs.toList=xs)(b:xs.length=n*sz):Reads (w.alloc (.cells cs e)) (w.alloc (.cells cs e)).heap.size sz (some ⟨w.heap.size,0,none⟩) n xs:=by refine⟨b,fun _=>⟨_,rfl,by simp,?_⟩⟩;have:=qwe (heap_alloc_new w (.cells cs e));rwa[h] at this
abbrev qxk:=@Reads.litR
theorem Reads.pair2{w:World}{B n i:Nat}{A:Option Addr}{l:List (Int × Int)}(h:Reads w B 2 A n (zdy l))(hi:i<n):
 ∃ad,A=some ad/\ad.block<B/\w.cell? (ad.add (i*2))=some (.int .i64 (l.getD i (0,0)).1)/\w.cell? ⟨(ad.add (i*2)).block,(ad.add (i*2)).off+1,none⟩=some (.int .i64 (l.getD i (0,0)).2):=by
 obtain⟨ad,c,d,f,b⟩:=h.pair hi;rw[<-zbc] at b;exact⟨ad,c,d,f,b⟩
def pv:Nat->List Nat->Option (Nat × List Nat)
 |0,_=>none
 |_+1,[]=>none
 |f+1,b::r=>if b<128 then some (b,r) else
   match pv f r with
   |some (0,_)=>none
   |some (N+1,r')=>some (b-128+128*(N+1),r')
   |none=>none
theorem qmx:∀(f N:Nat) (r:List Nat),(vp N).length<=f->pv f (vp N++r)=some (N,r):=by
 intro f;induction f with
 |zero=>intro N r h;have:=zps N;omega
 |succ f c=>
  intro N r h;by_cases a:N<128
  ·rw[zgj a];simp[pv,a]
  ·rw[zgk a] at h⊢
   simp only[qr0,pv];rw[if_neg (by omega),c (N/128) r (by simpa using h)];obtain⟨m,b⟩:∃m,N/128=m+1:=⟨N/128-1,by omega⟩;simp only[b];congr 2
   omega
theorem qkl:∀(f N:Nat) (l r:List Nat),(∀x∈l,x<256)->pv f l=some (N,r)->l=vp N++r/\(vp N).length<=f:=by
 intro f;induction f with
 |zero=>intro N l r _ h;simp[pv] at h
 |succ f k=>
  intro N l r c h;cases l with
  |nil=>simp[pv] at h
  |cons b s=>
   simp only[pv] at h;by_cases a:b<128
   ·rw[if_pos a] at h
    simp only[qqh,qqg] at h;obtain⟨rfl,rfl⟩:=h;rw[zgj a];simp
   ·rw[if_neg a] at h
    split at h
    ·simp at h
    ·rename_i M m g
     simp only[qqh,qqg] at h;obtain⟨rfl,rfl⟩:=h;obtain⟨d,e⟩:=k _ _ _ (fun x j=>c x (by simp[j])) g;have i:=c b (by simp);rw[zgk (by omega),show(b-128+128*(M+1))/128=M+1 by omega,show(b-128+128*(M+1))%128+128=b by omega,qr0,<-d];refine⟨rfl,by simp;exact e⟩
    ·simp at h
def gv(l:List Nat):Option (Nat × List Nat):=
 match pv 10 l with
 |some (N,r)=>if N<18446744073709551616 then some (N,r) else none
 |none=>none
theorem qim(N:Nat)(r:List Nat)(a:N<18446744073709551616):gv (vp N++r)=some (N,r):=by unfold gv;rw[qmx 10 N r (zae a)];simp[a]
theorem zzl{l r:List Nat}{N:Nat}(a:∀x∈l,x<256)(h:gv l=some (N,r)):l=vp N++r/\N<18446744073709551616:=by
 unfold gv at h;split at h
 ·rename_i M s b
  split at h
  ·simp only[qqh,qqg] at h
   obtain⟨rfl,rfl⟩:=h;exact⟨(qkl _ _ _ _ a b).1,‹_›⟩
  ·cases h
 ·cases h
theorem qkm{l:List Nat}(h:gv l=none):∀N r,l=vp N++r->18446744073709551616<=N:=by
 intro N r b;rcases qq4 N 18446744073709551616 with a|a
 ·rw[b,qim N r a] at h
  cases h
 ·exact a
abbrev St:=Option (List Nat)
def zk3:St->Nat × St
 |none=>(0,none)
 |some l=>match gv l with
  |some (N,r)=>(N,some r)
  |none=>(0,none)
def lenS(m:Int)(S:St):Nat × St:=
 match zk3 S with
 |(N,some r)=>if(N:Int)<=m then(N,some r) else(0,none)
 |(_,none)=>(0,none)
def zbn:St->Nat × St
 |some (b::r)=>(b,some r)
 |_=>(0,none)
def zcv(n:Int):St->List Nat × St
 |some l=>if 0<=n/\n<=(l.length:Int) then(l.take n.toNat,some (l.drop n.toNat)) else([],none)
 |none=>([],none)
def z7k(S:St):Bool:=decide (S=some [])
def St.ok(S:St):Prop:=∀l,S=some l-> ∀x∈l,x<256
theorem St.ok_none:St.ok none:=fun _ h=>by cases h
abbrev qxo:=@St.ok_none
theorem St.ok_some{l:List Nat}(h:∀x∈l,x<256):St.ok (some l):=fun _ e=>by injection e with e;subst e;exact h
abbrev qxp:=@St.ok_some
theorem zj5(N:Nat)(r:List Nat)(a:N<18446744073709551616):zk3 (some (vp N++r))=(N,some r):=by simp[zk3,qim N r a]
theorem zb9(N:Nat)(r:List Nat){m:Int}(a:(N:Int)<=m)(hm:m<=9223372036854775807):lenS m (some (vp N++r))=(N,some r):=by simp only[lenS,zj5 N r (by omega),if_pos a]
theorem zhu(m:Int):lenS m none=(0,none):=rfl
theorem z85:zk3 none=(0,none):=rfl
theorem zj6:zbn none=(0,none):=rfl
theorem zeh(n:Int):zcv n none=([],none):=rfl
theorem zbx(m:Int)(S:St)(c:S.ok):lenS m S=(0,none)\/ ∃N r,S=some (vp N++r)/\(N:Int)<=m/\N<18446744073709551616/\lenS m S=(N,some r):=by
 unfold lenS zk3;cases S with
 |none=>exact .inl rfl
 |some l=>
  simp only;cases hg:gv l with
  |none=>exact .inl rfl
  |some p=>
   obtain⟨N,r⟩:=p;obtain⟨a,b⟩:=zzl (c l rfl) hg;simp only;split
   ·exact .inr ⟨N,r,by rw[a],‹_›,b,rfl⟩
   ·exact .inl rfl
theorem zj7(S:St)(c:S.ok):zk3 S=(0,none)\/ ∃N r,S=some (vp N++r)/\N<18446744073709551616/\zk3 S=(N,some r):=by
 unfold zk3;cases S with
 |none=>exact .inl rfl
 |some l=>
  simp only;cases hg:gv l with
  |none=>exact .inl rfl
  |some p=>
   obtain⟨N,r⟩:=p;obtain⟨a,b⟩:=zzl (c l rfl) hg;exact .inr ⟨N,r,by rw[a],b,rfl⟩
theorem zcl(n:Int)(S:St):zcv n S=([],none)\/ ∃l,S=some l/\0<=n/\n<=(l.length:Int)/\zcv n S=(l.take n.toNat,some (l.drop n.toNat)):=by
 unfold zcv;cases S with
 |none=>exact .inl rfl
 |some l=>
  simp only;split
  ·rename_i h;exact .inr ⟨l,rfl,h.1,h.2,rfl⟩
  ·exact .inl rfl
theorem zea(a b:List Nat):zcv (a.length:Int) (some (a++b))=(a,some b):=by simp only[zcv];rw[if_pos ⟨by omega,by rw[qrp];omega⟩];simp
theorem zdo{m:Int}(S:St)(hm:0<=m)(b:S.ok):((lenS m S).1:Int)<=m:=by
 rcases zbx m S b with h|⟨N,r,_,a,_,h⟩
 ·rw[h];exact hm
 ·rw[h];exact a
theorem zbo{m:Int}{S:St}(a:S.ok):(lenS m S).2.ok:=by
 rcases zbx m S a with h|⟨N,r,b,_,_,h⟩
 ·rw[h];exact qxo
 ·rw[h];exact qxp fun x c=>a _ b x (by simp[c])
theorem zun{S:St}(a:S.ok):(zk3 S).2.ok:=by
 rcases zj7 S a with h|⟨N,r,b,_,h⟩
 ·rw[h];exact qxo
 ·rw[h];exact qxp fun x c=>a _ b x (by simp[c])
theorem zzm{S:St}(b:S.ok):(zk3 S).1<18446744073709551616:=by
 rcases zj7 S b with h|⟨N,r,c,a,h⟩
 ·rw[h];decide
 ·rw[h];exact a
theorem zo8{S:St}(a:S.ok):(zbn S).2.ok:=by
 unfold zbn;split
 ·exact qxp fun x b=>a _ rfl x (by simp[b])
 ·exact qxo
theorem zo9{S:St}(a:S.ok):(zbn S).1<256:=by
 unfold zbn;split
 ·exact a _ rfl _ (by simp)
 ·decide
theorem zf8{n:Int}{S:St}(c:S.ok):(zcv n S).2.ok/\ ∀x∈(zcv n S).1,x<256:=by
 rcases zcl n S with h|⟨l,b,_,_,h⟩
 ·rw[h];exact⟨qxo,by simp⟩
 ·rw[h];exact⟨qxp fun x a=>c _ b x (qte a),fun x a=>c _ b x (qro a)⟩
theorem zqf{n:Int}{S:St}(a:0<=n):((zcv n S).1.length:Int)<=n:=by
 rcases zcl n S with h|⟨l,_,b,c,h⟩
 ·rw[h];simpa using a
 ·rw[h,qqx];omega
theorem zev{m:Int}{S:St}(a:S.ok):((lenS m S).2.getD []).length<=(S.getD []).length:=by
 rcases zbx m S a with h|⟨N,r,rfl,_,_,h⟩
 ·rw[h];simp
 ·rw[h];simp
theorem zwj{S:St}:((zbn S).2.getD []).length<=(S.getD []).length:=by unfold zbn;split<;> simp
open Go Go.RowKit
abbrev za2:=List Nat × Int × Bool
def zle(c:za2):List Value:=[.string (zaf c.1),.int .i64 c.2.1,.bool c.2.2]
theorem Reads.colT{w:World}{B n i:Nat}{A:Option Addr}{l:List za2}(h:Reads w B 3 A n (recs zle l))(hi:i<n):
 ∃ad,A=some ad/\ad.block<B/\w.cell? (ad.add (i*3))=some (.string (zaf (l.getD i ([],0,false)).1))/\w.cell? ⟨(ad.add (i*3)).block,(ad.add (i*3)).off+1,none⟩=some (.int .i64 (l.getD i ([],0,false)).2.1)/\w.cell? ⟨(ad.add (i*3)).block,(ad.add (i*3)).off+2,none⟩=some (.bool (l.getD i ([],0,false)).2.2):=by
 obtain⟨ad,b,c,_,a⟩:=h.rec_ (f:=zle) (sz:=3) (fun _=>rfl) ([],0,false) hi (by omega);refine⟨ad,b,c,a 0 _ rfl,?_,?_⟩
 ·have:=a 1 _ rfl
  rw[<-zbc] at this;exact this
 ·have:=a 2 _ rfl
  rw[<-zbc] at this;exact this
theorem Reads.lenC{w:World}{B n:Nat}{A:Option Addr}{l:List za2}(h:Reads w B 3 A n (recs zle l)):n=l.length:=h.lenR (f:=zle) (sz:=3) (fun _=>rfl) (by omega)
theorem zan{w:World}{g:Nat}{ty:TypeId}{x y z:Value}(h:Blk w g ty #[x,y,z]):w.cell? ⟨g,0,none⟩=some x/\w.cell? ⟨g,1,none⟩=some y/\w.cell? ⟨g,2,none⟩=some z:=by have a:=h.cell 0;have b:=h.cell 1;have c:=h.cell 2;simp at a b c;exact⟨a,b,c⟩
open Go Go.RowKit
abbrev zab:=Bool × Int × List Nat × Int × Int
def zay(c:zab):List Value:=[.bool c.1,.int .i64 c.2.1,.string (zaf c.2.2.1),.int .i64 c.2.2.2.1,.int .i64 c.2.2.2.2]
def zbb:zab:=(false,0,[],0,0)
def zde(c:zab):Value:= .agg (zay c).toArray
def inBox(x y:Int):Bool:=decide (-1048576<=x)&&decide (x<=1048576)&&decide (-1048576<=y)&&decide (y<=1048576)
def zad(c:zab)(t:Int)(nu:Bool):Bool:=
 if c.1 then nu&&decide (c.2.1=0/\c.2.2.1=[]/\c.2.2.2.1=0/\c.2.2.2.2=0)
 else if t=0 then decide (c.2.2.1=[]/\c.2.2.2.1=0/\c.2.2.2.2=0)
 else if t=1 then decide ((c.2.2.1=[]/\c.2.2.2.1=0/\c.2.2.2.2=0)/\(c.2.1=0\/c.2.1=1))
 else if t=2 then decide ((c.2.1=0/\c.2.2.2.1=0/\c.2.2.2.2=0)/\c.2.2.1.length<=65536)
 else if t=3 then decide (c.2.1=0/\c.2.2.1=[])&&inBox c.2.2.2.1 c.2.2.2.2
 else false
theorem zc3{w:World}{g:Nat}{ty:TypeId}{a b c d e:Value}(h:Blk w g ty #[a,b,c,d,e]):w.cell? ⟨g,0,none⟩=some a/\w.cell? ⟨g,1,none⟩=some b/\w.cell? ⟨g,2,none⟩=some c/\w.cell? ⟨g,3,none⟩=some d/\w.cell? ⟨g,4,none⟩=some e:=by have f:=h.cell 0;have i:=h.cell 1;have j:=h.cell 2;have k:=h.cell 3;have l:=h.cell 4;simp at f i j k l;exact⟨f,i,j,k,l⟩
theorem zb3{w:World}{g:Nat}{ty:TypeId}{a b:Value}(h:Blk w g ty #[a,b]):w.cell? ⟨g,0,none⟩=some a/\w.cell? ⟨g,1,none⟩=some b:=by have c:=h.cell 0;have d:=h.cell 1;simp at c d;exact⟨c,d⟩
theorem Reads.cell5{w:World}{B n i:Nat}{A:Option Addr}{l:List zab}(h:Reads w B 5 A n (recs zay l))(hi:i<n):
 ∃ad,A=some ad/\ad.block<B/\w.cell? (ad.add (i*5))=some (.bool (l.getD i (false,0,[],0,0)).1)/\w.cell? ⟨(ad.add (i*5)).block,(ad.add (i*5)).off+1,none⟩=some (.int .i64 (l.getD i (false,0,[],0,0)).2.1)
  /\w.cell? ⟨(ad.add (i*5)).block,(ad.add (i*5)).off+2,none⟩=some (.string (zaf (l.getD i (false,0,[],0,0)).2.2.1))/\w.cell? ⟨(ad.add (i*5)).block,(ad.add (i*5)).off+3,none⟩=some (.int .i64 (l.getD i (false,0,[],0,0)).2.2.2.1)
  /\w.cell? ⟨(ad.add (i*5)).block,(ad.add (i*5)).off+4,none⟩=some (.int .i64 (l.getD i (false,0,[],0,0)).2.2.2.2):=by
 obtain⟨ad,b,c,_,a⟩:=h.rec_ (f:=zay) (sz:=5) (fun _=>rfl) (false,0,[],0,0) hi (by omega);refine⟨ad,b,c,a 0 _ rfl,?_,?_,?_,?_⟩
 ·have:=a 1 _ rfl
  rw[<-zbc] at this;exact this
 ·have:=a 2 _ rfl
  rw[<-zbc] at this;exact this
 ·have:=a 3 _ rfl
  rw[<-zbc] at this;exact this
 ·have:=a 4 _ rfl
  rw[<-zbc] at this;exact this
theorem Reads.lenCell{w:World}{B n:Nat}{A:Option Addr}{l:List zab}(h:Reads w B 5 A n (recs zay l)):n=l.length:=h.lenR (f:=zay) (sz:=5) (fun _=>rfl) (by omega)
end Go.Hm
namespace Go.Proofs.Y
open Go.RowKit Go.Hm
theorem z4v{w:World}(x y:Int):
 Calls Tryz.prog 124 #[.agg #[.int .i64 x,.int .i64 y],.int .i64 1048576] w (zap (.bool (inBox x y)) w):=by
 obtain⟨d,a⟩:∃W,W=w.alloc (.cells #[.int .i64 x,.int .i64 y] 73):=⟨_,rfl⟩;have e:New w d:=by rw[a];exact(qwd _ _).alloc (qq0 _) _
 have b:Blk d w.heap.size 73 #[.int .i64 x,.int .i64 y]:=by rw[a];exact qw1 _ _ _
 obtain⟨f,g⟩:=zb3 b;have c:=qwk (show inBox x y=(decide (-1048576<=x)&&decide (x<=1048576)&&decide (-1048576<=y)&&decide (y<=1048576)) from rfl);generalize inBox x y=O at*;rw[a] at f g;clear b;cases h1:decide (-1048576<=x)<;> cases h2:decide (x<=1048576)<;> cases h3:decide (-1048576<=y)<;> cases h4:decide (y<=1048576);all_goals
  rw[h1,h2,h3,h4] at c;go_enter Tryz.func124,Tryz.ntmps124
  go_wp2
  go_ret
  exact⟨by rw[c.out];rfl,by rw[<-a];exact e⟩
theorem zsx{w:World}(x y:Int):
 Calls Tryz.prog 107 #[.agg #[.int .i64 x,.int .i64 y]] w (zap (.bool (inBox x y)) w):=by
 obtain⟨c,a⟩:∃W,W=w.alloc (.cells #[.int .i64 x,.int .i64 y] 73):=⟨_,rfl⟩;have d:New w c:=by rw[a];exact(qwd _ _).alloc (qq0 _) _
 have b:Blk c w.heap.size 73 #[.int .i64 x,.int .i64 y]:=by rw[a];exact qw1 _ _ _
 obtain⟨g,h⟩:=zb3 b;rw[a] at g h;clear b;go_enter Tryz.func107,Tryz.ntmps107
 go_wp2_with (first
  |(go_at_call 124;refine(z4v x y).mono ?_;rintro e i ⟨rfl,f⟩))
 go_ret
 exact⟨rfl,qw5 d (by rw[a];exact f)⟩
end Go.Proofs.Y
namespace Go.Hm
open Go Go.RowKit
abbrev nm(l:List za2)(i:Nat):List Nat:=(l.getD i ([],0,false)).1
def zns(a:List za2)(s:List Nat):Prop:=s.length=0\/100<s.length\/s∈a.map (·.1)
instance(a:List za2)(s:List Nat):Decidable (zns a s):=by unfold zns;exact inferInstance
def zmo(a:List za2)(s:List Nat)(t:Int):Int:=if zns a s then 1 else if 0<=t/\t<=3 then 0 else 3
def zhe(a:List za2):List za2->Int
 | []=>0
 |c::l=>if zmo a c.1 c.2.1=0 then zhe (a++[c]) l else zmo a c.1 c.2.1
def zcz(l:List za2):Int:=if 64<l.length then 4 else zhe [] l
theorem z0g{l:List za2}(h:64<l.length):zcz l=4:=by rw[zcz,if_pos h]
theorem z5y{l:List za2}(h: ¬64<l.length):zcz l=zhe (l.take 0) (l.drop 0):=by rw[zcz,if_neg h];rfl
theorem z0h(l:List za2)(k:Nat)(h:k<l.length):zhe (l.take k) (l.drop k)=if zmo (l.take k) (nm l k) (l.getD k ([],0,false)).2.1=0 then zhe (l.take (k+1)) (l.drop (k+1)) else zmo (l.take k) (nm l k) (l.getD k ([],0,false)).2.1:=by rw[zky l k ([],0,false) h,zhe,zac l k ([],0,false) h]
theorem z5z(l:List za2):zhe (l.take l.length) (l.drop l.length)=0:=by rw[qvi];rfl
theorem zxh{l:List za2}{s:List Nat}{k:Nat}(a:k<l.length):s∈(l.take (k+1)).map (·.1)↔s∈(l.take k).map (·.1)\/nm l k=s:=by rw[zac l k ([],0,false) a,que,qr5];simp[eq_comm,nm]
end Go.Hm
namespace Go.Proofs.Y
open Go.RowKit Go.Hm
theorem qp3(a b:List Nat)(c:∀x∈a,x<256)(d:∀x∈b,x<256):((zaf a).toList==(zaf b).toList)=decide (a=b):=zg2 c d
theorem zxi{w:World}{A:Option Addr}{n c:Nat}{L:List za2}{s:List Nat}{t:Int}{nu:Bool}(h:Reads w w.heap.size 3 A n (recs zle L))(R:∀x∈L,∀z∈x.1,z<256)(U:∀z∈s,z<256)(V:s.length<=140737488351232)(hn:n<=4611686018427387903):
 Calls Tryz.prog 106 #[.slice A n c,.agg #[.string (zaf s),.int .i64 t,.bool nu]] w (zap (.int .i64 (zmo L s t)) w):=by
 obtain rfl:=h.lenC;have z1:=zbq s;have f:=qwk (fun(b:zns L s)=>show zmo L s t=1 by rw[zmo,if_pos b]);have l:=qwk (fun(b: ¬zns L s)=>show zmo L s t=if 0<=t/\t<=3 then 0 else 3 by rw[zmo,if_neg b]);generalize zmo L s t=O at*;obtain⟨C,a⟩:∃W,W=w.alloc (.cells #[.string (zaf s),.int .i64 t,.bool nu] 71):=⟨_,rfl⟩;have r:New w C:=by rw[a];exact(qwd _ _).alloc (qq0 _) _
 have p:Blk C w.heap.size 71 #[.string (zaf s),.int .i64 t,.bool nu]:=by rw[a];exact qw1 _ _ _
 obtain⟨v,y,B⟩:=zan p;rw[a] at v y B;by_cases m:s.length=0
 ·have g:=qwk (f.out (.inl m))
  have P:((s.length:Int)==0)=true:=by simp[m]
  clear m f l p h;go_enter Tryz.func106,Tryz.ntmps106
  go_wp2
  go_ret
  exact⟨by rw[g.out];rfl,by rw[<-a];exact r⟩
 ·have P:((s.length:Int)==0)=false:=beq_eq_false_iff_ne.2 (by omega)
  by_cases E:100<s.length
  ·have g:=qwk (f.out (.inr (.inl E)))
   have Q:decide (100<(s.length:Int))=true:=by simp;omega
   clear m f l p h;go_enter Tryz.func106,Tryz.ntmps106
   go_wp2
   go_ret
   exact⟨by rw[g.out];rfl,by rw[<-a];exact r⟩
  ·have Q:decide (100<(s.length:Int))=false:=by simp;omega
   have f:=qwk (fun(b:s∈L.map (·.1))=>f.out (.inr (.inr b)));have l:=qwk (fun(b:s∉L.map (·.1))=>l.out (fun j=>by rcases j with j|j|j;exact m j;exact E j;exact b j));have Z:=qxj h r;clear m E h;go_enter Tryz.func106,Tryz.ntmps106
   go_wp2
   rw[<-a];clear v y B a;go_loopw [19] (fun i wr=>∃k:Nat,i= .int .i64 (k:Int)/\k<=L.length/\New C wr/\Hid (s∉(L.take k).map (·.1))) (fun i _=>L.length-(intOf i).toNat)
   case atStart=>exact⟨0,rfl,by omega,qw4 _,qwk (by simp)⟩
   case round=>
    obtain⟨k,rfl,hk,u,H⟩:=hrel;have I:=p.below u p.lt;obtain⟨v,y,B⟩:=zan I;by_cases d:k<L.length
    ·obtain⟨ad,rfl,S,c0,c1,c2⟩:=(qxj Z u).colT d
     have M:=qwk (zxh (s:=s) d);have K:=qp3 (nm L k) s (by rw[nm,qsh,qqt d];exact R _ (qrf d)) U;have N:=qwk (show nm L k=s->s∈L.map (·.1) from fun e=>by have:=(zxh (s:=s) d).2 (.inr e);exact qro (by rwa[List.map_take] at this))
     unfold nm at*;generalize(L.getD k ([],0,false)).1=D at*;generalize(L.getD k ([],0,false)).2.1=G at*;generalize(L.getD k ([],0,false)).2.2=F at*;have X:=qwk (zan (I.alloc (.cells #[.string (zaf D),.int .i64 G,.bool F] 71)));have Y:=qwk (zan (qw1 wr 71 #[.string (zaf D),.int .i64 G,.bool F]));have T:(k:Int)<(L.length:Int):=by omega
     have J:New C (wr.alloc (.cells #[.string (zaf D),.int .i64 G,.bool F] 71)):=Below.alloc u u.size _;obtain⟨q0,q1,q2⟩:=X.out;obtain⟨p0,p1,p2⟩:=Y.out;by_cases o:D=s
     ·rw[decide_eq_true o] at K
      have g:=qwk (f.out (N.out o));clear o v y B;go_wp2
      go_ret
      exact⟨by rw[g.out];rfl,qw5 r J⟩
     ·rw[decide_eq_false o] at K
      have q:=qwk (show s∉(L.take (k+1)).map (·.1) from fun b=>by
       rcases M.out.1 b with b|b
       ·exact H.out b
       ·exact o b)
      clear o v y B;go_wp2
      go_roundw
      case rel=>exact⟨k+1,by go_num,by omega,J,q⟩
      case measure=>simp[intOf];omega
    ·obtain rfl:k=L.length:=by omega
     have q:=H.out;rw[quw] at q;have g:=qwk (l.out q);clear H q f l;go_wp2
     all_goals go_ret
     all_goals
      simp only[beq_iff_eq,beq_eq_false_iff_ne,ne_eq] at*;refine⟨?_,qw5 r u⟩;rw[g.out];first
       |(rw[if_pos (by omega)];rfl)
       |(rw[if_neg (by omega)];rfl)
theorem zpi{w:World}{A:Option Addr}{n c:Nat}{L:List za2}(h:Reads w w.heap.size 3 A n (recs zle L))(F:∀x∈L,(∀z∈x.1,z<256)/\x.1.length<=140737488351232)(hc:n<=c)(hn:n<=4611686018427387903):
 Calls Tryz.prog 81 #[.slice A n c] w (zap (.int .i64 (zcz L)) w):=by
 obtain rfl:=h.lenC;by_cases I:64<L.length
 ·rw[z0g I]
  go_enter Tryz.func81,Tryz.ntmps81
  go_wp2
  go_ret
  exact⟨rfl,qw4 _⟩
 ·have T:=qwk (z5y I)
  generalize zcz L=O at*;go_enter Tryz.func81,Tryz.ntmps81
  go_wp2
  go_loopw [11] (fun i wr=>∃k:Nat,i= .int .i64 (k:Int)/\k<=L.length/\New w wr/\Hid (O=zhe (L.take k) (L.drop k))) (fun i _=>L.length-(intOf i).toNat)
  case atStart=>exact⟨0,rfl,by omega,qw4 _,T⟩
  case round=>
   obtain⟨k,rfl,hk,m,H⟩:=hrel;by_cases d:k<L.length
   ·have y:=qxj h m
    obtain⟨X,rfl,U,Z,c1,c2⟩:=y.colT d;have o:(L.getD k ([],0,false))∈L:=by rw[qsh,qqt d];exact qrf d
    obtain⟨Q,R⟩:=F _ o;have B:=y.take (k:=k) (by omega);rw[zjd (f:=zle) (sz:=3) (fun _=>rfl) L k (by omega)] at B;have S:=H.out;rw[z0h L k d] at S;have P:=fun(W:World) (s:New wr W)=>zxi (c:=c) (t:=(L.getD k ([],0,false)).2.1) (nu:=(L.getD k ([],0,false)).2.2) (qxj B s) (fun x o=>(F x (qro o)).1) Q R (by omega)
    have P:=qwk P;generalize u:zmo (L.take k) (L.getD k ([],0,false)).1 (L.getD k ([],0,false)).2.1=q at*;have C:=qwk S;generalize(L.getD k ([],0,false)).1=M at*;generalize(L.getD k ([],0,false)).2.1=N at*;generalize(L.getD k ([],0,false)).2.2=J at*;clear S u H o Q R y B;have V:(k:Int)<(L.length:Int):=by omega
    have G:(k:Int)<=(c:Int):=by omega
    obtain⟨g,b⟩:∃W,W=wr.alloc (.cells #[.string (zaf M),.int .i64 N,.bool J] 71):=⟨_,rfl⟩;have D:New wr g:=by rw[b];exact(qwd _ _).alloc (qq0 _) _
    have Y:Blk g wr.heap.size 71 #[.string (zaf M),.int .i64 N,.bool J]:=by rw[b];exact qw1 _ _ _
    go_wp2_with fail
    rw[<-b];clear b;refine zav New [(true,0),(true,1),(true,2),(true,3),(false,4),(true,5)]
     qw4 qw5 (by kernel_rfl) (by kernel_rfl) (by kernel_rfl) (by kernel_rfl) ?_
    have j:=qw5 D (qw6 g);have r:=qw4 g.drew;repeat(first
     |(refine za7 rfl rfl (fun K E=>?_);go_simp
       (with_reducible refine(P.out _ j).mono ?_)
       rintro e w9 ⟨rfl,p⟩;refine E _ _ p ?_;clear E;replace j:=qw5 j p;replace r:=qw5 r p)
     |(refine zas rfl rfl (v:=?_) (fun W s=>?_) ?_;rotate_left;(obtain⟨x0,x1,x2⟩:=zan (Y.below (qw5 (qw6 g) (qw5 r s)) Y.lt);go_simp<;> with_reducible rfl);simp only[Act.put,qta,qs1,qtb]))
    refine zdr ?_;clear Y D P;by_cases l:q=0
    ·have a:=qwk (show O=zhe (L.take (k+1)) (L.drop (k+1)) by rw[C.out,if_pos l])
     subst l;go_wp2
     go_roundw
     case rel=>exact⟨k+1,by go_num,by omega,qw5 m j,a⟩
     case measure=>simp[intOf];omega
    ·have a:=qwk (show O=q by rw[C.out,if_neg l])
     have e1:(q != 0)=true:=by simpa using l
     clear l;go_wp2
     go_ret
     exact⟨by rw[a.out];rfl,qw5 m j⟩
   ·obtain rfl:k=L.length:=by omega
    have a:=qwk (show O=0 by rw[H.out,z5z]);go_wp2
    go_ret
    exact⟨by rw[a.out];rfl,m⟩
end Go.Proofs.Y
namespace Go.Hm
open Go Go.RowKit
section
variable{P:Program}{ops:Array Oper}{rest:List Oper}{o:Oper}{a:Act}{Q:Exit->Act->World->Prop}
theorem qg4(z:Value)(b:z.oneCell'=true)(n:Nat):madeCells z.cells n=(List.replicate n z).toArray:=by
 have c:z.cells= #[z]:=by
  revert b;unfold Value.oneCell' Value.cells
  cases z<;> simp
 rw[c];apply Array.toList_inj.1;rw[toList_madeCells_one]
theorem qbr{w:World}{t e:TypeId}{z:Value}{b:Nat}(E:ElT P t e z 1 b){kl kc:IntKind}(n:Nat)(l:z.oneCell'=true)(p:n*b<=140737488355328)(hm:n<=maxLen):
 (Instr.makeSlice t (.int kl (n:Int)) (.int kc (n:Int))).run P w= .ok (.slice (some ⟨w.heap.size,0,none⟩) n n) (w.alloc (.cells (List.replicate n z).toArray e)):=by
 obtain⟨i,m,k,j,d⟩:=info_parts E.hi;have g:(n:Int)<=9223372036854775807:=by have h:=hm;simp only[maxLen] at h;omega
 have f:(i.bytes:Int)*(n:Int)<=281474976710656:=by
  have h:((i.bytes*n:Nat):Int)<=281474976710656:=by rw[d,qrl];omega
  rwa[qrm] at h
 have c:=run_make (P:=P) w t e i z E.ht m k kl kc (n:Int) (n:Int) (by omega) (by omega) f g;rw[qrn,j,qq7,qg4 z l] at c;exact c
theorem znx{w:World}{t e:TypeId}{z:Value}{b:Nat}(E:ElT P t e z 1 b)(d:o.guard=none)(i g:Operand)(r:o.op=Op.makeSlice t i g)
 {kl kc:IntKind}{L C:Int}(n:Nat)(p:a.eval i= .int kl L)(m:a.eval g= .int kc C)(l:L=(n:Int))(j:C=(n:Int))
 (f:z.oneCell'=true)(q:n*b<=140737488355328)(hm:n<=maxLen)
 (h:∀w',Blk w' w.heap.size e (List.replicate n z).toArray->New w w'->w'.heap.size=w.heap.size+1->wpList P ops Q rest (a.put o.dst (.slice (some ⟨w.heap.size,0,none⟩) n n)) w'):
 wpList P ops Q (o::rest) a w:=by
 subst l j;have c:=qbr (w:=w) E (kl:=kl) (kc:=kc) n f q hm;refine wpList_plain d fun K k=>?_
 unfold Oper.wp;simp[execOp,r,p,m,c,Result.andThen];exact k _ _ (h _ (by simpa using qw1 w e (List.replicate n z).toArray) ((qwd _ _).alloc (qq0 _) _) (by simp))
theorem qbs{w:World}{K:Act->World->Prop}{t e:TypeId}{z:Value}{b:Nat}(E:ElT P t e z 1 b)(g f:Operand)(p:o.op=Op.makeSlice t g f)
 {kl kc:IntKind}{L C:Int}(n:Nat)(l:a.eval g= .int kl L)(k:a.eval f= .int kc C)(j:L=(n:Int))(i:C=(n:Int))
 (d:z.oneCell'=true)(m:n*b<=140737488355328)(hm:n<=maxLen)
 (h:∀w',Blk w' w.heap.size e (List.replicate n z).toArray->New w w'->w'.heap.size=w.heap.size+1->K (a.put o.dst (.slice (some ⟨w.heap.size,0,none⟩) n n)) w'):
 o.wp P a w K Q:=by
 subst j i;have c:=qbr (w:=w) E (kl:=kl) (kc:=kc) n d m hm;unfold Oper.wp;simp[execOp,p,l,k,c,Result.andThen];exact h _ (by simpa using qw1 w e (List.replicate n z).toArray) ((qwd _ _).alloc (qq0 _) _) (by simp)
theorem z6f{w:World}{ty t:TypeId}{g i:Nat}{u:Value}{cs:Array Value}(d:Blk w g t cs)(b:i<cs.size)(hi:(P.info? ty).map (·.size)=some 1)(c:u.oneCell'=true):
 (storeVar ty ⟨g,i,none⟩ u).run P w= .ok () (w.setCell ⟨g,i,none⟩ u):=by
 have h:u.cells= #[u]:=by cases u<;> first|rfl|cases c
 have:=run_storeCells_cells (P:=P) g i [u] 0 w (fun j e=>by
  obtain rfl:j=0:=by simpa using e
  rw[d.cell,quc,qus b];rfl) (fun j e=>d.frozen _) (fun v f=>by simp at f;subst f;exact c)
 cases hq:P.info? ty with
 |none=>simp[hq] at hi
 |some x=>
  have k:x.size=1:=by simpa[hq] using hi
  simp only[quc] at this;simp[storeVar,sizeOf,typeInfo,hq,h,k,this];rfl
theorem zm2{w:World}{K:Act->World->Prop}(ty:TypeId)(x y:Operand)(j:o.op= .store ty x y)
 (g i:Nat)(u:Value)(l:a.eval x= .pointer (some ⟨g,i,none⟩))(m:a.eval y=u){t:TypeId}{cs:Array Value}(d:Blk w g t cs)(b:i<cs.size)(hi:(P.info? ty).map (·.size)=some 1)(f:u.oneCell'=true)
 (h:∀W,Blk W g t (cs.setIfInBounds i u)->w.grownBy W (some g)->W.heap.size=w.heap.size->K (a.put o.dst undef) W):o.wp P a w K Q:=by
 unfold Oper.wp execOp;simp only[j,l,m,Instr.storeAt,Instr.sureAddr,qwg,qwh,qwi,z6f d b hi f];refine h _ (d.set_ i u) ⟨rfl,rfl,rfl,by simp[World.setCell],fun k _ c=>qwc _ _ _ _ (fun e=>c (by rw[e]))⟩ (by simp[World.setCell])
theorem zfh{w:World}(c:o.guard=none)(ty:TypeId)(x y:Operand)(k:o.op= .store ty x y)
 (g i:Nat)(u:Value)(l:a.eval x= .pointer (some ⟨g,i,none⟩))(m:a.eval y=u){t:TypeId}{cs:Array Value}(f:Blk w g t cs)(d:i<cs.size)(hi:(P.info? ty).map (·.size)=some 1)(e:u.oneCell'=true)
 (h:∀W,Blk W g t (cs.setIfInBounds i u)->w.grownBy W (some g)->W.heap.size=w.heap.size->wpList P ops Q rest (a.put o.dst undef) W):wpList P ops Q (o::rest) a w:=
 wpList_plain c fun _ j=>zm2 ty x y k g i u l m f d hi e (fun W b g s=>j _ _ (h W b g s))
end
end Go.Hm
