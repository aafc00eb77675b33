import Derived.Lib.AppendZeros
import Derived.Lib.Bytealg
import Derived.Test.YtbahbnbpmfgimaaGreatDoorBun8
import Derived.Test.YtbahbnbpmfgimaaGreatDoorBun9
set_option maxHeartbeats 2000000
set_option maxRecDepth 100000
namespace Go.Hm
open Go Go.RowKit
theorem zaz{w:World}{g i:Nat}{x:Value}:w.grownBy (w.setCell ⟨g,i,none⟩ x) (some g):=
 ⟨rfl,rfl,rfl,by simp[World.setCell],fun k _ a=>qwc _ _ _ _ (fun e=>a (by rw[e]))⟩
variable{P:Program}
theorem zmf{m:Array Oper}{rest:List Oper}{n:Oper}{a:Act}{w:World}{Q:Exit->Act->World->Prop}(r:n.guard=none)(ty:TypeId)(x y:Operand)(z:n.op= .store ty x y)
 (g o:Nat){c d e f i:Value}(D:a.eval x= .pointer (some ⟨g,o,none⟩))(E:a.eval y= .agg #[c,d,e,f,i]){t:TypeId}{cs:Array Value}(q:Blk w g t cs)(A:o+5<=cs.size)
 (hi:(P.info? ty).map (·.size)=some 5)(u:(#[c,d,e,f,i]:Array Value).all (·.oneCell')=true)
 (h:∀W,Blk W g t (((((cs.setIfInBounds o c).setIfInBounds (o+1) d).setIfInBounds (o+1+1) e).setIfInBounds (o+1+1+1) f).setIfInBounds (o+1+1+1+1) i)->
  (∀B w0,Below B w0 w->B<=g->Below B w0 W)->(∀g' t' cs',g'≠g->Blk w g' t' cs'->Blk W g' t' cs')->wpList P m Q rest (a.put n.dst undef) W):wpList P m Q (n::rest) a w:=by
 have C:w.there g o (#[c,d,e,f,i]:Array Value).size:=by intro j s;have s:j<5:=s;refine⟨?_,q.frozen _⟩;rw[q.cell,qus (by omega)];rfl
 refine wpList_store_mid r ty x y z g o #[c,d,e,f,i] D E C hi u ?_;refine h _ (((((q.set_ o c).set_ (o+1) d).set_ (o+1+1) e).set_ (o+1+1+1) f).set_ (o+1+1+1+1) i) (fun B w0 v l=>?_) (fun g' t' cs' b k=>?_)
 ·exact((((v.setCell (p:=⟨g,o,none⟩) l c).setCell (p:=⟨g,o+1,none⟩) l d).setCell (p:=⟨g,o+1+1,none⟩) l e).setCell (p:=⟨g,o+1+1+1,none⟩) l f).setCell (p:=⟨g,o+1+1+1+1,none⟩) l i
 ·exact((((k.far (p:=⟨g,o,none⟩) b c).far (p:=⟨g,o+1,none⟩) b d).far (p:=⟨g,o+1+1,none⟩) b e).far (p:=⟨g,o+1+1+1,none⟩) b f).far (p:=⟨g,o+1+1+1+1,none⟩) b i
theorem ziv{l:Array Oper}{rest:List Oper}{o:Oper}{a:Act}{w:World}{Q:Exit->Act->World->Prop}(n:o.guard=none)(ty:TypeId)(x y:Operand)(r:o.op= .store ty x y)
 (g:Nat)(b:Array Value)(s:a.eval x= .pointer (some ⟨g,0,none⟩))(u:a.eval y= .agg b){t:TypeId}{f:Array Value}(m:Blk w g t f)(hi:(P.info? ty).map (·.size)=some b.size)
 (j:f.size=b.size)(p:b.all (·.oneCell')=true)
 (h:∀W,Blk W g t b->(∀B w0,Below B w0 w->B<=g->Below B w0 W)->(∀g' t' cs',g'≠g->Blk w g' t' cs'->Blk W g' t' cs')->wpList P l Q rest (a.put o.dst undef) W):wpList P l Q (o::rest) a w:=by
 refine wpList_store_row n ty x y r g b s u t f m hi j p ?_;have c:∀k,k≠g->(w.setRow g b).heap[k]? =w.heap[k]? :=fun k d=>by simp[World.setRow,Array.getElem?_modify];intro e;exact absurd e.symm d
 refine h _ ?_ (fun B w0 i v=>⟨i.os,i.tape,i.output,by simpa[World.setRow] using i.size,fun k q=>?_⟩) (fun g' t' cs' d k=>(c g' d).trans k)
 ·unfold Blk at m⊢
  simp[World.setRow,Array.getElem?_modify,m]
 ·rw[c k (by omega)]
  exact i.block k q
theorem z9i{o:Oper}{a:Act}{w:World}{K:Act->World->Prop}{Q:Exit->Act->World->Prop}(ty:TypeId)(x y:Operand)(p:o.op= .store ty x y)
 (g:Nat)(b:Array Value)(q:a.eval x= .pointer (some ⟨g,0,none⟩))(r:a.eval y= .agg b){t:TypeId}{f:Array Value}(l:Blk w g t f)(hi:(P.info? ty).map (·.size)=some b.size)
 (j:f.size=b.size)(m:b.all (·.oneCell')=true)
 (h:∀W,Blk W g t b->(∀B w0,Below B w0 w->B<=g->Below B w0 W)->(∀g' t' cs',g'≠g->Blk w g' t' cs'->Blk W g' t' cs')->K (a.put o.dst undef) W):o.wp P a w K Q:=by
 refine wp_store_row ty x y p g b q r t f l hi j m ?_;have c:∀k,k≠g->(w.setRow g b).heap[k]? =w.heap[k]? :=fun k d=>by simp[World.setRow,Array.getElem?_modify];intro e;exact absurd e.symm d
 refine h _ ?_ (fun B w0 i s=>⟨i.os,i.tape,i.output,by simpa[World.setRow] using i.size,fun k n=>?_⟩) (fun g' t' cs' d k=>(c g' d).trans k)
 ·unfold Blk at l⊢
  simp[World.setRow,Array.getElem?_modify,l]
 ·rw[c k (by omega)]
  exact i.block k n
theorem zbd{w:World}{g:Nat}{ty:TypeId}{c d e f i j k l m n o p:Value}(h:Blk w g ty #[c,d,e,f,i,j,k,l,m,n,o,p]):
 w.cell? ⟨g,0,none⟩=some c/\w.cell? ⟨g,1,none⟩=some d/\w.cell? ⟨g,2,none⟩=some e/\w.cell? ⟨g,3,none⟩=some f/\w.cell? ⟨g,4,none⟩=some i/\w.cell? ⟨g,5,none⟩=some j
  /\w.cell? ⟨g,6,none⟩=some k/\w.cell? ⟨g,7,none⟩=some l/\w.cell? ⟨g,8,none⟩=some m/\w.cell? ⟨g,9,none⟩=some n/\w.cell? ⟨g,10,none⟩=some o/\w.cell? ⟨g,11,none⟩=some p:=by
 have q:=h.cell 0;have r:=h.cell 1;have s:=h.cell 2;have t:=h.cell 3;have u:=h.cell 4;have v:=h.cell 5;have x:=h.cell 6;have y:=h.cell 7;have z:=h.cell 8;have A:=h.cell 9;have a:=h.cell 10;have b:=h.cell 11;simp at q r s t u v x y z A a b;exact⟨q,r,s,t,u,v,x,y,z,A,a,b⟩
theorem zal{f:Array Oper}{rest:List Oper}{o:Oper}{a:Act}{w:World}{Q:Exit->Act->World->Prop}(j:o.guard=none)(ty:TypeId)(x y:Operand)(n:o.op= .store ty x y)
 (g:Nat)(b:Array Value)(p:a.eval x= .pointer (some ⟨g,0,none⟩))(q:a.eval y= .agg b){t:TypeId}{c:Array Value}(i:Blk w g t c)(hi:(P.info? ty).map (·.size)=some b.size)
 (d:c.size=b.size)(m:b.all (·.oneCell')=true)
 (h:∀W,Blk W g t b->w.grownBy W (some g)->wpList P f Q rest (a.put o.dst undef) W):wpList P f Q (o::rest) a w:=by
 refine wpList_store_row j ty x y n g b p q t c i hi d m ?_;refine h _ ?_ ⟨rfl,rfl,rfl,by simp[World.setRow],fun k _ l=>?_⟩
 ·unfold Blk at i⊢
  simp[World.setRow,Array.getElem?_modify,i]
 ·simp[World.setRow,Array.getElem?_modify]
  intro e;exact absurd (by rw[e]) l
theorem zsy{w w':World}{row:Option Nat}(h:w.grownBy w' row):Below 0 w w':=⟨h.os,h.tape,h.output,h.size,fun k a=>by omega⟩
theorem zgt{w d W:World}{g:Nat}{row:Option Nat}(G:w.grownBy d (some g))(k:d.grownBy W row)(f:∀b,row=some b->w.heap.size<=b):w.grownBy W (some g):=
 ⟨k.os.trans G.os,k.tape.trans G.tape,k.output.trans G.output,qqs G.size k.size,fun i c a=>(k.block i (qqv c G.size) (fun e=>by have:=f i e.symm;omega)).trans (G.block i c a)⟩
theorem zbf{w d W:World}{g b:Nat}(G:w.grownBy d (some g))(k:d.grownBy W (some b))(f:w.heap.size<=b):w.grownBy W (some g):=
 ⟨k.os.trans G.os,k.tape.trans G.tape,k.output.trans G.output,qqs G.size k.size,fun i c a=>(k.block i (qqv c G.size) (fun e=>by injection e with e;omega)).trans (G.block i c a)⟩
theorem zk5{k:Array Oper}{rest:List Oper}{l:Oper}{a:Act}{w:World}{Q:Exit->Act->World->Prop}(n:l.guard=none)(ty:TypeId)(x y:Operand)(r:l.op= .store ty x y)
 (g o:Nat){b c d e f:Value}(v:a.eval x= .pointer (some ⟨g,o,none⟩))(z:a.eval y= .agg #[b,c,d,e,f]){t:TypeId}{cs:Array Value}(m:Blk w g t cs)(s:o+5<=cs.size)
 (hi:(P.info? ty).map (·.size)=some 5)(q:(#[b,c,d,e,f]:Array Value).all (·.oneCell')=true)
 (h:∀W,Blk W g t (((((cs.setIfInBounds o b).setIfInBounds (o+1) c).setIfInBounds (o+1+1) d).setIfInBounds (o+1+1+1) e).setIfInBounds (o+1+1+1+1) f)->
  w.grownBy W (some g)->wpList P k Q rest (a.put l.dst undef) W):wpList P k Q (l::rest) a w:=by
 have u:w.there g o (#[b,c,d,e,f]:Array Value).size:=by intro j p;have p:j<5:=p;refine⟨?_,m.frozen _⟩;rw[m.cell,qus (by omega)];rfl
 refine wpList_store_mid n ty x y r g o #[b,c,d,e,f] v z u hi q ?_;exact h _ (((((m.set_ o b).set_ (o+1) c).set_ (o+1+1) d).set_ (o+1+1+1) e).set_ (o+1+1+1+1) f)
  (((((zaz (w:=w) (g:=g) (i:=o) (x:=b)).trans zaz).trans zaz).trans zaz).trans zaz)
open Go Go.RowKit
def qga(a b:List Nat):Int:=Lib.compareBytes (a.map UInt8.ofNat) (b.map UInt8.ofNat)
def z7l(a b:Bool):Int:=if a&&b then 0 else if a then-1 else 1
def qnc(t:Int)(a b:zab):Int:=if a.1||b.1 then z7l a.1 b.1 else if t=0\/t=1 then zja a.2.1 b.2.1 else if t=2 then qga a.2.2.1 b.2.2.1 else 0
end Go.Hm
namespace Go.Proofs.Y
open Go.RowKit Go.Hm
theorem bstrCmp_any{w:World}{a b:List Nat}:Calls Tryz.prog 185 #[.string (zaf a),.string (zaf b)] w (zd5 (.int .i64 (qga a b)) w):=by
 go_enter Tryz.func185,Tryz.ntmps185
 go_wp2
 rw[run_callFunc_extern Tryz.func203 (by kernel_rfl) (by kernel_rfl) (by kernel_rfl) (e:=Extern.BytealgCompare.compare) (by kernel_rfl),Lib.run_compareString];simp only[Result.andThen];rw[Oper.upon_value];go_wp2
 go_ret
 exact⟨rfl,rfl⟩
theorem strCmp_any{w:World}{a b:List Nat}:Calls Tryz.prog 165 #[.string (zaf a),.string (zaf b)] w (zd5 (.int .i64 (qga a b)) w):=by
 go_enter Tryz.func165,Tryz.ntmps165
 go_wp2_with (go_at_call 185;refine bstrCmp_any.mono ?_;rintro e c ⟨rfl,rfl⟩)
 go_ret
 exact⟨rfl,rfl⟩
theorem cmpNulls_any{w:World}{a b:Bool}{n m:Int}{s r:ByteArray}{x y c d:Int}:
 Calls Tryz.prog 163 #[.agg #[.bool a,.int .i64 n,.string s,.int .i64 x,.int .i64 y],.agg #[.bool b,.int .i64 m,.string r,.int .i64 c,.int .i64 d]] w (zap (.int .i64 (z7l a b)) w):=by
 have e:=qw1 w 75 #[.bool a,.int .i64 n,.string s,.int .i64 x,.int .i64 y];have f:=qw1 (w.alloc (.cells #[.bool a,.int .i64 n,.string s,.int .i64 x,.int .i64 y] 75)) 75 #[.bool b,.int .i64 m,.string r,.int .i64 c,.int .i64 d];obtain⟨g,_⟩:=zc3 (e.alloc (.cells #[.bool b,.int .i64 m,.string r,.int .i64 c,.int .i64 d] 75));obtain⟨h,_⟩:=zc3 f;clear e f;go_enter Tryz.func163,Tryz.ntmps163
 cases a<;> cases b;all_goals
  go_wp2
  go_ret
  exact⟨rfl,zzx w _ _⟩
theorem zz7{w:World}{t:Int}{a b:Bool}{n m:Int}{s r:List Nat}{x y c d:Int}(f: ¬(t=3/\a=false/\b=false)):
 Calls Tryz.prog 144 #[.int .i64 t,.agg #[.bool a,.int .i64 n,.string (zaf s),.int .i64 x,.int .i64 y],.agg #[.bool b,.int .i64 m,.string (zaf r),.int .i64 c,.int .i64 d]] w (zap (.int .i64 (qnc t (a,n,s,x,y) (b,m,r,c,d))) w):=by
 have i:=qw1 w 75 #[.bool a,.int .i64 n,.string (zaf s),.int .i64 x,.int .i64 y];have j:=qw1 (w.alloc (.cells #[.bool a,.int .i64 n,.string (zaf s),.int .i64 x,.int .i64 y] 75)) 75 #[.bool b,.int .i64 m,.string (zaf r),.int .i64 c,.int .i64 d];obtain⟨q,u,g,v,z⟩:=zc3 (i.alloc (.cells #[.bool b,.int .i64 m,.string (zaf r),.int .i64 c,.int .i64 d] 75));obtain⟨A,B,h,C,D⟩:=zc3 j;generalize o:qnc t (a,n,s,x,y) (b,m,r,c,d)=O;have l:=qwk o;have k:=qwk f;clear i j o f;cases a<;> cases b
 case' false.false=>have f: ¬t=3:=fun e=>k.out ⟨e,rfl,rfl⟩
 all_goals
  clear k;go_enter Tryz.func144,Tryz.ntmps144
  go_wp2_with (first
   |(go_at_call 163;refine cmpNulls_any.mono ?_;rintro e p ⟨rfl,E⟩)
   |(go_at_call 164;refine cmpI_any.mono ?_;rintro e p ⟨rfl,rfl⟩)
   |(go_at_call 165;refine strCmp_any.mono ?_;rintro e p ⟨rfl,rfl⟩))
 all_goals go_ret
 all_goals try refine⟨?_,zzx w _ _⟩
 all_goals try refine⟨?_,qw5 (zzx w _ _) (by assumption)⟩
 all_goals
  rw[<-l.out];clear q u g v z A B h C D l;simp_all[qnc]
end Go.Proofs.Y
namespace Go.Hm
open Go Go.RowKit
def zkv(t:Int)(a b:zab):Int:=if a.1||b.1 then z7l a.1 b.1 else if t=0\/t=1 then zja a.2.1 b.2.1 else if t=2 then qga a.2.2.1 b.2.2.1 else if t=3 then cmpP a.2.2.2.1 a.2.2.2.2 b.2.2.2.1 b.2.2.2.2 else 0
theorem qnf{t:Int}{a b:zab}(h: ¬(t=3/\a.1=false/\b.1=false)):zkv t a b=qnc t a b:=by
 unfold zkv qnc;by_cases c:(a.1||b.1)=true
 ·rw[if_pos c,if_pos c]
 ·rw[if_neg c,if_neg c]
  have d: ¬t=3:=fun e=>h ⟨e,by simp_all,by simp_all⟩
  simp[d]
def qlc(x y u v:Int):Prop:=(-2097152<=x/\x<=2097152)/\(-2097152<=y/\y<=2097152)/\(-2097152<=u/\u<=2097152)/\(-2097152<=v/\v<=2097152)
end Go.Hm
namespace Go.Proofs.Y
open Go.RowKit Go.Hm
theorem zw7{w:World}{t:Int}{a b:Bool}{n m:Int}{s r:List Nat}{x y c d:Int}(f:qlc x y c d):
 Calls Tryz.prog 144 #[.int .i64 t,.agg #[.bool a,.int .i64 n,.string (zaf s),.int .i64 x,.int .i64 y],.agg #[.bool b,.int .i64 m,.string (zaf r),.int .i64 c,.int .i64 d]] w (zap (.int .i64 (zkv t (a,n,s,x,y) (b,m,r,c,d))) w):=by
 by_cases g:t=3/\a=false/\b=false
 ·obtain⟨rfl,rfl,rfl⟩:=g
  have j:zkv 3 (false,n,s,x,y) (false,m,r,c,d)=cmpP x y c d:=by simp[zkv]
  rw[j];have P:=qwk (fun(W:World)=>zw6 (w:=W) f.1 f.2.1 f.2.2.1 f.2.2.2);have h:=qw1 w 75 #[.bool false,.int .i64 n,.string (zaf s),.int .i64 x,.int .i64 y];have i:=qw1 (w.alloc (.cells #[.bool false,.int .i64 n,.string (zaf s),.int .i64 x,.int .i64 y] 75)) 75 #[.bool false,.int .i64 m,.string (zaf r),.int .i64 c,.int .i64 d];obtain⟨q,u,l,v,z⟩:=zc3 (h.alloc (.cells #[.bool false,.int .i64 m,.string (zaf r),.int .i64 c,.int .i64 d] 75));obtain⟨A,B,o,C,D⟩:=zc3 i;clear h i j f;go_enter Tryz.func144,Tryz.ntmps144
  go_wp2_with (go_at_call 166;refine(P.out _).mono ?_;rintro e p ⟨rfl,k⟩)
  go_ret
  exact⟨rfl,qw5 (zzx w _ _) k⟩
 ·rw[qnf g]
  exact zz7 g
end Go.Proofs.Y
namespace Go.Hm
open Go Go.RowKit
theorem qit:∀a b:List UInt8,Lib.compareBytes b a= -Lib.compareBytes a b
 | [],[]=>by simp[Lib.compareBytes]
 | [],_::_=>by simp[Lib.compareBytes]
 |_::_,[]=>by simp[Lib.compareBytes]
 |x::a,y::b=>by
  have ih:=qit a b;unfold Lib.compareBytes;by_cases c:x<y
  ·have d: ¬y<x:=fun h=>UInt8.lt_irrefl _ (UInt8.lt_trans h c)
   rw[if_neg d,if_pos c,if_pos c];rfl
  ·by_cases d:y<x
   ·rw[if_pos d,if_neg c,if_pos d]
   ·rw[if_neg d,if_neg c,if_neg c,if_neg d,ih]
theorem qaj:∀a b:List UInt8,Lib.compareBytes a b=0↔a=b
 | [],[]=>by simp[Lib.compareBytes]
 | [],_::_=>by simp[Lib.compareBytes]
 |_::_,[]=>by simp[Lib.compareBytes]
 |x::a,y::b=>by
  have ih:=qaj a b;unfold Lib.compareBytes;by_cases c:x<y
  ·have d:x≠y:=by rintro rfl;exact UInt8.lt_irrefl _ c
   rw[if_pos c];simp[d]
  ·by_cases e:y<x
   ·have d:x≠y:=by rintro rfl;exact c e
    rw[if_neg c,if_pos e];simp[d]
   ·have f:x=y:=qvp (qvq.1 e) (qvq.1 c)
    subst f;rw[if_neg c,if_neg c,ih];simp
theorem z2l:∀a b c:List UInt8,Lib.compareBytes a b<=0->Lib.compareBytes b c<=0->Lib.compareBytes a c<=0
 | [],b,[]=>by simp[Lib.compareBytes]
 | [],b,_::_=>by simp[Lib.compareBytes]
 |_::_,[],c=>by simp[Lib.compareBytes]
 |_::_,_::_,[]=>by simp[Lib.compareBytes]
 |x::a,y::b,z::c=>by
  have ih:=z2l a b c;unfold Lib.compareBytes;intro f d;by_cases e:x<z
  ·rw[if_pos e];decide
  ·rw[if_neg e]
   by_cases g:x<y
   ·have k: ¬y<z:=fun h=>e (UInt8.lt_trans g h)
    rw[if_neg k] at d;by_cases m:z<y
    ·rw[if_pos m] at d;omega
    ·have i:y=z:=qvp (qvq.1 m) (qvq.1 k)
     exact absurd (i▸g) e
   ·rw[if_neg g] at f
    by_cases j:y<x
    ·rw[if_pos j] at f;omega
    ·rw[if_neg j] at f
     have i:x=y:=qvp (qvq.1 j) (qvq.1 g);subst i;rw[if_neg e] at d;by_cases l:z<x
     ·rw[if_pos l] at d;omega
     ·rw[if_neg l] at d⊢
      exact ih f d
theorem qgg{a b:Bool}(h:(a||b)=true):z7l b a= -z7l a b:=by cases a<;> cases b<;> simp_all[z7l]
theorem zpd(t:Int)(a b:zab):zkv t b a= -zkv t a b:=by
 unfold zkv;by_cases h:(a.1||b.1)=true
 ·have c:(b.1||a.1)=true:=by rw[Bool.or_comm];exact h
  rw[if_pos c,if_pos h,qgg h]
 ·have c: ¬(b.1||a.1)=true:=by rw[Bool.or_comm];exact h
  rw[if_neg c,if_neg h,zpc a.2.1,qgf a.2.2.2.1,qga,qga,qit];split
  ·rfl
  ·split
   ·rfl
   ·split
    ·rfl
    ·rfl
theorem zs5:∀{a b:List Nat},(∀z∈a,z<256)->(∀z∈b,z<256)->a.map UInt8.ofNat=b.map UInt8.ofNat->a=b
 | [],[],_,_,_=>rfl
 | [],_::_,_,_,h=>by simp at h
 |_::_,[],_,_,h=>by simp at h
 |x::a,y::b,ha,hb,h=>by
  rw[qrj,qrj,qqe] at h;have e1:x=y:=by have:=congrArg UInt8.toNat h.1;rw[qsg,qsg,qr8 (ha x (by simp)),qr8 (hb y (by simp))] at this;exact this
  rw[e1,zs5 (fun z c=>ha z (by simp[c])) (fun z c=>hb z (by simp[c])) h.2]
theorem qak{t:Int}{nu:Bool}{a b:zab}(c:zad a t nu=true)(d:zad b t nu=true)(e:∀z∈a.2.2.1,z<256)(f:∀z∈b.2.2.1,z<256):zkv t a b=0↔a=b:=by
 obtain⟨o,q,l,s,v⟩:=a;obtain⟨p,r,m,u,w⟩:=b;simp only at e f;have n:qga l m=0↔l=m:=by rw[qga,qaj];exact⟨zs5 e f,fun h=>by rw[h]⟩
 unfold zad at c d;unfold zkv;cases o<;> cases p
 ·simp only[Bool.or_self,qvr,if_false] at c d⊢
  by_cases g:t=0
  ·subst g
   simp at c d;simp[cmpI_zero,c,d]
  ·by_cases i:t=1
   ·subst i
    simp at c d;simp[cmpI_zero,c,d]
   ·by_cases j:t=2
    ·subst j
     simp at c d;simp[n,c,d]
    ·by_cases k:t=3
     ·subst k
      simp at c d;simp[qah,c,d]
     ·simp[g,i,j,k] at c
 ·simp[z7l]
 ·simp[z7l]
 ·simp at c d
  simp[z7l,c,d]
theorem zkc{t:Int}{a b c:zab}(e:zkv t a b<=0)(f:zkv t b c<=0):zkv t a c<=0:=by
 obtain⟨k,m,s,h,ya⟩:=a;obtain⟨l,n,u,i,yb⟩:=b;obtain⟨g,o,v,j,yc⟩:=c;unfold zkv at*;cases k
 ·cases l
  ·cases g
   ·simp only[Bool.or_self,qvr,if_false] at e f⊢
    split
    ·rename_i d
     rw[if_pos d,zqx] at e f;rw[zqx];omega
    ·rename_i d
     rw[if_neg d] at e f;split
     ·rename_i d
      rw[if_pos d,qga] at e f;exact z2l _ _ _ e f
     ·rename_i d
      rw[if_neg d] at e f;split
      ·rename_i d
       rw[if_pos d,qai] at e f;rw[qai];generalize h*h+ya*ya=p at*;generalize i*i+yb*yb=q at*;generalize j*j+yc*yc=r at*;omega
      ·omega
   ·simp[z7l] at f
  ·simp[z7l] at e
 ·cases g<;> simp[z7l]
theorem znp{t:Int}{nu:Bool}{a:zab}(h:zad a t nu=true):(-1048576<=a.2.2.2.1/\a.2.2.2.1<=1048576)/\ -1048576<=a.2.2.2.2/\a.2.2.2.2<=1048576:=by
 obtain⟨i,j,k,f,g⟩:=a;unfold zad at h;show(-1048576<=f/\f<=1048576)/\ -1048576<=g/\g<=1048576;cases i
 ·simp only[qvr,if_false] at h
  by_cases b:t=0
  ·subst b;simp at h;omega
  ·by_cases c:t=1
   ·subst c;simp at h;omega
   ·by_cases d:t=2
    ·subst d;simp at h;omega
    ·by_cases e:t=3
     ·subst e;simp[inBox] at h;omega
     ·simp[b,c,d,e] at h
 ·simp at h;omega
open Go Go.RowKit
abbrev zdp:=Int × Bool × zab × zab
def zb4:zdp:=(0,false,zbb,zbb)
def zci(s:zdp):List Value:= .int .i64 s.1:: .bool s.2.1::(zay s.2.2.1++zay s.2.2.2)
def nullsL(l:List zab):Nat:=(l.filter fun c=>c.1).length
structure IsStat(t:Int)(l:List zab)(s:zdp):Prop where
 nulls:s.1=(nullsL l:Int)
 has:s.2.1=true↔ ∃c∈l,c.1=false
 none:s.2.1=false->s.2.2.1=zbb/\s.2.2.2=zbb
 least:s.2.1=true->(s.2.2.1∈l/\s.2.2.1.1=false)/\ ∀c∈l,c.1=false->zkv t s.2.2.1 c<=0
 most:s.2.1=true->(s.2.2.2∈l/\s.2.2.2.1=false)/\ ∀c∈l,c.1=false->zkv t c s.2.2.2<=0
theorem zw8(t:Int)(c:zab):zkv t c c=0:=by have:=zpd t c c;omega
theorem zu0(a b:List zab):nullsL (a++b)=nullsL a+nullsL b:=by unfold nullsL;rw[List.filter_append,qrp]
theorem zjo(l:List zab):nullsL l<=l.length:=List.length_filter_le _ _
def zlj(c:zab):zdp:=if c.1 then(1,false,zbb,zbb) else(0,true,c,c)
theorem zs6(t:Int):IsStat t [] zb4:=⟨rfl,by simp[zb4],fun _=>⟨rfl,rfl⟩,fun h=>by simp[zb4] at h,fun h=>by simp[zb4] at h⟩
theorem zs7(t:Int)(c:zab):IsStat t [c] (zlj c):=by
 have b:=zw8 t c;unfold zlj;cases hc:c.1 with
 |true=>
  rw[if_pos rfl];exact⟨by simp[nullsL,hc],by simp[hc],fun _=>⟨rfl,rfl⟩,fun h=>by simp at h,fun h=>by simp at h⟩
 |false=>
  rw[if_neg (by simp)];refine⟨by simp[nullsL,hc],by simp[hc],fun h=>by simp at h,fun _=>⟨⟨by simp,hc⟩,fun d a _=>?_⟩,fun _=>⟨⟨by simp,hc⟩,fun d a _=>?_⟩⟩
  ·rw[qr6.1 a]
   show zkv t c c<=0;omega
  ·rw[qr6.1 a]
   show zkv t c c<=0;omega
def zok(t:Int)(a b:zdp):zdp:=
 if a.2.1 then(a.1+b.1,true,if b.2.1&&decide (zkv t b.2.2.1 a.2.2.1<0) then b.2.2.1 else a.2.2.1,if b.2.1&&decide (0<zkv t b.2.2.2 a.2.2.2) then b.2.2.2 else a.2.2.2)
 else if b.2.1 then(a.1+b.1,true,b.2.2.1,b.2.2.2) else(a.1+b.1,false,zbb,zbb)
theorem IsStat.merge{t:Int}{a b:List zab}{x y:zdp}(h:IsStat t a x)(k:IsStat t b y):IsStat t (a++b) (zok t x y):=by
 obtain⟨N,I,G,H⟩:=x;obtain⟨yn,v,J,K⟩:=y;obtain⟨O,w,P,L,M⟩:=h;obtain⟨Q,z,R,A,B⟩:=k;dsimp only at*;have j:N+yn=(nullsL (a++b):Int):=by rw[zu0];omega
 have i:(∃c∈a++b,c.1=false)↔(I=true\/v=true):=by
  rw[w,z];constructor
  ·rintro⟨c,d,e⟩
   rcases qr5.1 d with d|d
   ·exact .inl ⟨c,d,e⟩
   ·exact .inr ⟨c,d,e⟩
  ·rintro(⟨c,d,e⟩|⟨c,d,e⟩)
   ·exact⟨c,qvs _ d,e⟩
   ·exact⟨c,qvt _ d,e⟩
 unfold zok;dsimp only;cases I with
 |true=>
  rw[if_pos rfl];obtain⟨⟨C,D⟩,o⟩:=L rfl;obtain⟨⟨E,F⟩,p⟩:=M rfl;cases v with
  |false=>
   have g:∀c∈b,c.1=false->False:=fun c d e=>by have:=z.2 ⟨c,d,e⟩;simp at this
   simp only[Bool.false_and,qvr,if_false];refine⟨j,?_,?_,?_,?_⟩
   ·rw[i];simp
   ·intro h;simp at h
   ·intro _
    exact⟨⟨qvs _ C,D⟩,fun c d e=>by
     rcases qr5.1 d with d|d
     ·exact o c d e
     ·exact(g c d e).elim⟩
   ·intro _
    exact⟨⟨qvs _ E,F⟩,fun c d e=>by
     rcases qr5.1 d with d|d
     ·exact p c d e
     ·exact(g c d e).elim⟩
  |true=>
   obtain⟨⟨q,r⟩,l⟩:=A rfl;obtain⟨⟨s,u⟩,m⟩:=B rfl;simp only[qvu,decide_eq_true_eq];refine⟨j,?_,?_,?_,?_⟩
   ·rw[i];simp
   ·intro h;simp at h
   ·intro _
    dsimp only;by_cases f:zkv t J G<0
    ·rw[if_pos f]
     exact⟨⟨qvt _ q,r⟩,fun c d e=>by
      rcases qr5.1 d with d|d
      ·exact zkc (by omega) (o c d e)
      ·exact l c d e⟩
    ·rw[if_neg f]
     have n:zkv t G J<=0:=by rw[zpd];omega
     exact⟨⟨qvs _ C,D⟩,fun c d e=>by
      rcases qr5.1 d with d|d
      ·exact o c d e
      ·exact zkc n (l c d e)⟩
   ·intro _
    dsimp only;by_cases f:0<zkv t K H
    ·rw[if_pos f]
     have n:zkv t H K<=0:=by rw[zpd];omega
     exact⟨⟨qvt _ s,u⟩,fun c d e=>by
      rcases qr5.1 d with d|d
      ·exact zkc (p c d e) n
      ·exact m c d e⟩
    ·rw[if_neg f]
     exact⟨⟨qvs _ E,F⟩,fun c d e=>by
      rcases qr5.1 d with d|d
      ·exact p c d e
      ·exact zkc (m c d e) (by omega)⟩
 |false=>
  have g:∀c∈a,c.1=false->False:=fun c d e=>by have:=w.2 ⟨c,d,e⟩;simp at this
  rw[if_neg (by simp)];cases v with
  |false=>
   rw[if_neg (by simp)];exact⟨j,by rw[i];simp,fun _=>⟨rfl,rfl⟩,fun h=>by simp at h,fun h=>by simp at h⟩
  |true=>
   rw[if_pos rfl];obtain⟨⟨q,r⟩,l⟩:=A rfl;obtain⟨⟨s,u⟩,m⟩:=B rfl;refine⟨j,by rw[i];simp,fun h=>by simp at h,?_,?_⟩
   ·intro _
    exact⟨⟨qvt _ q,r⟩,fun c d e=>by
     rcases qr5.1 d with d|d
     ·exact(g c d e).elim
     ·exact l c d e⟩
   ·intro _
    exact⟨⟨qvt _ s,u⟩,fun c d e=>by
     rcases qr5.1 d with d|d
     ·exact(g c d e).elim
     ·exact m c d e⟩
theorem IsStat.uniq{t:Int}{l:List zab}(j:∀c∈l,zad c t true=true)(f:∀c∈l,∀z∈c.2.2.1,z<256){x y:zdp}(h:IsStat t l x)(k:IsStat t l y):x=y:=by
 obtain⟨N,u,S,T⟩:=x;obtain⟨P,O,U,V⟩:=y;obtain⟨Q,v,e,w,A⟩:=h;obtain⟨R,C,m,D,E⟩:=k;dsimp only at*;have B:u=O:=by rw[qrd,v,C]
 subst B;have d:∀{a b:zab},a∈l->b∈l->zkv t a b<=0->zkv t b a<=0->a=b:=fun {a b} g i p q=>by rw[zpd] at q;exact(qak (j a g) (j b i) (f a g) (f b i)).1 (by omega)
 rw[show N=P by omega];cases u with
 |false=>
  rw[(e rfl).1,(e rfl).2,(m rfl).1,(m rfl).2]
 |true=>
  obtain⟨⟨n,F⟩,G⟩:=w rfl;obtain⟨⟨o,H⟩,I⟩:=A rfl;obtain⟨⟨r,J⟩,K⟩:=D rfl;obtain⟨⟨s,L⟩,M⟩:=E rfl;rw[d n r (G _ r J) (K _ n F),d o s (M _ o H) (I _ s L)]
def zcj(t:Int)(s:zdp):Bool:=
 if t<0\/3<t\/s.1<0\/65536<s.1 then false
 else if s.2.1 then zad s.2.2.1 t false&&(zad s.2.2.2 t false&&decide (zkv t s.2.2.1 s.2.2.2<=0))
 else decide (s.2.2.1=zbb)&&decide (s.2.2.2=zbb)
theorem zlk{c:zab}{t:Int}(h:zad c t true=true)(a:c.1=false):zad c t false=true:=by unfold zad at h⊢;rw[a] at h⊢;simpa using h
theorem IsStat.right{t:Int}{l:List zab}{s:zdp}(h:IsStat t l s)(a:∀c∈l,zad c t true=true)(n:0<=t/\t<=3)(k:l.length<=65536):zcj t s=true:=by
 unfold zcj;have m:=zjo l;have:=h.nulls;rw[if_neg (by omega)];cases hh:s.2.1 with
 |false=>
  obtain⟨e,f⟩:=h.none hh;simp[e,f]
 |true=>
  obtain⟨⟨g,i⟩,j⟩:=h.least hh;obtain⟨⟨b,d⟩,o⟩:=h.most hh;simp[zlk (a _ g) i,zlk (a _ b) d,j _ b d]
open Go Go.RowKit
def zcm(s:zdp):Value:= .agg (zci s).toArray
end Go.Hm
namespace Go.Proofs.Y
open Go.RowKit Go.Hm
theorem z5i{w:World}(c:zab):Calls Tryz.prog 130 #[zde c] w (zap (zcm (zlj c)) w):=by
 obtain⟨b,n,s,x,y⟩:=c;cases b with
 |true=>
  show Calls Tryz.prog 130 #[.agg #[.bool true,.int .i64 n,.string (zaf s),.int .i64 x,.int .i64 y]] w (zap (zcm (1,false,zbb,zbb)) w);go_enter Tryz.func130,Tryz.ntmps130
  go_wp2
  exact bodyPost_ret (v:=zcm (1,false,zbb,zbb)) (by simp[results,Tryz.results130,go_sem,zcm,zci,zay,zbb,show zaf []=⟨#[]⟩ from rfl]) rfl ⟨rfl,zzx w _ _⟩
 |false=>
  show Calls Tryz.prog 130 #[.agg #[.bool false,.int .i64 n,.string (zaf s),.int .i64 x,.int .i64 y]] w (zap (zcm (0,true,(false,n,s,x,y),(false,n,s,x,y))) w);have a:=qw1 w 75 #[.bool false,.int .i64 n,.string (zaf s),.int .i64 x,.int .i64 y];obtain⟨d,e,f,g,h⟩:=zc3 (a.alloc (.cells #[.int .i64 0,.bool false,.bool false,.int .i64 0,.string ⟨#[]⟩,.int .i64 0,.int .i64 0,.bool false,.int .i64 0,.string ⟨#[]⟩,.int .i64 0,.int .i64 0] 133));clear a;go_enter Tryz.func130,Tryz.ntmps130
  go_wp2
  exact bodyPost_ret (v:=zcm (0,true,(false,n,s,x,y),(false,n,s,x,y))) (by simp[results,Tryz.results130,go_sem,zcm,zci,zay]) rfl ⟨rfl,zzx w _ _⟩
end Go.Proofs.Y
namespace Go.Hm
open Go Go.RowKit
theorem zxw{P:Program}{w:World}{c:Array Oper}{rest:List Oper}{o:Oper}{a:Act}{Q:Exit->Act->World->Prop}{t e d:TypeId}{z:Value}{b:Nat}{q:IntKind}(E:ElT P t e z 1 b)(g:o.guard=none)(s x:Operand)
 (y:o.op= .call {callee:= .builtin .append,args:= #[s,x],argTypes:= #[t,d]})(j:P.underlying d=some (.int q))(m:z.oneCell'=true)(A:a.eval s= .slice none 0 0)(n:Nat)(D:a.eval x= .int .i64 (n:Int))(r:0<n)(F:n*b<=140737488355328)(hm:n<=maxLen)
 (h:∀w' cap,n<=cap->cap<=maxLen->w'.ownsRow w.heap.size e 1 (.slice (some ⟨w.heap.size,0,none⟩) 0 cap) 0 []->Below w.heap.size w w'->wpList P c Q rest (a.put o.dst (.slice (some ⟨w.heap.size,0,none⟩) n cap)) w'):
 wpList P c Q (o::rest) a w:=by
 obtain⟨i,u,l,B,f⟩:=info_parts E.hi;have p:z.cells= #[z]:=by
  revert m;unfold Value.oneCell' Value.cells
  cases z<;> simp
 have C:n<=9223372036854775807:=by simp only[maxLen] at hm;omega
 refine Lib.wpList_append_run w g s x t d y _ _ A D _ _ (Lib.run_append_nil_zeros w t d o.type e i z .i64 q E.ht j u l n r (by omega) (by omega) (by rw[f];omega)) ?_;refine h _ _ (grownCap_ge w n 0 e) (grownCap_le_maxLen w n 0 e hm) ⟨rfl,.inr ⟨w.heap.size,_,_,rfl,qq0 _,heap_alloc_new w.drew _,qq1 _,grownCap_le_maxLen w n 0 e hm,?_,by simp⟩⟩ ⟨rfl,rfl,rfl,by simp,fun k v=>heap_alloc_old w.drew _ v⟩;have:=grownCap_ge w n 0 e;simp only[Array.size_append,size_zeroCells,p];simp;omega
open Go Go.RowKit
abbrev zju:=Option Addr × Nat × List Nat
def zjb(d:zju):List Value:=[.slice d.1 d.2.2.length d.2.1]
theorem z24(d:zju):(zjb d).length=1:=rfl
def BytIn(w:World)(d:zju):Prop:=Reads w w.heap.size 1 d.1 d.2.2.length (zar .u8 d.2.2)
theorem BytIn.later{w w':World}{d:zju}(h:BytIn w d)(a:New w w'):BytIn w' d:=qxj h a
abbrev qxs:=@BytIn.later
def zdh(D:List zju):List Nat:=D.flatMap fun d=>d.2.2
theorem z6e(D:List zju)(d:zju):zdh (D++[d])=zdh D++d.2.2:=by simp[zdh]
theorem ztt{D:List zju}{k:Nat}(a:k<D.length):zdh (D.take (k+1))=zdh (D.take k)++(D.getD k (none,0,[])).2.2:=by rw[zac _ k (none,0,[]) a,z6e]
theorem zm1(D:List zju)(k:Nat):(zdh (D.take k)).length<=(zdh D).length:=by
 have e:zdh D=zdh (D.take k)++zdh (D.drop k):=by unfold zdh;rw[<-quf,qtq]
 rw[e,qrp];omega
theorem qbo{w:World}{B:Nat}{A:Option Addr}{n:Nat}{D:List zju}(h:Reads w B 1 A n (recs zjb D)){k:Nat}(d:k<D.length):
 ∃ad,A=some ad/\ad.block<B/\w.cell? (ad.add k)=some (.slice (D.getD k (none,0,[])).1 (D.getD k (none,0,[])).2.2.length (D.getD k (none,0,[])).2.1):=by
 have g:n=D.length:=by have:=h.1;rw[zaw (sz:=1) (fun _=>rfl)] at this;omega
 obtain⟨ad,u,e,b,a,c⟩:=h.at_ (k:=k) (by omega);have:=zpy (f:=zjb) (sz:=1) (fun _=>rfl) D (none,0,[]) k 0 d (by omega);rw[qq7,quc] at this;rw[this] at a;obtain rfl:=qqf a;exact⟨ad,e,b,c⟩
end Go.Hm
namespace Go.Proofs.Y
open Go.RowKit Go.Hm
theorem qp4:Tryz.prog.underlying 3=some (.int .i64):=by kernel_rfl
theorem qbp{w:World}{n:Nat}(m:n<=140737488351232):
 Calls Tryz.prog 92 #[.slice none 0 0,.int .i64 (n:Int)] w (fun e w'=>∃A c,e= .returned (.slice A 0 c)/\w'.ownsRow w.heap.size 5 1 (.slice A 0 c) 0 []/\New w w'):=by
 by_cases d:n=0
 ·subst d
  go_enter Tryz.func92,Tryz.ntmps92
  go_wp2_with fail
  go_ret
  exact⟨none,0,rfl,qwb _ _ _ _,qw4 _⟩
 ·have i: ¬((n:Int)<0):=by omega
  have j:(0:Int)<(n:Int):=by omega
  have k:wrap64 ((n:Int)-0)=(n:Int):=by unfold wrap64;omega
  have l:wrap64 (n:Int)=(n:Int):=by unfold wrap64;omega
  go_enter Tryz.func92,Tryz.ntmps92
  go_wp2_with (refine zxw elB rfl (.tmp 20) (.tmp 21) rfl qp4 rfl rfl n rfl (by omega) (by omega) (by simp only[maxLen];omega) ?_
               intro o a f g h b)
  go_ret
  exact⟨_,a,rfl,h,b⟩
end Go.Proofs.Y
