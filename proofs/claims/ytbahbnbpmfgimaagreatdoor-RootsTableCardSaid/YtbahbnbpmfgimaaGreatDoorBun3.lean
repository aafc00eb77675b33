import Derived.Deep.Fields
import Derived.OpenShut
import Derived.Test.YtbahbnbpmfgimaaGreatDoorBun1
set_option maxHeartbeats 200000
namespace Go.Hm
open Go Go.RowKit
theorem zvx(l:List Nat)(i j:Nat):(zaf l).extract i j=zaf ((l.drop i).take (j-i)):=by refine ByteArray.ext ?_;rw[ByteArray.data_extract];show((l.map UInt8.ofNat).toArray).extract i j=(((l.drop i).take (j-i)).map UInt8.ofNat).toArray;simp
theorem z7p(l:List Nat)(i:Nat):(zaf l).extract i l.length=zaf (l.drop i):=by rw[zvx,qru (by rw[qqw];omega)]
theorem qd4(l:List Nat)(k:Nat)(c:∀x∈l,x<256)(hk:k<(zaf l).size):((zaf l)[k]'hk).toNat=l.getD k 0:=by
 have b:k<l.length:=by rwa[zbq] at hk
 show(((l.map UInt8.ofNat).toArray)[k]'(by simpa using b)).toNat=_;simp only[List.getElem_toArray,qsf,qsg];rw[qsh,qqt b,qsi];exact qr8 (c _ (qrf b))
section
variable{P:Program}{t:TypeId}
theorem z7q(c:P.underlying t=some .string)(l:List Nat)(b:∀x∈l,x<256)(k:Nat)(d:k<l.length)(w:World):
 (Instr.index t (.string (zaf l)) (.int .i64 (k:Int))).run P w= .ok (.int .u8 ((l.getD k 0:Nat):Int)) w:=by
 rw[run_index_string w t (zaf l) .i64 (k:Int) c,dif_pos ⟨by omega,by rw[zbq];omega⟩];rw[qd4 l _ b];simp
theorem qd5(b:P.underlying t=some .string)(l:List Nat)(k:Nat)(c:k<=l.length)(w:World):
 (Instr.slice t (.string (zaf l)) (some (.int .i64 (k:Int))) none none).run P w= .ok (.string (zaf (l.drop k))) w:=by
 rw[run_slice_string_from_if w t (zaf l) .i64 (k:Int) b,if_pos ⟨by omega,by rw[zbq];omega⟩,qrn,zbq,z7p]
end
theorem zt6(l:List Nat)(b:∀x∈l,x<256):Lib.strCells (zaf l)=zar .u8 l:=by
 unfold Lib.strCells zar;show((l.map UInt8.ofNat).toArray.toList).map _=_;simp only[qsj];refine qsk fun x c=>?_
 simp only[Function.comp,qsg];rw[qr8 (by have:=b x c;omega)]
def zsm(l:List (List Nat)):List Value:=l.map fun s=> .string (zaf s)
theorem zpt(l:List (List Nat)):(zsm l).length=l.length:=by simp[zsm]
theorem z7r(l:List (List Nat))(i:Nat)(h:i<l.length):(zsm l)[i]? =some (.string (zaf (l.getD i []))):=by simp[zsm,List.getElem?_eq_getElem h]
theorem Reads.lenT{w:World}{B n:Nat}{A:Option Addr}{l:List (List Nat)}(h:Reads w B 1 A n (zsm l)):n=l.length:=by have:=h.1;rw[zpt] at this;omega
theorem Reads.str{w:World}{B n:Nat}{A:Option Addr}{l:List (List Nat)}{i:Nat}(h:Reads w B 1 A n (zsm l))(hi:i<n):∃ad,A=some ad/\ad.block<B/\w.cell? (ad.add i)=some (.string (zaf (l.getD i []))):=by
 obtain⟨ad,u,e,c,b,d⟩:=h.at_ hi;have f:i<l.length:=by have:=h.lenT;omega
 rw[z7r l i f] at b;injection b with b;subst b;exact⟨ad,e,c,d⟩
theorem zpu{L:List (List Nat)}{k:Nat}{Q:List Nat->Prop}(h:∀x∈L,Q x)(b:k<L.length):Q (L.getD k []):=by rw[qsh,qqt b];exact h _ (qrf b)
section
variable{P:Program}{ops:Array Oper}{rest:List Oper}{o:Oper}{a:Act}{Q:Exit->Act->World->Prop}
theorem zer{w:World}{t e C:TypeId}(E:ElT P t e (.int .u8 0) 1 1)(u:P.underlying C=some .string)(r:o.guard=none)(s x:Operand)
 (L:o.op= .call {callee:= .builtin .append,args:= #[s,x],argTypes:= #[t,C]})
 {W:World}{B base n c:Nat}{A:Option Addr}{l l2:List Nat}(d:Own w base e (.slice A n c) (zar .u8 l))(G:∀x∈l2,x<256)(M:a.eval s= .slice A n c)(N:a.eval x= .string (zaf l2))
 (H:Below B W w)(p:B<=base)(f:base<=w.heap.size)(K:n+l2.length<=140737488355328)
 (h:∀A' c' w',n+l2.length<=c'->c'<=maxLen->Own w' base e (.slice A' (n+l2.length) c') (zar .u8 (l++l2))->w.grownBy w' (Value.ownBlock (.slice A n c))->Below B W w'->wpList P ops Q rest (a.put o.dst (.slice A' (n+l2.length) c')) w'):
 wpList P ops Q (o::rest) a w:=by
 obtain⟨i,I,v,y,z⟩:=info_parts E.hi;have g:=d.len;rw[zaa] at g;have j:w.ownsRow base e 1 (.slice A n c) n (zar .u8 l):=by unfold Own at d;rwa[zaa,<-g] at d
 refine Lib.wpList_append_own_string w r s x t C L base e i E.ht u I v y z _ n _ M j (zaf l2) N (by rw[zbq];unfold maxLen;omega) (by rw[zbq];exact K) f ?_;intro O w' D F _;rw[zt6 l2 G,<-zd0,zbq] at D;have b:Own w' base e O (zar .u8 (l++l2)):=by unfold Own;rw[zaa,qrp,<-g];exact D
 obtain⟨A',c',rfl,m,q⟩:=b.slice;rw[zaa,qrp,<-g] at m b⊢;exact h A' c' w' m q b F (H.grown F (qqs p f) (fun k J=>by have:=(d.lt k J).1;omega))
end
open Go.RowKit
structure Turns(T:List Nat)(w w':World):Prop where
 os:w'.os=w.os
 tape:w'.tape=w.tape
 output:w'.output=w.output
 size:w.heap.size<=w'.heap.size
 block:∀k,k<w.heap.size->k∉T->w'.heap[k]? =w.heap[k]?
section
variable{T T':List Nat}{w w' w2:World}
theorem Turns.refl(T:List Nat)(w:World):Turns T w w:=⟨rfl,rfl,rfl,qq0 _,fun _ _ _=>rfl⟩
abbrev qxc:=@Turns.refl
theorem Turns.trans(h:Turns T w w')(k:Turns T w' w2):Turns T w w2:=
 ⟨k.os.trans h.os,k.tape.trans h.tape,k.output.trans h.output,qqs h.size k.size,fun i b a=>(k.block i (qqv b h.size) a).trans (h.block i b a)⟩
abbrev qxd:=@Turns.trans
theorem Turns.more(h:Turns T w w')(c:∀x∈T,x∈T'):Turns T' w w':=⟨h.os,h.tape,h.output,h.size,fun i b a=>h.block i b fun d=>a (c i d)⟩
theorem Turns.of_new(h:Below w.heap.size w w'):Turns T w w':=⟨h.os,h.tape,h.output,h.size,fun k a _=>h.block k a⟩
abbrev qxe:=@Turns.of_new
theorem Turns.of_far{g:Nat}(h:w.grownBy w' (some g))(b:g∈T):Turns T w w':=
 ⟨h.os,h.tape,h.output,h.size,fun k c a=>h.block k c (fun e=>by injection e with e;subst e;exact a b)⟩
abbrev qxf:=@Turns.of_far
theorem Turns.of_none(h:w.grownBy w' none):Turns T w w':=⟨h.os,h.tape,h.output,h.size,fun k a _=>h.block k a (by simp)⟩
abbrev qxg:=@Turns.of_none
theorem Turns.drew(T:List Nat)(w:World):Turns T w w.drew:=⟨rfl,rfl,rfl,qq0 _,fun _ _ _=>rfl⟩
theorem Turns.drewN(T:List Nat)(w:World)(n:Nat):Turns T w (w.drewN n):=⟨rfl,rfl,rfl,qq0 _,fun _ _ _=>rfl⟩
theorem Turns.setCell{g i:Nat}(u:Value)(b:g∈T)(w:World):Turns T w (w.setCell ⟨g,i,none⟩ u):=
 ⟨rfl,rfl,rfl,by simp[World.setCell],fun k _ a=>qwc _ _ _ _ (by rintro rfl;exact a b)⟩
theorem Turns.new_{x:Nat}(h:Turns (x::T) w w')(d:w.heap.size<=x):Turns T w w':=
 ⟨h.os,h.tape,h.output,h.size,fun i c b=>h.block i c fun a=>by
  rcases qsm.1 a with rfl|a
  ·omega
  ·exact b a⟩
abbrev qxh:=@Turns.new_
theorem Turns.below{B:Nat}{a:World}(h:Below B a w)(k:Turns T w w')(b:∀x∈T,B<=x)(e:B<=a.heap.size):Below B a w':=
 ⟨k.os.trans h.os,k.tape.trans h.tape,k.output.trans h.output,qqs h.size k.size,fun i c=>(k.block i (by have:=h.size;omega) (fun d=>by have:=b i d;omega)).trans (h.block i c)⟩
theorem Turns.new(k:Turns T w w')(a:∀x∈T,w.heap.size<=x):Below w.heap.size w w':=k.below (qwd _ _) a (qq0 _)
theorem Blk.touch{g:Nat}{t:TypeId}{cs:Array Value}(h:Blk w g t cs)(k:Turns T w w')(a:g∉T):Blk w' g t cs:=(k.block g h.lt a).trans h
theorem Own.touch{base:Nat}{e:TypeId}{v:Value}{xs:List Value}(h:Own w base e v xs)(k:Turns T w w')(f:∀x∈T,v.ownBlock≠some x):Own w' base e v xs:=by
 refine⟨h.1,?_⟩;rcases h.2 with j|⟨g,b,c,rfl,d,a,rest⟩
 ·exact .inl j
 ·refine .inr ⟨g,b,c,rfl,d,?_,rest⟩
  rw[k.block g (qq2.1 a).1 (fun i=>f g i rfl)];exact a
theorem Reads.touch{B size n:Nat}{A:Option Addr}{xs:List Value}(h:Reads w B size A n xs)(k:Turns T w w')(a:∀x∈T,B<=x)(c:B<=w.heap.size):Reads w' B size A n xs:=
 h.keep fun p d=>World.cell?_of_block (k.block p.block (by omega) (fun b=>by have:=a _ b;omega))
theorem Turns.far{g:Nat}(h:Turns [g] w w'):w.grownBy w' (some g):=⟨h.os,h.tape,h.output,h.size,fun k c a=>h.block k c (by intro b;simp at b;subst b;exact a rfl)⟩
end
theorem Own.row{w:World}{base:Nat}{e:TypeId}{v:Value}{xs:List Value}(h:Own w base e v xs):∀g,v.ownBlock=some g-> ∃cs,Blk w g e cs:=by
 intro g b;rcases h.2 with⟨rfl,_⟩|⟨d,c,a,rfl,_,f,_⟩
 ·simp[Value.ownBlock] at b
 ·have:d=g:=by simpa[Value.ownBlock] using b
  subst this;exact⟨a,f⟩
theorem Blk.push{w w':World}{g:Nat}{t e:TypeId}{cs:Array Value}{base:Nat}{v:Value}{xs:List Value}(h:Blk w g t cs)(o:Own w base e v xs)(c:w.grownBy w' v.ownBlock)(a:e≠t):Blk w' g t cs:=
 h.grown c (fun b=>o.blk_ne h a b.symm)
theorem Reads.litV(w:World)(e:TypeId)(cs:Array Value)(n:Nat)(xs:List Value)(h:cs.toList=xs)(a:n=xs.length):Reads (w.alloc (.cells cs e)) (w.alloc (.cells cs e)).heap.size 1 (some ⟨w.heap.size,0,none⟩) n xs:=by subst a;refine⟨by simp,fun _=>⟨_,rfl,by simp,?_⟩⟩;have:=qwe (heap_alloc_new w (.cells cs e));rwa[h] at this
abbrev qxi:=@Reads.litV
theorem New.alloc{w w':World}(o:Obj)(h:Below (w.alloc o).heap.size (w.alloc o) w'):New w w':=((qwd _ w).alloc (qq0 _) o).trans (h.mono (by simp))
theorem zpv(w:World)(m n:Nat):(w.drewN m).drewN n=w.drewN (m+n):=by simp[World.drewN,Nat.add_assoc]
theorem zd4(w:World)(k:Nat):New w (w.drewN k):=⟨rfl,rfl,rfl,qq0 _,fun _ _=>rfl⟩
theorem Reads.later{a w:World}{A:Option Addr}{n s:Nat}{xs:List Value}(h:Reads a a.heap.size s A n xs)(b:Below a.heap.size a w):Reads w w.heap.size s A n xs:=(h.below b).more b.size
abbrev qxj:=@Reads.later
theorem Own.later{a w:World}{base:Nat}{e:TypeId}{v:Value}{xs:List Value}(h:Own a base e v xs)(b:Below a.heap.size a w):Own w base e v xs:=h.below b (qq0 _)
open Go Go.RowKit Go.WideShapes Go.ChangeShapes Go.Deep
section
variable{H:Type}{enc:TypeId × Value->H}{P:Program}{W:World}{t e:TypeId}{cs:List Value}
def Held(enc:TypeId × Value->H)(P:Program)(W:World)(t:TypeId)(cs:List Value):Prop:=
 ∃(fuel:Nat) (d:DataW H) (ps:List MemPlace),DataW.trod enc P W 0 (fun _=>true) true fuel t cs=some (d,ps)/\(∀p∈ps,p.block<W.heap.size)/\ ∀n∈d.weights P t,n<=reachBytes
theorem Held.of{v:Value}{d:DataW H}{c:List MemPlace}(h:DataW.Trod enc P W 0 (fun _=>true) true t v d c)(b:∀p∈c,p.block<W.heap.size)(f:∀n∈d.weights P t,n<=reachBytes):Held enc P W t v.cells.toList:=by obtain⟨a,h⟩:=h;exact⟨a,d,c,h,b,f⟩
theorem Held.int{k:IntKind}(c:P.underlying t=some (.int k))(h:Held enc P W t cs):∃n,cs=[.int k n]/\k.min<=n/\n<=k.max:=by obtain⟨b,d,f,h,_,_⟩:=h;obtain⟨n,rfl,_,a⟩:=DataW.trod_int c h;simp only[Lit.wf,qsl,decide_eq_true_eq] at a;exact⟨n,rfl,a.1,a.2⟩
theorem Held.i64(d:P.underlying t=some (.int .i64))(h:Held enc P W t cs):∃n:Int,cs=[.int .i64 n]/\ -9223372036854775808<=n/\n<=9223372036854775807:=by obtain⟨n,b,a,c⟩:=h.int d;simp[IntKind.min,IntKind.max,IntKind.signed,IntKind.bits] at a c;exact⟨n,b,a,by omega⟩
theorem Held.bool(c:P.underlying t=some .bool)(h:Held enc P W t cs):∃b,cs=[.bool b]:=by obtain⟨a,d,f,h,_,_⟩:=h;obtain⟨b,rfl,_⟩:=DataW.trod_bool c h;exact⟨b,rfl⟩
theorem qj1(s:ByteArray):∃l:List Nat,s=zaf l/\(∀x∈l,x<256)/\l.length=s.size:=by
 refine⟨s.data.toList.map UInt8.toNat,?_,?_,by simp⟩
 ·refine ByteArray.ext ?_
  show s.data=((s.data.toList.map UInt8.toNat).map UInt8.ofNat).toArray;rw[qsj];have:(UInt8.ofNat ∘ UInt8.toNat)=id:=by funext x;simp
  rw[this];simp
 ·intro x a
  simp only[qqu] at a;obtain⟨y,_,rfl⟩:=a;exact y.toNat_lt
theorem Held.string(g:P.underlying t=some .string)(h:Held enc P W t cs):∃l:List Nat,cs=[.string (zaf l)]/\(∀x∈l,x<256)/\l.length<=140737488351232:=by obtain⟨a,d,j,h,_,i⟩:=h;obtain⟨s,rfl,b,_⟩:=DataW.trod_string g h;simp only[qqg] at b;obtain⟨rfl,_⟩:=b;obtain⟨l,rfl,c,f⟩:=qj1 s;refine⟨l,rfl,c,?_⟩;have:=i (zaf l).data.toList.length (by simp[DataW.weights]);rw[qq8] at this;have e:(zaf l).data.size=l.length:=f.symm;rw[e] at this;unfold reachBytes at this;omega
theorem zii{d:DataW H}:∀{a:List (DataW H)},d∈a-> ∀n∈d.weights P e,n∈DataW.weightsAll P e a
 | [],h,_,_=>by cases h
 |x::a,h,n,b=>by
  rw[DataW.weightsAll,qr5];rcases qsm.1 h with rfl|h
  ·exact .inl b
  ·exact .inr (zii h n b)
theorem Held.field{c:Array Field}(o:P.underlying t=some (.struct c))(h:Held enc P W t cs):cs.length=P.cellsOf t/\ ∀(i:Nat) (f:Field),c[i]? =some f->Held enc P W f.type ((cs.drop f.offset).take (P.cellsOf f.type)):=by obtain⟨l,d,z,h,k,x⟩:=h;obtain⟨b,n,rfl,q,u,y,r⟩:=DataW.trod_struct o h;simp only[qqg] at q;obtain⟨rfl,rfl⟩:=q;refine⟨u,fun i f g=>?_⟩;have s:i<c.size:=(qq2.1 g).1;have a:b[i]? =some (b[i]'(by omega)):=qqt (by omega);refine⟨n,(b[i]'(by omega)).1,(b[i]'(by omega)).2,(r i f g).trans a,fun p w=>k p (qtj.2 ⟨_,qrf _,w⟩),fun m v=>x m ?_⟩;rw[DataW.weights];simp only[o];exact DataW.weights_mem_each (j:=i) (t:=f.type) (d:=(b[i]'(by omega)).1) (by rw[qtk,Array.getElem?_toList,g];rfl) (by rw[qtk,a];rfl) m v
theorem Held.array{n:Nat}(j:P.underlying t=some (.array n e))(h:Held enc P W t cs):cs.length=P.cellsOf t/\ ∀i,i<n->Held enc P W e ((cs.drop (i*P.cellsOf e)).take (P.cellsOf e)):=by obtain⟨g,d,w,h,c,u⟩:=h;obtain⟨a,m,_,l,r,v,o⟩:=DataW.trod_array j h;simp only[qqg] at l;obtain⟨rfl,rfl⟩:=l;refine⟨r,fun i b=>?_⟩;have f:a[i]? =some (a[i]'(by omega)):=qqt (by omega);refine⟨m,(a[i]'(by omega)).1,(a[i]'(by omega)).2,(o i b).trans f,fun p s=>c p (qtj.2 ⟨_,qrf _,s⟩),fun k q=>u k ?_⟩;rw[DataW.weights];simp only[j];exact zii (qqu.2 ⟨_,qrf _,rfl⟩) k q
theorem Held.slice(w:P.underlying t=some (.slice e))(h:Held enc P W t cs):
 cs=[.slice none 0 0]\/ ∃(a:Addr) (b cap:Nat),cs=[.slice (some a) b cap]/\b<=cap/\cap<=maxLen/\cap*P.bytesOf e<=reachBytes/\(0<cap*P.cellsOf e->a.block<W.heap.size)/\
  ∀i,i<cap-> ∃cs',W.cells? 0 (a.add (i*P.cellsOf e)) (P.cellsOf e)=some cs'/\Held enc P W e cs':=by
 obtain⟨u,d,I,h,g,G⟩:=h;rcases open_slice w h with⟨c,_⟩|⟨a,b,cap,m,n,D,y,c,_,C,E,l,q,B⟩
 ·exact .inl c
 ·rw[if_pos rfl] at l
  subst l;simp only[qqg] at q;obtain⟨rfl,rfl⟩:=q;have o:∀x∈(m*P.bytesOf e)::(DataW.weightsAll P e ((List.range b).map D)++DataW.weightsAll P e ((List.range (m-b)).map fun j=>D (b+j))),x<=reachBytes:=by intro x q;refine G x ?_;rw[DataW.weights];simp only[w,qtl,qtm];rw[show b+(m-b)=m by omega];exact q
  refine .inr ⟨a,b,m,c,C,E,o _ (by simp),fun z=>?_,fun i f=>?_⟩
  ·exact g (.cell a.block a.off) (by rw[qr5];left;unfold MemPlace.row;simp only[qqu,qtn];exact⟨0,z,rfl⟩)
  ·obtain⟨cs',A,s⟩:=B i f
   refine⟨cs',A,n,D i,y i,s,fun p F=>g p ?_,fun k v=>o k ?_⟩
   ·rw[qr5]
    right;exact qtj.2 ⟨i,by simpa using f,F⟩
   ·rw[qsm,qr5]
    right;by_cases r:i<b
    ·exact .inl (zii (qqu.2 ⟨i,by simpa using r,rfl⟩) k v)
    ·exact .inr (zii (qqu.2 ⟨i-b,by simp;omega,by rw[show b+(i-b)=i by omega]⟩) k v)
def recs{α:Type}(f:α->List Value)(l:List α):List Value:=l.flatMap f
theorem zhq{α:Type}(f:α->List Value)(x:α)(l:List α):recs f (x::l)=f x++recs f l:=rfl
theorem zbe{α:Type}(f:α->List Value)(l m:List α):recs f (l++m)=recs f l++recs f m:=by simp[recs]
theorem zaw{α:Type}{f:α->List Value}{sz:Nat}(a:∀x,(f x).length=sz)(l:List α):(recs f l).length=l.length*sz:=by
 induction l with
 |nil=>simp[recs]
 |cons x l b=>rw[zhq,qrp,a,b,qr1,qsv,qse]
theorem zpy{α:Type}{f:α->List Value}{sz:Nat}(a:∀x,(f x).length=sz)(l:List α)(d:α):∀i j,i<l.length->j<sz->(recs f l)[i*sz+j]? =(f (l.getD i d))[j]? :=by
 induction l with
 |nil=>intro i j h;simp at h
 |cons x l g=>
  intro i j c b;cases i with
  |zero=>
   rw[zhq,qto,qrs,qs2 (by rw[a];exact b)];rfl
  |succ i=>
   rw[zhq,qtp (by rw[a,qsv];omega),a,show(i+1)*sz+j-sz=i*sz+j by rw[qsv];omega,g i j (by simpa using c) b];simp
theorem zpz{α:Type}{f:α->List Value}{sz:Nat}(a:∀x,(f x).length=sz)(l:List α)(k:Nat)(b:k<=l.length):(recs f l).drop (k*sz)=recs f (l.drop k):=by
 conv=>lhs;rw[<-qtq k l,zbe]
 rw[qtr];rw[zaw a,qqx,qqy b]
theorem zjd{α:Type}{f:α->List Value}{sz:Nat}(a:∀x,(f x).length=sz)(l:List α)(k:Nat)(b:k<=l.length):(recs f l).take (k*sz)=recs f (l.take k):=by
 conv=>lhs;rw[<-qtq k l,zbe]
 rw[qts];rw[zaw a,qqx,qqy b]
theorem Reads.rec_{α:Type}{f:α->List Value}{sz:Nat}(a:∀x,(f x).length=sz){w:World}{B n i:Nat}{A:Option Addr}{l:List α}(d:α)(h:Reads w B sz A n (recs f l))(hi:i<n)(g:0<sz):
 ∃ad,A=some ad/\ad.block<B/\i<l.length/\ ∀j u,(f (l.getD i d))[j]? =some u->w.cell? (ad.add (i*sz+j))=some u:=by
 obtain⟨ad,e,k,m⟩:=h.2 (by omega);have b:=h.1;rw[zaw a] at b;have p:l.length=n:=qtt g b;refine⟨ad,e,k,by omega,fun j u c=>m _ u ?_⟩;have o:j<sz:=by rw[<-a (l.getD i d)];exact(qtu.1 c).1
 rw[zpy a l d i j (by omega) o];exact c
theorem Reads.lenR{α:Type}{f:α->List Value}{sz:Nat}(c:∀x,(f x).length=sz){w:World}{B n:Nat}{A:Option Addr}{l:List α}(h:Reads w B sz A n (recs f l))(b:0<sz):n=l.length:=by have a:=h.1;rw[zaw c] at a;exact(qtt b a).symm
theorem zy6{α:Type}{p:Nat->α->Prop}(d:α):∀n,(∀i,i<n-> ∃x,p i x)-> ∃l:List α,l.length=n/\ ∀i,i<n->p i (l.getD i d):=by
 intro n;induction n with
 |zero=>intro _;exact⟨[],rfl,fun i h=>by omega⟩
 |succ n j=>
  intro h;obtain⟨l,b,f⟩:=j (fun i c=>h i (by omega));obtain⟨x,g⟩:=h n (by omega);refine⟨l++[x],by simp[b],fun i c=>?_⟩;by_cases a:i<n
  ·have e:(l++[x]).getD i d=l.getD i d:=by rw[qsh,qs2 (by omega),<-qsh]
   rw[e];exact f i a
  ·obtain rfl:i=n:=by omega
   have e:(l++[x]).getD i d=x:=by rw[qsh,qtp (by omega),b];simp
   rw[e];exact g
theorem Held.recs{α:Type}{f:α->List Value}{sz by_:Nat}{Q:α->Prop}(d:α)(O:P.underlying t=some (.slice e))(I:P.cellsOf e=sz)(q:P.bytesOf e=by_)(v:∀x,(f x).length=sz)(z:0<sz)
 (s:∀cs,Held enc P W e cs-> ∃x,cs=f x/\Q x)(h:Held enc P W t cs):
 ∃A c,∃l:List α,cs=[.slice A l.length c]/\l.length<=c/\c<=maxLen/\c*by_<=reachBytes/\Reads W W.heap.size sz A l.length (Hm.recs f l)/\ ∀x∈l,Q x:=by
 rcases h.slice O with rfl|⟨a,y,m,rfl,L,M,G,B,C⟩
 ·exact⟨none,0,[],rfl,by simp,by simp[maxLen],by simp,⟨by simp[Hm.recs],fun h=>by simp at h⟩,by simp⟩
 ·rw[I] at C B
  rw[q] at G;obtain⟨l,w,E⟩:=zy6 (p:=fun i x=>W.cells? 0 (a.add (i*sz)) sz=some (f x)/\Q x) d y (fun i K=>by obtain⟨n,r,J⟩:=C i (by omega);obtain⟨x,rfl,N⟩:=s n J;exact⟨x,r,N⟩)
  subst w;refine⟨some a,m,l,rfl,L,M,G,⟨by rw[zaw v],fun S=>⟨a,rfl,B (Nat.mul_pos (by omega) z),fun j u F=>?_⟩⟩,fun x R=>?_⟩
  ·have D:j<l.length*sz:=by
    rw[<-zaw v];exact(qtu.1 F).1
   have g:j/sz<l.length:=by rw[qrl] at D;exact qrz D
   have k:j%sz<sz:=qr7 _ z;obtain⟨r,_⟩:=E (j/sz) g;obtain⟨_,_,o⟩:=World.cells?_some r;have:=o (j%sz) k;rw[Go.Deep.add_add,qrl (j/sz),Nat.div_add_mod] at this;rw[this,<-F];have e:=zpy v l d (j/sz) (j%sz) g k;rw[qrl (j/sz),Nat.div_add_mod] at e;rw[e]
  ·obtain⟨i,b,rfl⟩:=qtv R
   have:=(E i b).2;rwa[qsh,qqt b] at this
end
open Go Go.RowKit Go.WideShapes Go.ChangeShapes Go.Deep
def zdy(l:List (Int × Int)):List Value:=l.flatMap fun p=>[.int .i64 p.1,.int .i64 p.2]
theorem zg6(l:List (Int × Int)):(zdy l).length=l.length*2:=by
 induction l with
 |nil=>rfl
 |cons p l a=>simp only[zdy,qt6,qrp,qr1,qub] at a⊢;rw[a];omega
theorem qep(l:List (Int × Int)):∀i,i<l.length->(zdy l)[i*2]? =some (.int .i64 (l.getD i (0,0)).1)/\(zdy l)[i*2+1]? =some (.int .i64 (l.getD i (0,0)).2):=by
 induction l with
 |nil=>intro i h;simp at h
 |cons p l a=>
  intro i h;cases i with
  |zero=>exact⟨rfl,rfl⟩
  |succ i=>
   have:=a i (by simpa using h);rw[show(i+1)*2=i*2+1+1 by omega];exact this
theorem Reads.lenP{w:World}{B n:Nat}{A:Option Addr}{l:List (Int × Int)}(h:Reads w B 2 A n (zdy l)):n=l.length:=by have:=h.1;rw[zg6] at this;omega
theorem Reads.pair{w:World}{B n i:Nat}{A:Option Addr}{l:List (Int × Int)}(h:Reads w B 2 A n (zdy l))(hi:i<n):
 ∃ad,A=some ad/\ad.block<B/\w.cell? (ad.add (i*2))=some (.int .i64 (l.getD i (0,0)).1)/\w.cell? (ad.add (i*2+1))=some (.int .i64 (l.getD i (0,0)).2):=by
 obtain⟨ad,e,d,a⟩:=h.2 (by omega);have f:=h.lenP;obtain⟨b,c⟩:=qep l i (by omega);exact⟨ad,e,d,a _ _ b,a _ _ c⟩
def ziy(f t s:Nat):Nat:=(t-f+s-1)/s
def z2o(f t s i:Nat):Int × Int:=(((f+i*s:Nat):Int),((min (f+(i+1)*s) t:Nat):Int))
def zhb(f t s:Nat):List (Int × Int):=(List.range (ziy f t s)).map (z2o f t s)
theorem zhc{f t s:Nat}(a:0<s)(k:Nat):k<ziy f t s↔f+k*s<t:=by unfold ziy;rw[<-Nat.succ_le_iff,Nat.le_div_iff_mul_le a,qsv];omega
theorem z2p{f t s:Nat}(a:0<s):ziy f t s<=t-f:=by
 rcases qrg (ziy f t s) with h|h
 ·omega
 ·have:=(zhc (f:=f) (t:=t) a (ziy f t s-1)).1 (by omega)
  have:ziy f t s-1<=(ziy f t s-1)*s:=Nat.le_mul_of_pos_right _ a;omega
theorem zgh(f t s:Nat):(zhb f t s).length=ziy f t s:=by simp[zhb]
theorem zqz{f t s i:Nat}(hi:i<ziy f t s):(zhb f t s).getD i (0,0)=z2o f t s i:=by simp[zhb,List.getD_eq_getElem?_getD,List.getElem?_map,List.getElem?_range hi]
theorem zq0{f t s k:Nat}(a:k<ziy f t s):(zhb f t s).take (k+1)=(zhb f t s).take k++[z2o f t s k]:=by rw[zac _ k (0,0) (by rw[zgh];exact a),zqz a]
def atN(f t s k:Nat):Nat:=min (f+k*s) t
theorem z2q{f t s k:Nat}(b:f+k*s<t):atN f t s k=f+k*s/\atN f t s (k+1)=atN f t s k+min s (t-atN f t s k)/\z2o f t s k=((atN f t s k:Int),(atN f t s (k+1):Int)):=by
 have a:atN f t s k=f+k*s:=by unfold atN;omega
 refine⟨a,?_,?_⟩
 ·rw[a];unfold atN;rw[qsv];omega
 ·rw[a];rfl
def zbl(f t s:Int):List (Int × Int):=if f<0\/t<=f\/65536<t\/s<1 then [] else zhb f.toNat t.toNat s.toNat
theorem zxb{f t s:Int}(h:f<0\/t<=f\/65536<t\/s<1):zbl f t s=[]:=by rw[zbl,if_pos h]
theorem z2r{f t s:Nat}(a:f<t)(b:t<=65536)(c:0<s):zbl f t s=zhb f t s:=by rw[zbl,if_neg (by omega)];simp
theorem zml(f t s:Int):(zbl f t s).length<=65536:=by
 unfold zbl;split
 ·simp
 ·rw[zgh]
  have:=z2p (f:=f.toNat) (t:=t.toNat) (s:=s.toNat) (by omega);omega
def qpv(x:Int × Int)(f t:Int):Prop:=x.1<t/\f<x.2/\f<t
instance(x:Int × Int)(f t:Int):Decidable (qpv x f t):=by unfold qpv;exact inferInstance
end Go.Hm
