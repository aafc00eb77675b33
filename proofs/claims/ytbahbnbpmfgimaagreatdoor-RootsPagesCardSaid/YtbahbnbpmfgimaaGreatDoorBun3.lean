/- Merged. -/
import Derived.Deep.Fields
import Derived.OpenShut
import Derived.Test.YtbahbnbpmfgimaaGreatDoorBun2
set_option maxHeartbeats 200000
namespace Go.Hm
open Go.RowKit
structure Turns(T:List Nat)(w w':World):Prop where
 os:w'.os=w.os
 tape:w'.tape=w.tape
 output:w'.output=w.output
 size:w.heap.size<=w'.heap.size
 block:∀k,k<w.heap.size->k∉T->w'.heap[k]? =w.heap[k]?
section
variable{T T':List Nat}{w w' w2:World}
theorem Turns.refl(T:List Nat)(w:World):Turns T w w:=⟨rfl,rfl,rfl,qmt _,fun _ _ _=>rfl⟩
theorem Turns.trans(h:Turns T w w')(k:Turns T w' w2):Turns T w w2:=
 ⟨k.os.trans h.os,k.tape.trans h.tape,k.output.trans h.output,qml h.size k.size,fun i hi hT=>(k.block i (qmo hi h.size) hT).trans (h.block i hi hT)⟩
theorem Turns.more(h:Turns T w w')(hs:∀x∈T,x∈T'):Turns T' w w':=⟨h.os,h.tape,h.output,h.size,fun i hi hT=>h.block i hi fun hx=>hT (hs i hx)⟩
theorem Turns.of_new(h:Below w.heap.size w w'):Turns T w w':=⟨h.os,h.tape,h.output,h.size,fun k hk _=>h.block k hk⟩
theorem Turns.of_far{g:Nat}(h:w.grownBy w' (some g))(hg:g∈T):Turns T w w':=
 ⟨h.os,h.tape,h.output,h.size,fun k hk hT=>h.block k hk (fun e=>by injection e with e;subst e;exact hT hg)⟩
theorem Turns.of_none(h:w.grownBy w' none):Turns T w w':=⟨h.os,h.tape,h.output,h.size,fun k hk _=>h.block k hk (by simp)⟩
theorem Turns.drew(T:List Nat)(w:World):Turns T w w.drew:=⟨rfl,rfl,rfl,qmt _,fun _ _ _=>rfl⟩
theorem Turns.drewN(T:List Nat)(w:World)(n:Nat):Turns T w (w.drewN n):=⟨rfl,rfl,rfl,qmt _,fun _ _ _=>rfl⟩
theorem Turns.setCell{g i:Nat}(u:Value)(hg:g∈T)(w:World):Turns T w (w.setCell ⟨g,i,none⟩ u):=
 ⟨rfl,rfl,rfl,by simp[World.setCell],fun k _ hT=>Below.heap_setCell _ _ _ _ (by rintro rfl;exact hT hg)⟩
theorem Turns.new_{x:Nat}(h:Turns (x::T) w w')(hx:w.heap.size<=x):Turns T w w':=
 ⟨h.os,h.tape,h.output,h.size,fun i hi hT=>h.block i hi fun hm=>by
  rcases qof.1 hm with rfl|hm
  ·omega
  ·exact hT hm⟩
theorem Turns.below{B:Nat}{a:World}(h:Below B a w)(k:Turns T w w')(hT:∀x∈T,B<=x)(hB:B<=a.heap.size):Below B a w':=
 ⟨k.os.trans h.os,k.tape.trans h.tape,k.output.trans h.output,qml h.size k.size,fun i hi=>(k.block i (by have:=h.size;omega) (fun hm=>by have:=hT i hm;omega)).trans (h.block i hi)⟩
theorem Turns.new(k:Turns T w w')(hT:∀x∈T,w.heap.size<=x):Below w.heap.size w w':=k.below (Below.refl _ _) hT (qmt _)
theorem Blk.touch{g:Nat}{t:TypeId}{cs:Array Value}(h:Blk w g t cs)(k:Turns T w w')(hg:g∉T):Blk w' g t cs:=(k.block g h.lt hg).trans h
theorem Own.touch{base:Nat}{e:TypeId}{v:Value}{xs:List Value}(h:Own w base e v xs)(k:Turns T w w')(hT:∀x∈T,v.ownBlock≠some x):Own w' base e v xs:=by
 refine⟨h.1,?_⟩;rcases h.2 with hn|⟨g,cap,cur,rfl,hbg,hgg,rest⟩
 ·exact .inl hn
 ·refine .inr ⟨g,cap,cur,rfl,hbg,?_,rest⟩
  rw[k.block g (qmv.1 hgg).1 (fun hm=>hT g hm rfl)];exact hgg
theorem Reads.touch{B size n:Nat}{A:Option Addr}{xs:List Value}(h:Reads w B size A n xs)(k:Turns T w w')(hT:∀x∈T,B<=x)(hB:B<=w.heap.size):Reads w' B size A n xs:=
 h.keep fun p hp=>World.cell?_of_block (k.block p.block (by omega) (fun hm=>by have:=hT _ hm;omega))
theorem Turns.far{g:Nat}(h:Turns [g] w w'):w.grownBy w' (some g):=⟨h.os,h.tape,h.output,h.size,fun k hk hne=>h.block k hk (by intro hm;simp at hm;subst hm;exact hne rfl)⟩
end
theorem Own.row{w:World}{base:Nat}{e:TypeId}{v:Value}{xs:List Value}(h:Own w base e v xs):∀g,v.ownBlock=some g-> ∃cs,Blk w g e cs:=by
 intro g hg;rcases h.2 with⟨rfl,_⟩|⟨g',cap,cur,rfl,_,hh,_⟩
 ·simp[Value.ownBlock] at hg
 ·have:g'=g:=by simpa[Value.ownBlock] using hg
  subst this;exact⟨cur,hh⟩
theorem Blk.push{w w':World}{g:Nat}{t e:TypeId}{cs:Array Value}{base:Nat}{v:Value}{xs:List Value}(h:Blk w g t cs)(o:Own w base e v xs)(hg:w.grownBy w' v.ownBlock)(hne:e≠t):Blk w' g t cs:=
 h.grown hg (fun e'=>o.blk_ne h hne e'.symm)
theorem Reads.litV(w:World)(e:TypeId)(cs:Array Value)(n:Nat)(xs:List Value)(h:cs.toList=xs)(hn:n=xs.length):Reads (w.alloc (.cells cs e)) (w.alloc (.cells cs e)).heap.size 1 (some ⟨w.heap.size,0,none⟩) n xs:=by subst hn;refine⟨by simp,fun _=>⟨_,rfl,by simp,?_⟩⟩;have:=World.news_of_block (heap_alloc_new w (.cells cs e));rwa[h] at this
theorem New.alloc{w w':World}(o:Obj)(h:Below (w.alloc o).heap.size (w.alloc o) w'):New w w':=((Below.refl _ w).alloc (qmt _) o).trans (h.mono (by simp))
theorem zod(w:World)(m n:Nat):(w.drewN m).drewN n=w.drewN (m+n):=by simp[World.drewN,Nat.add_assoc]
theorem zg2(w:World)(k:Nat):New w (w.drewN k):=⟨rfl,rfl,rfl,qmt _,fun _ _=>rfl⟩
theorem Reads.later{w0 w:World}{A:Option Addr}{n s:Nat}{xs:List Value}(h:Reads w0 w0.heap.size s A n xs)(hb:Below w0.heap.size w0 w):Reads w w.heap.size s A n xs:=(h.below hb).more hb.size
theorem Own.later{w0 w:World}{base:Nat}{e:TypeId}{v:Value}{xs:List Value}(h:Own w0 base e v xs)(hb:Below w0.heap.size w0 w):Own w base e v xs:=h.below hb (qmt _)
open Go Go.RowKit Go.WideShapes Go.ChangeShapes Go.Deep
section
variable{H:Type}{enc:TypeId × Value->H}{P:Program}{W:World}{t e:TypeId}{cs:List Value}
def Held(enc:TypeId × Value->H)(P:Program)(W:World)(t:TypeId)(cs:List Value):Prop:=
 ∃(fuel:Nat) (d:DataW H) (ps:List MemPlace),DataW.trod enc P W 0 (fun _=>true) true fuel t cs=some (d,ps)/\(∀p∈ps,p.block<W.heap.size)/\ ∀n∈d.weights P t,n<=reachBytes
theorem Held.of{v:Value}{d:DataW H}{ps:List MemPlace}(h:DataW.Trod enc P W 0 (fun _=>true) true t v d ps)(hlt:∀p∈ps,p.block<W.heap.size)(hw:∀n∈d.weights P t,n<=reachBytes):Held enc P W t v.cells.toList:=by obtain⟨fuel,h⟩:=h;exact⟨fuel,d,ps,h,hlt,hw⟩
theorem Held.int{k:IntKind}(ht:P.underlying t=some (.int k))(h:Held enc P W t cs):∃n,cs=[.int k n]/\k.min<=n/\n<=k.max:=by obtain⟨fuel,d,ps,h,_,_⟩:=h;obtain⟨n,rfl,_,hw⟩:=DataW.trod_int ht h;simp only[Lit.wf,qoe,decide_eq_true_eq] at hw;exact⟨n,rfl,hw.1,hw.2⟩
theorem Held.i64(ht:P.underlying t=some (.int .i64))(h:Held enc P W t cs):∃n:Int,cs=[.int .i64 n]/\ -9223372036854775808<=n/\n<=9223372036854775807:=by obtain⟨n,h1,h2,h3⟩:=h.int ht;simp[IntKind.min,IntKind.max,IntKind.signed,IntKind.bits] at h2 h3;exact⟨n,h1,h2,by omega⟩
theorem Held.nat{k:IntKind}(hs:k.signed=false)(ht:P.underlying t=some (.int k))(h:Held enc P W t cs):∃n:Nat,cs=[.int k (n:Int)]/\(n:Int)<=k.max:=by obtain⟨n,h1,h2,h3⟩:=h.int ht;simp[IntKind.min,hs] at h2;obtain⟨n,rfl⟩:=qon h2;exact⟨n,h1,h3⟩
theorem Held.bool(ht:P.underlying t=some .bool)(h:Held enc P W t cs):∃b,cs=[.bool b]:=by obtain⟨fuel,d,ps,h,_,_⟩:=h;obtain⟨b,rfl,_⟩:=DataW.trod_bool ht h;exact⟨b,rfl⟩
theorem qgu(s:ByteArray):∃l:List Nat,s=zae l/\(∀x∈l,x<256)/\l.length=s.size:=by
 refine⟨s.data.toList.map UInt8.toNat,?_,?_,by simp⟩
 ·refine ByteArray.ext ?_
  show s.data=((s.data.toList.map UInt8.toNat).map UInt8.ofNat).toArray;rw[qoc];have:(UInt8.ofNat ∘ UInt8.toNat)=id:=by funext x;simp
  rw[this];simp
 ·intro x hx
  simp only[qmn] at hx;obtain⟨y,_,rfl⟩:=hx;exact y.toNat_lt
theorem Held.string(ht:P.underlying t=some .string)(h:Held enc P W t cs):∃l:List Nat,cs=[.string (zae l)]/\(∀x∈l,x<256)/\l.length<=140737488351232:=by obtain⟨fuel,d,ps,h,_,hw⟩:=h;obtain⟨s,rfl,hx,_⟩:=DataW.trod_string ht h;simp only[qmi] at hx;obtain⟨rfl,_⟩:=hx;obtain⟨l,rfl,h8,hl⟩:=qgu s;refine⟨l,rfl,h8,?_⟩;have:=hw (zae l).data.toList.length (by simp[DataW.weights]);rw[qm1] at this;have e:(zae l).data.size=l.length:=hl.symm;rw[e] at this;unfold reachBytes at this;omega
theorem zhq{d:DataW H}:∀{ds:List (DataW H)},d∈ds-> ∀n∈d.weights P e,n∈DataW.weightsAll P e ds
 | [],h,_,_=>by cases h
 |x::ds,h,n,hn=>by
  rw[DataW.weightsAll,qny];rcases qof.1 h with rfl|h
  ·exact .inl hn
  ·exact .inr (zhq h n hn)
theorem Held.field{fs:Array Field}(ht:P.underlying t=some (.struct fs))(h:Held enc P W t cs):cs.length=P.cellsOf t/\ ∀(i:Nat) (f:Field),fs[i]? =some f->Held enc P W f.type ((cs.drop f.offset).take (P.cellsOf f.type)):=by obtain⟨fuel,d,ps,h,hlt,hw⟩:=h;obtain⟨xs,n,rfl,hx,hl,hxl,hf⟩:=DataW.trod_struct ht h;simp only[qmi] at hx;obtain⟨rfl,rfl⟩:=hx;refine⟨hl,fun i f hi=>?_⟩;have hil:i<fs.size:=(qmv.1 hi).1;have hxi:xs[i]? =some (xs[i]'(by omega)):=qmm (by omega);refine⟨n,(xs[i]'(by omega)).1,(xs[i]'(by omega)).2,(hf i f hi).trans hxi,fun p hp=>hlt p (qpe.2 ⟨_,qm8 _,hp⟩),fun m hm=>hw m ?_⟩;rw[DataW.weights];simp only[ht];exact DataW.weights_mem_each (j:=i) (t:=f.type) (d:=(xs[i]'(by omega)).1) (by rw[qpf,Array.getElem?_toList,hi];rfl) (by rw[qpf,hxi];rfl) m hm
theorem Held.array{n:Nat}(ht:P.underlying t=some (.array n e))(h:Held enc P W t cs):cs.length=P.cellsOf t/\ ∀i,i<n->Held enc P W e ((cs.drop (i*P.cellsOf e)).take (P.cellsOf e)):=by obtain⟨fuel,d,ps,h,hlt,hw⟩:=h;obtain⟨xs,m,_,hx,hl,hxl,hi⟩:=DataW.trod_array ht h;simp only[qmi] at hx;obtain⟨rfl,rfl⟩:=hx;refine⟨hl,fun i hil=>?_⟩;have hxi:xs[i]? =some (xs[i]'(by omega)):=qmm (by omega);refine⟨m,(xs[i]'(by omega)).1,(xs[i]'(by omega)).2,(hi i hil).trans hxi,fun p hp=>hlt p (qpe.2 ⟨_,qm8 _,hp⟩),fun k hk=>hw k ?_⟩;rw[DataW.weights];simp only[ht];exact zhq (qmn.2 ⟨_,qm8 _,rfl⟩) k hk
theorem Held.slice(ht:P.underlying t=some (.slice e))(h:Held enc P W t cs):
 cs=[.slice none 0 0]\/ ∃(a:Addr) (len cap:Nat),cs=[.slice (some a) len cap]/\len<=cap/\cap<=maxLen/\cap*P.bytesOf e<=reachBytes/\(0<cap*P.cellsOf e->a.block<W.heap.size)/\
  ∀i,i<cap-> ∃cs',W.cells? 0 (a.add (i*P.cellsOf e)) (P.cellsOf e)=some cs'/\Held enc P W e cs':=by
 obtain⟨fuel,d,ps,h,hlt,hw⟩:=h;rcases open_slice ht h with⟨hcs,_⟩|⟨a,len,cap,m,n,D,Pl,hcs,_,hl,hm,hmm,hx,hi⟩
 ·exact .inl hcs
 ·rw[if_pos rfl] at hmm
  subst hmm;simp only[qmi] at hx;obtain⟨rfl,rfl⟩:=hx;have hwm:∀x∈(m*P.bytesOf e)::(DataW.weightsAll P e ((List.range len).map D)++DataW.weightsAll P e ((List.range (m-len)).map fun j=>D (len+j))),x<=reachBytes:=by intro x hx;refine hw x ?_;rw[DataW.weights];simp only[ht,qpg,qph];rw[show len+(m-len)=m by omega];exact hx
  refine .inr ⟨a,len,m,hcs,hl,hm,hwm _ (by simp),fun h0=>?_,fun i him=>?_⟩
  ·exact hlt (.cell a.block a.off) (by rw[qny];left;unfold MemPlace.row;simp only[qmn,qpi];exact⟨0,h0,rfl⟩)
  ·obtain⟨cs',hc,ht'⟩:=hi i him
   refine⟨cs',hc,n,D i,Pl i,ht',fun p hp=>hlt p ?_,fun k hk=>hwm k ?_⟩
   ·rw[qny]
    right;exact qpe.2 ⟨i,by simpa using him,hp⟩
   ·rw[qof,qny]
    right;by_cases hil:i<len
    ·exact .inl (zhq (qmn.2 ⟨i,by simpa using hil,rfl⟩) k hk)
    ·exact .inr (zhq (qmn.2 ⟨i-len,by simp;omega,by rw[show len+(i-len)=i by omega]⟩) k hk)
def recs{α:Type}(f:α->List Value)(l:List α):List Value:=l.flatMap f
theorem zg4{α:Type}(f:α->List Value)(x:α)(l:List α):recs f (x::l)=f x++recs f l:=rfl
theorem za2{α:Type}(f:α->List Value)(l m:List α):recs f (l++m)=recs f l++recs f m:=by simp[recs]
theorem zau{α:Type}{f:α->List Value}{sz:Nat}(hf:∀x,(f x).length=sz)(l:List α):(recs f l).length=l.length*sz:=by
 induction l with
 |nil=>simp[recs]
 |cons x l ih=>rw[zg4,qni,hf,ih,qnu,qoo,qn7]
theorem zog{α:Type}{f:α->List Value}{sz:Nat}(hf:∀x,(f x).length=sz)(l:List α)(d:α):∀i j,i<l.length->j<sz->(recs f l)[i*sz+j]? =(f (l.getD i d))[j]? :=by
 induction l with
 |nil=>intro i j h;simp at h
 |cons x l ih=>
  intro i j hi hj;cases i with
  |zero=>
   rw[zg4,qpj,qnl,qov (by rw[hf];exact hj)];rfl
  |succ i=>
   rw[zg4,qpk (by rw[hf,qoo];omega),hf,show(i+1)*sz+j-sz=i*sz+j by rw[qoo];omega,ih i j (by simpa using hi) hj];simp
theorem zoh{α:Type}{f:α->List Value}{sz:Nat}(hf:∀x,(f x).length=sz)(l:List α)(k:Nat)(hk:k<=l.length):(recs f l).drop (k*sz)=recs f (l.drop k):=by
 conv=>lhs;rw[<-qpl k l,za2]
 rw[qpm];rw[zau hf,qmq,qmr hk]
theorem zg5{α:Type}{f:α->List Value}{sz:Nat}(hf:∀x,(f x).length=sz)(l:List α)(k:Nat)(hk:k<=l.length):(recs f l).take (k*sz)=recs f (l.take k):=by
 conv=>lhs;rw[<-qpl k l,za2]
 rw[qpn];rw[zau hf,qmq,qmr hk]
theorem Reads.rec_{α:Type}{f:α->List Value}{sz:Nat}(hf:∀x,(f x).length=sz){w:World}{B n i:Nat}{A:Option Addr}{l:List α}(d:α)(h:Reads w B sz A n (recs f l))(hi:i<n)(h0:0<sz):
 ∃ad,A=some ad/\ad.block<B/\i<l.length/\ ∀j u,(f (l.getD i d))[j]? =some u->w.cell? (ad.add (i*sz+j))=some u:=by
 obtain⟨ad,e,hb,hc⟩:=h.2 (by omega);have hl:=h.1;rw[zau hf] at hl;have hll:l.length=n:=qpo h0 hl;refine⟨ad,e,hb,by omega,fun j u hu=>hc _ u ?_⟩;have hj:j<sz:=by rw[<-hf (l.getD i d)];exact(qpp.1 hu).1
 rw[zog hf l d i j (by omega) hj];exact hu
theorem Reads.lenR{α:Type}{f:α->List Value}{sz:Nat}(hf:∀x,(f x).length=sz){w:World}{B n:Nat}{A:Option Addr}{l:List α}(h:Reads w B sz A n (recs f l))(h0:0<sz):n=l.length:=by have hl:=h.1;rw[zau hf] at hl;exact(qpo h0 hl).symm
theorem zxx{α:Type}{p:Nat->α->Prop}(d:α):∀n,(∀i,i<n-> ∃x,p i x)-> ∃l:List α,l.length=n/\ ∀i,i<n->p i (l.getD i d):=by
 intro n;induction n with
 |zero=>intro _;exact⟨[],rfl,fun i h=>by omega⟩
 |succ n ih=>
  intro h;obtain⟨l,hl,hp⟩:=ih (fun i hi=>h i (by omega));obtain⟨x,hx⟩:=h n (by omega);refine⟨l++[x],by simp[hl],fun i hi=>?_⟩;by_cases hin:i<n
  ·have e:(l++[x]).getD i d=l.getD i d:=by rw[qoa,qov (by omega),<-qoa]
   rw[e];exact hp i hin
  ·obtain rfl:i=n:=by omega
   have e:(l++[x]).getD i d=x:=by rw[qoa,qpk (by omega),hl];simp
   rw[e];exact hx
theorem Held.recs{α:Type}{f:α->List Value}{sz by_:Nat}{Q:α->Prop}(d:α)(ht:P.underlying t=some (.slice e))(hC:P.cellsOf e=sz)(hby:P.bytesOf e=by_)(hf:∀x,(f x).length=sz)(h0:0<sz)
 (hel:∀cs,Held enc P W e cs-> ∃x,cs=f x/\Q x)(h:Held enc P W t cs):
 ∃A c,∃l:List α,cs=[.slice A l.length c]/\l.length<=c/\c<=maxLen/\c*by_<=reachBytes/\Reads W W.heap.size sz A l.length (Hm.recs f l)/\ ∀x∈l,Q x:=by
 rcases h.slice ht with rfl|⟨a,len,cap,rfl,hl,hm,hw,hb,hi⟩
 ·exact⟨none,0,[],rfl,by simp,by simp[maxLen],by simp,⟨by simp[Hm.recs],fun h=>by simp at h⟩,by simp⟩
 ·rw[hC] at hi hb
  rw[hby] at hw;obtain⟨l,hll,hp⟩:=zxx (p:=fun i x=>W.cells? 0 (a.add (i*sz)) sz=some (f x)/\Q x) d len (fun i hil=>by obtain⟨cs',hc,hh⟩:=hi i (by omega);obtain⟨x,rfl,hq⟩:=hel cs' hh;exact⟨x,hc,hq⟩)
  subst hll;refine⟨some a,cap,l,rfl,hl,hm,hw,⟨by rw[zau hf],fun hn=>⟨a,rfl,hb (Nat.mul_pos (by omega) h0),fun j u hu=>?_⟩⟩,fun x hx=>?_⟩
  ·have hj:j<l.length*sz:=by
    rw[<-zau hf];exact(qpp.1 hu).1
   have hjd:j/sz<l.length:=by rw[qne] at hj;exact qns hj
   have hjm:j%sz<sz:=qn0 _ h0;obtain⟨hc,_⟩:=hp (j/sz) hjd;obtain⟨_,_,hat⟩:=World.cells?_some hc;have:=hat (j%sz) hjm;rw[Go.Deep.add_add,qne (j/sz),Nat.div_add_mod] at this;rw[this,<-hu];have e:=zog hf l d (j/sz) (j%sz) hjd hjm;rw[qne (j/sz),Nat.div_add_mod] at e;rw[e]
  ·obtain⟨i,hi',rfl⟩:=qpq hx
   have:=(hp i hi').2;rwa[qoa,qmm hi'] at this
end
open Go Go.RowKit Go.WideShapes Go.ChangeShapes Go.Deep
def zdk(l:List (Int × Int)):List Value:=l.flatMap fun p=>[.int .i64 p.1,.int .i64 p.2]
theorem zgp(l:List (Int × Int)):(zdk l).length=l.length*2:=by
 induction l with
 |nil=>rfl
 |cons p l ih=>simp only[zdk,qp1,qni,qnu,qp3] at ih⊢;rw[ih];omega
theorem qcb(l:List (Int × Int)):∀i,i<l.length->(zdk l)[i*2]? =some (.int .i64 (l.getD i (0,0)).1)/\(zdk l)[i*2+1]? =some (.int .i64 (l.getD i (0,0)).2):=by
 induction l with
 |nil=>intro i h;simp at h
 |cons p l ih=>
  intro i h;cases i with
  |zero=>exact⟨rfl,rfl⟩
  |succ i=>
   have:=ih i (by simpa using h);rw[show(i+1)*2=i*2+1+1 by omega];exact this
theorem Reads.lenP{w:World}{B n:Nat}{A:Option Addr}{l:List (Int × Int)}(h:Reads w B 2 A n (zdk l)):n=l.length:=by have:=h.1;rw[zgp] at this;omega
theorem Reads.pair{w:World}{B n i:Nat}{A:Option Addr}{l:List (Int × Int)}(h:Reads w B 2 A n (zdk l))(hi:i<n):
 ∃ad,A=some ad/\ad.block<B/\w.cell? (ad.add (i*2))=some (.int .i64 (l.getD i (0,0)).1)/\w.cell? (ad.add (i*2+1))=some (.int .i64 (l.getD i (0,0)).2):=by
 obtain⟨ad,e,hb,hc⟩:=h.2 (by omega);have hl:=h.lenP;obtain⟨h1,h2⟩:=qcb l i (by omega);exact⟨ad,e,hb,hc _ _ h1,hc _ _ h2⟩
open Go Go.RowKit
section
variable{w w':World}{base sz n:Nat}{e:TypeId}{v:Value}{xs:List Value}
theorem z6j{B:Nat}(h:w.ownsRow base e sz v n xs)(hb:Below B w w')(hB:w.heap.size<=B):w'.ownsRow base e sz v n xs:=by
 refine⟨h.1,?_⟩;rcases h.2 with hn|⟨g,cap,cur,rfl,hbg,hgg,rest⟩
 ·exact .inl hn
 ·refine .inr ⟨g,cap,cur,rfl,hbg,?_,rest⟩
  rw[hb.block g (qmo (qmv.1 hgg).1 hB)];exact hgg
theorem za1(h:w.ownsRow base e sz v n xs)(hb:New w w'):w'.ownsRow base e sz v n xs:=z6j h hb (qmt _)
theorem zeo{b':Nat}(h:w.ownsRow base e sz v n xs)(hb:b'<=base):w.ownsRow b' e sz v n xs:=by
 refine⟨h.1,?_⟩;rcases h.2 with hn|⟨g,cap,cur,hv,hbg,rest⟩
 ·exact .inl hn
 ·exact .inr ⟨g,cap,cur,hv,qml hb hbg,rest⟩
theorem zcw(h:w.ownsRow base e sz v n xs):∃A c,v= .slice A n c/\n<=c/\c<=maxLen:=by
 rcases h.2 with⟨hv,hn⟩|⟨g,cap,cur,hv,_,_,hc,hm,_⟩
 ·exact⟨none,0,by rw[hv,hn],by omega,by simp[maxLen]⟩
 ·exact⟨_,_,hv,hc,hm⟩
theorem zc3:w.ownsRow base e sz (.slice none 0 0) 0 []:=⟨by simp,.inl ⟨rfl,rfl⟩⟩
theorem zaj{g:Nat}{t:TypeId}{cs:Array Value}(h:w.ownsRow base e sz v n xs)(hg:Blk w g t cs)(hne:e≠t):v.ownBlock≠some g:=by
 rcases h.2 with⟨rfl,_⟩|⟨g',cap,cur,rfl,_,hh,_⟩
 ·simp[Value.ownBlock]
 ·intro he
  have:g'=g:=by simpa[Value.ownBlock] using he
  subst this;exact Blk.ne_ (t:=e) hh hg hne rfl
end
theorem z2p(a b c:Value)(n:Nat):(madeCells #[a,b,c] (n*3)).toList=(List.replicate n [a,b,c]).flatten:=by
 induction n with
 |zero=>simp[madeCells]
 |succ n ih=>
  rw[qpz,qp9,<-ih];have e:∀m,m%3=0->(madeCells #[a,b,c] (m+3)).toList=(madeCells #[a,b,c] m).toList++[a,b,c]:=by intro m hm;simp only[madeCells,qqa,qqb,qqc,qp6,qnc,qnd,qm5,qnt,qnk,qnm,qnu,qp3];rw[hm,show(m+1)%3=1 by omega,show(m+2)%3=2 by omega];rfl
  rw[qoo,e (n*3) (by omega)];simp
section
variable{P:Program}{ops:Array Oper}{rest:List Oper}{o:Oper}{a:Act}{Q:Exit->Act->World->Prop}
theorem zdo{w:World}{t e:TypeId}{z:Value}{sz bytes:Nat}(E:ElT P t e z sz bytes)(hgd:o.guard=none)(s x:Operand)
 (ho:o.op= .call {callee:= .builtin .append,args:= #[s,x],argTypes:= #[t,t]})
 {W:World}{B base n:Nat}{v:Value}{us xs:List Value}(hown:w.ownsRow base e sz v n xs)(hs:a.eval s=v)(hx:a.eval x= .slice (some ⟨w.heap.size,0,none⟩) 1 1)
 (hb:Below B W w)(hbB:B<=base)(hbase:base<=w.heap.size)(hus:us.length=sz)(h1:∀u∈us,u.oneCell'=true)
 (hn:(n+1)*bytes<=140737488355328)(hm:n+1<=maxLen)
 (h:∀A' c' w',n+1<=c'->c'<=maxLen->w'.ownsRow base e sz (.slice A' (n+1) c') (n+1) (xs++us)->w.grownBy w' v.ownBlock->Below B W w'->w.heap.size<w'.heap.size->
  (Value.ownBlock (.slice A' (n+1) c')=v.ownBlock\/ ∃g,Value.ownBlock (.slice A' (n+1) c')=some g/\w.heap.size<=g)->wpList P ops Q rest (a.put o.dst (.slice A' (n+1) c')) w'):
 wpList P ops Q (o::rest) a (w.alloc (.cells us.toArray e)):=by
 obtain⟨i,hi,hz0,hz1,hz2⟩:=info_parts E.hi;refine wpList_append_own_at _ hgd s x t ho base e i z sz bytes E.ht hi hz0 hz1 hz2 E.hz E.hs v n xs hs (World.ownsRow.alloc hown _) ⟨w.heap.size,0,none⟩ 1 1 us hx (by omega) ?_ h1 hm hn (by simp;omega) ?_
 ·have:=World.news_of_block (heap_alloc_new w (.cells us.toArray e))
  simpa using this
 intro v' w' hown' hg _ hat;obtain⟨A',c',rfl,hc1,hc2⟩:=zcw hown';have hg2:w.grownBy w' v.ownBlock:=(World.grownBy_alloc w (.cells us.toArray e) v.ownBlock).trans hg;have hsz:=hg.size;simp at hsz;refine h A' c' w' hc1 hc2 hown' hg2 (hb.grown hg2 (qml hbB hbase) (fun k hk=>by have:=(World.ownsRow.lt hown k hk).1;omega)) (by omega) ?_;rcases hat with e1|e1
 ·exact .inl e1
 ·exact .inr ⟨_,e1,by simp⟩
theorem z2q{w:World}{t e:TypeId}{x y z:Value}{bytes:Nat}(E:ElT P t e (.agg #[x,y,z]) 3 bytes)(hgd:o.guard=none)(lo co:Operand)(ho:o.op=Op.makeSlice t lo co)
 {W:World}{B:Nat}{kl kc:IntKind}{L C:Int}(n:Nat)(hl:a.eval lo= .int kl L)(hc:a.eval co= .int kc C)(hL:L=(n:Int))(hC:C=(n:Int))(hb:Below B W w)(hbase:B<=w.heap.size)
 (hn:n*bytes<=140737488355328)(hm:n<=maxLen)
 (h:∀w',w'.ownsRow w.heap.size e 3 (.slice (some ⟨w.heap.size,0,none⟩) n n) n (List.replicate n [x,y,z]).flatten->w.grownBy w' none->Below B W w'->w'.heap.size=w.heap.size+1->wpList P ops Q rest (a.put o.dst (.slice (some ⟨w.heap.size,0,none⟩) n n)) w'):
 wpList P ops Q (o::rest) a w:=by
 obtain⟨i,hi,hz0,hs1,hb1⟩:=info_parts E.hi;subst hL hC;have hmC:(n:Int)<=9223372036854775807:=by have h:=hm;simp only[maxLen] at h;omega
 have hbC:(i.bytes:Int)*(n:Int)<=281474976710656:=by
  have h:((i.bytes*n:Nat):Int)<=281474976710656:=by rw[hb1,qne];omega
  rwa[qnf] at h
 have hrun:=run_make (P:=P) w t e i (.agg #[x,y,z]) E.ht hi hz0 kl kc (n:Int) (n:Int) (by omega) (by omega) hbC hmC;rw[qng,hs1] at hrun;refine wpList_plain hgd fun K hK=>?_
 unfold Oper.wp;simp[execOp,ho,hl,hc,hrun,Result.andThen];refine hK _ _ (h _ ?_ (World.grownBy_alloc _ _ _) (hb.alloc hbase _) (by simp));refine⟨by simp,.inr ⟨_,n,_,rfl,qmt _,heap_alloc_new w _,qmt _,hm,by simp[size_madeCells],?_⟩⟩;rw[qnn (by simp[size_madeCells])];exact z2p x y z n
end
theorem z6k{w w' W:World}{gc gm:Nat}(hb:w.grownBy w' (some gc))(hg:w'.grownBy W (some gm))(hle:w.heap.size<=gm):w.grownBy W (some gc):=
 ⟨hg.os.trans hb.os,hg.tape.trans hb.tape,hg.output.trans hb.output,qml hb.size hg.size,fun k hk hne=>(hg.block k (qmo hk hb.size) (fun e=>by injection e with e;omega)).trans (hb.block k hk hne)⟩
theorem zxy{w:World}{base:Nat}{e:TypeId}{g n c sz:Nat}{xs:List Value}(h:w.ownsRow base e sz (.slice (some ⟨g,0,none⟩) n c) n xs):∃cs,Blk w g e cs:=by
 rcases h.2 with⟨hv,_⟩|⟨g',cap,cur,hv,_,hh,_⟩
 ·cases hv
 ·injection hv with e1 _ _
  injection e1 with e1;injection e1 with e1;subst e1;exact⟨cur,hh⟩
theorem qcc{A B:List Value}{x y z a b c:Value}{m:Nat}(h:A.length=m):(((A++([x,y,z]++B)).set m a).set (m+1) b).set (m+2) c=A++([a,b,c]++B):=by subst h;rw[qor _ _ (qmt _),qor _ _ (by omega),qor _ _ (by omega)];simp
theorem qcd{w:World}{base:Nat}{e:TypeId}{g n c m:Nat}{A B:List Value}{x y z a b d:Value}(h:w.ownsRow base e 3 (.slice (some ⟨g,0,none⟩) n c) n (A++([x,y,z]++B)))(hm:A.length=m):
 ∃W,W=((w.setCell ⟨g,m,none⟩ a).setCell ⟨g,m+1,none⟩ b).setCell ⟨g,m+2,none⟩ d/\W.ownsRow base e 3 (.slice (some ⟨g,0,none⟩) n c) n (A++([a,b,d]++B))/\w.grownBy W (some g):=by
 obtain⟨h1,g1⟩:=h.stored m a;obtain⟨h2,g2⟩:=h1.stored (m+1) b;obtain⟨h3,g3⟩:=h2.stored (m+2) d;rw[qcc hm] at h3;exact⟨_,rfl,h3,(g1.trans g2).trans g3⟩
theorem z6l{w w':World}{g gc:Nat}{ty:TypeId}{x y z a b c:Value}(h:Blk w' g ty #[x,y,z])(hb:w.grownBy w' (some gc))(hg:w.heap.size<=g):
 ∃W3,W3=(((w'.setCell ⟨g,0,none⟩ a).setCell ⟨g,1,none⟩ b).setCell ⟨g,2,none⟩ c)/\Blk W3 g ty #[a,b,c]/\w.grownBy W3 (some gc)/\ ∀k,k≠g->W3.heap[k]? =w'.heap[k]? :=by
 refine⟨_,rfl,by simpa using((h.set_ 0 a).set_ 1 b).set_ 2 c,⟨hb.os,hb.tape,hb.output,by simpa[World.setCell] using hb.size,fun k hk hne=>?_⟩,fun k hk=>?_⟩
 ·rw[Below.heap_setCell _ _ _ _ (show k≠g by omega),Below.heap_setCell _ _ _ _ (show k≠g by omega),Below.heap_setCell _ _ _ _ (show k≠g by omega)]
  exact hb.block k hk hne
 ·rw[Below.heap_setCell _ _ _ _ hk,Below.heap_setCell _ _ _ _ hk,Below.heap_setCell _ _ _ _ hk]
theorem z2r{w:World}{row:Option Nat}:w.grownBy w.drew row:=⟨rfl,rfl,rfl,qmt _,fun _ _ _=>rfl⟩
theorem Reads.litR(w:World)(e:TypeId)(cs:Array Value)(n sz:Nat)(xs:List Value)(h:cs.toList=xs)(hn:xs.length=n*sz):Reads (w.alloc (.cells cs e)) (w.alloc (.cells cs e)).heap.size sz (some ⟨w.heap.size,0,none⟩) n xs:=by refine⟨hn,fun _=>⟨_,rfl,by simp,?_⟩⟩;have:=World.news_of_block (heap_alloc_new w (.cells cs e));rwa[h] at this
theorem Reads.pair2{w:World}{B n i:Nat}{A:Option Addr}{l:List (Int × Int)}(h:Reads w B 2 A n (zdk l))(hi:i<n):
 ∃ad,A=some ad/\ad.block<B/\w.cell? (ad.add (i*2))=some (.int .i64 (l.getD i (0,0)).1)/\w.cell? ⟨(ad.add (i*2)).block,(ad.add (i*2)).off+1,none⟩=some (.int .i64 (l.getD i (0,0)).2):=by
 obtain⟨ad,h1,h2,h3,h4⟩:=h.pair hi;rw[<-za3] at h4;exact⟨ad,h1,h2,h3,h4⟩
open Go Go.RowKit
abbrev zbb:=List Nat × Int × Bool
def zly(c:zbb):List Value:=[.string (zae c.1),.int .i64 c.2.1,.bool c.2.2]
theorem Reads.colT{w:World}{B n i:Nat}{A:Option Addr}{l:List zbb}(h:Reads w B 3 A n (recs zly l))(hi:i<n):
 ∃ad,A=some ad/\ad.block<B/\w.cell? (ad.add (i*3))=some (.string (zae (l.getD i ([],0,false)).1))/\w.cell? ⟨(ad.add (i*3)).block,(ad.add (i*3)).off+1,none⟩=some (.int .i64 (l.getD i ([],0,false)).2.1)/\w.cell? ⟨(ad.add (i*3)).block,(ad.add (i*3)).off+2,none⟩=some (.bool (l.getD i ([],0,false)).2.2):=by
 obtain⟨ad,h1,h2,_,h3⟩:=h.rec_ (f:=zly) (sz:=3) (fun _=>rfl) ([],0,false) hi (by omega);refine⟨ad,h1,h2,h3 0 _ rfl,?_,?_⟩
 ·have:=h3 1 _ rfl
  rw[<-za3] at this;exact this
 ·have:=h3 2 _ rfl
  rw[<-za3] at this;exact this
theorem Reads.lenC{w:World}{B n:Nat}{A:Option Addr}{l:List zbb}(h:Reads w B 3 A n (recs zly l)):n=l.length:=h.lenR (f:=zly) (sz:=3) (fun _=>rfl) (by omega)
theorem zao{w:World}{g:Nat}{ty:TypeId}{x y z:Value}(h:Blk w g ty #[x,y,z]):w.cell? ⟨g,0,none⟩=some x/\w.cell? ⟨g,1,none⟩=some y/\w.cell? ⟨g,2,none⟩=some z:=by have h0:=h.cell 0;have h1:=h.cell 1;have h2:=h.cell 2;simp at h0 h1 h2;exact⟨h0,h1,h2⟩
open Go Go.RowKit
abbrev zab:=Bool × Int × List Nat × Int × Int
def za0(c:zab):List Value:=[.bool c.1,.int .i64 c.2.1,.string (zae c.2.2.1),.int .i64 c.2.2.2.1,.int .i64 c.2.2.2.2]
def za8:zab:=(false,0,[],0,0)
def zc2(c:zab):Value:= .agg (za0 c).toArray
def inBox(x y:Int):Bool:=decide (-1048576<=x)&&decide (x<=1048576)&&decide (-1048576<=y)&&decide (y<=1048576)
def zaf(c:zab)(t:Int)(nu:Bool):Bool:=
 if c.1 then nu&&decide (c.2.1=0/\c.2.2.1=[]/\c.2.2.2.1=0/\c.2.2.2.2=0)
 else if t=0 then decide (c.2.2.1=[]/\c.2.2.2.1=0/\c.2.2.2.2=0)
 else if t=1 then decide ((c.2.2.1=[]/\c.2.2.2.1=0/\c.2.2.2.2=0)/\(c.2.1=0\/c.2.1=1))
 else if t=2 then decide ((c.2.1=0/\c.2.2.2.1=0/\c.2.2.2.2=0)/\c.2.2.1.length<=65536)
 else if t=3 then decide (c.2.1=0/\c.2.2.1=[])&&inBox c.2.2.2.1 c.2.2.2.2
 else false
theorem zcs{w:World}{g:Nat}{ty:TypeId}{a b c d e:Value}(h:Blk w g ty #[a,b,c,d,e]):w.cell? ⟨g,0,none⟩=some a/\w.cell? ⟨g,1,none⟩=some b/\w.cell? ⟨g,2,none⟩=some c/\w.cell? ⟨g,3,none⟩=some d/\w.cell? ⟨g,4,none⟩=some e:=by have h0:=h.cell 0;have h1:=h.cell 1;have h2:=h.cell 2;have h3:=h.cell 3;have h4:=h.cell 4;simp at h0 h1 h2 h3 h4;exact⟨h0,h1,h2,h3,h4⟩
theorem zbz{w:World}{g:Nat}{ty:TypeId}{a b:Value}(h:Blk w g ty #[a,b]):w.cell? ⟨g,0,none⟩=some a/\w.cell? ⟨g,1,none⟩=some b:=by have h0:=h.cell 0;have h1:=h.cell 1;simp at h0 h1;exact⟨h0,h1⟩
theorem Reads.cell5{w:World}{B n i:Nat}{A:Option Addr}{l:List zab}(h:Reads w B 5 A n (recs za0 l))(hi:i<n):
 ∃ad,A=some ad/\ad.block<B/\w.cell? (ad.add (i*5))=some (.bool (l.getD i (false,0,[],0,0)).1)/\w.cell? ⟨(ad.add (i*5)).block,(ad.add (i*5)).off+1,none⟩=some (.int .i64 (l.getD i (false,0,[],0,0)).2.1)
  /\w.cell? ⟨(ad.add (i*5)).block,(ad.add (i*5)).off+2,none⟩=some (.string (zae (l.getD i (false,0,[],0,0)).2.2.1))/\w.cell? ⟨(ad.add (i*5)).block,(ad.add (i*5)).off+3,none⟩=some (.int .i64 (l.getD i (false,0,[],0,0)).2.2.2.1)
  /\w.cell? ⟨(ad.add (i*5)).block,(ad.add (i*5)).off+4,none⟩=some (.int .i64 (l.getD i (false,0,[],0,0)).2.2.2.2):=by
 obtain⟨ad,h1,h2,_,h3⟩:=h.rec_ (f:=za0) (sz:=5) (fun _=>rfl) (false,0,[],0,0) hi (by omega);refine⟨ad,h1,h2,h3 0 _ rfl,?_,?_,?_,?_⟩
 ·have:=h3 1 _ rfl
  rw[<-za3] at this;exact this
 ·have:=h3 2 _ rfl
  rw[<-za3] at this;exact this
 ·have:=h3 3 _ rfl
  rw[<-za3] at this;exact this
 ·have:=h3 4 _ rfl
  rw[<-za3] at this;exact this
theorem Reads.lenCell{w:World}{B n:Nat}{A:Option Addr}{l:List zab}(h:Reads w B 5 A n (recs za0 l)):n=l.length:=h.lenR (f:=za0) (sz:=5) (fun _=>rfl) (by omega)
def zhz(f t s:Nat):Nat:=(t-f+s-1)/s
def z05(f t s i:Nat):Int × Int:=(((f+i*s:Nat):Int),((min (f+(i+1)*s) t:Nat):Int))
def zgq(f t s:Nat):List (Int × Int):=(List.range (zhz f t s)).map (z05 f t s)
theorem zgr{f t s:Nat}(hs:0<s)(k:Nat):k<zhz f t s↔f+k*s<t:=by unfold zhz;rw[<-Nat.succ_le_iff,Nat.le_div_iff_mul_le hs,qoo];omega
theorem z06{f t s:Nat}(hs:0<s):zhz f t s<=t-f:=by
 rcases qm9 (zhz f t s) with h|h
 ·omega
 ·have:=(zgr (f:=f) (t:=t) hs (zhz f t s-1)).1 (by omega)
  have:zhz f t s-1<=(zhz f t s-1)*s:=Nat.le_mul_of_pos_right _ hs;omega
theorem zf1(f t s:Nat):(zgq f t s).length=zhz f t s:=by simp[zgq]
theorem zpc{f t s i:Nat}(hi:i<zhz f t s):(zgq f t s).getD i (0,0)=z05 f t s i:=by simp[zgq,List.getD_eq_getElem?_getD,List.getElem?_map,List.getElem?_range hi]
theorem zpd{f t s k:Nat}(hk:k<zhz f t s):(zgq f t s).take (k+1)=(zgq f t s).take k++[z05 f t s k]:=by rw[zad _ k (0,0) (by rw[zf1];exact hk),zpc hk]
def atN(f t s k:Nat):Nat:=min (f+k*s) t
theorem z07{f t s k:Nat}(hk:f+k*s<t):atN f t s k=f+k*s/\atN f t s (k+1)=atN f t s k+min s (t-atN f t s k)/\z05 f t s k=((atN f t s k:Int),(atN f t s (k+1):Int)):=by
 have h1:atN f t s k=f+k*s:=by unfold atN;omega
 refine⟨h1,?_,?_⟩
 ·rw[h1];unfold atN;rw[qoo];omega
 ·rw[h1];rfl
def zdp(f t s:Int):List (Int × Int):=if f<0\/t<=f\/65536<t\/s<1 then [] else zgq f.toNat t.toNat s.toNat
theorem zvq{f t s:Int}(h:f<0\/t<=f\/65536<t\/s<1):zdp f t s=[]:=by rw[zdp,if_pos h]
theorem z08{f t s:Nat}(h1:f<t)(h2:t<=65536)(h3:0<s):zdp f t s=zgq f t s:=by rw[zdp,if_neg (by omega)];simp
theorem ztl(f t s:Int):(zdp f t s).length<=65536:=by
 unfold zdp;split
 ·simp
 ·rw[zf1]
  have:=z06 (f:=f.toNat) (t:=t.toNat) (s:=s.toNat) (by omega);omega
def qlz(x:Int × Int)(f t:Int):Prop:=x.1<t/\f<x.2/\f<t
instance(x:Int × Int)(f t:Int):Decidable (qlz x f t):=by unfold qlz;exact inferInstance
end Go.Hm
