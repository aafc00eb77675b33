/- Merged. -/
import Derived.Deep.Fields
import Derived.OpenShut
import Derived.Shelf.Strconv.Itoa0
import Derived.Test.YtbahbnbpmfgimaaGreatDoorBun2
import Derived.Test.YtbahbnbpmfgimaaGreatDoorRows
set_option maxHeartbeats 200000
namespace Go.Proofs.Y
open Go.Shelf
def zwy:Go.Shelf.Ren:=⟨fun|129=>120|n=>n,fun|53=>138|3=>3|4=>4|46=>170|5=>5|9=>9|n=>n,fun|n=>n⟩
theorem qe8:Go.Proofs.Lays.n129 Tryz.prog zwy:={
 mixed:=by kernel_rfl
 f129:=Tryz.func120.trans (congrArg some (by kernel_rfl))
 t3:=Tryz.underlying3
 a3:=Tryz.isAgg3
 z3:=Tryz.sizeOf3
 v3:=Tryz.zeroValue3
 t4:=Tryz.underlying4
 a4:=Tryz.isAgg4
 z4:=Tryz.sizeOf4
 v4:=Tryz.zeroValue4
 t5:=Tryz.underlying5
 a5:=Tryz.isAgg5
 z5:=Tryz.sizeOf5
 v5:=Tryz.zeroValue5
 t9:=Tryz.underlying9
 a9:=Tryz.isAgg9
 z9:=Tryz.sizeOf9
 v9:=Tryz.zeroValue9
 t46:=Tryz.underlying170
 a46:=Tryz.isAgg170
 z46:=Tryz.sizeOf170
 v46:=Tryz.zeroValue170
 t53:=Tryz.underlying138
 a53:=Tryz.isAgg138
 z53:=Tryz.sizeOf138
 v53:=Tryz.zeroValue138}
theorem bits_Len64(x:Int)(w:World)(h0:0<=x)(h1:x<=18446744073709551615):
 Calls Tryz.prog 120 #[.int .u64 x] w fun e w'=>e= .returned (.int .i64 (Lib.bitLen x.toNat))/\w'=w:=Any.bits_Len64 qe8 x w h0 h1
open Go.Hm
theorem Tryz.own:ownKnob Tryz.prog.godebug=none:=by kernel_rfl
theorem Tryz.laidOut:laidOutB Tryz.prog=true:=by kernel_rfl
theorem elB:ElT Tryz.prog 24 5 (.int .u8 0) 1 1:=⟨by kernel_rfl,by kernel_rfl,rfl,by omega⟩
theorem elW:ElT Tryz.prog 201 138 (.int .u64 0) 1 8:=⟨by kernel_rfl,by kernel_rfl,rfl,by omega⟩
theorem elI:ElT Tryz.prog 57 3 (.int .i64 0) 1 8:=⟨by kernel_rfl,by kernel_rfl,rfl,by omega⟩
theorem zi1{w:World}{B n c:Nat}{A:Option Addr}{l:List Nat}(h:Reads w B 1 A n (zao .u8 l)):(convert 24 9 (.slice A n c)).run Tryz.prog w= .ok (.string (zad l)) w:=
 zn2 (e:=5) (by kernel_rfl) (by kernel_rfl) (by kernel_rfl) h
end Go.Proofs.Y
namespace Go.Hm
open Go Go.RowKit Go.WideShapes Go.ChangeShapes Go.Deep
section
variable{H:Type}{enc:TypeId × Value->H}{P:Program}{W:World}{t e:TypeId}{cs:List Value}
def Held(enc:TypeId × Value->H)(P:Program)(W:World)(t:TypeId)(cs:List Value):Prop:=
 ∃(fuel:Nat) (d:DataW H) (ps:List MemPlace),DataW.trod enc P W 0 (fun _=>true) true fuel t cs=some (d,ps)/\(∀p∈ps,p.block<W.heap.size)/\ ∀n∈d.weights P t,n<=reachBytes
theorem Held.of{v:Value}{d:DataW H}{ps:List MemPlace}(h:DataW.Trod enc P W 0 (fun _=>true) true t v d ps)(hlt:∀p∈ps,p.block<W.heap.size)(hw:∀n∈d.weights P t,n<=reachBytes):Held enc P W t v.cells.toList:=by obtain⟨fuel,h⟩:=h;exact⟨fuel,d,ps,h,hlt,hw⟩
theorem Held.int{k:IntKind}(ht:P.underlying t=some (.int k))(h:Held enc P W t cs):∃n,cs=[.int k n]/\k.min<=n/\n<=k.max:=by obtain⟨fuel,d,ps,h,_,_⟩:=h;obtain⟨n,rfl,_,hw⟩:=DataW.trod_int ht h;simp only[Lit.wf,Bool.and_eq_true,decide_eq_true_eq] at hw;exact⟨n,rfl,hw.1,hw.2⟩
theorem Held.i64(ht:P.underlying t=some (.int .i64))(h:Held enc P W t cs):∃n:Int,cs=[.int .i64 n]/\ -9223372036854775808<=n/\n<=9223372036854775807:=by obtain⟨n,h1,h2,h3⟩:=h.int ht;simp[IntKind.min,IntKind.max,IntKind.signed,IntKind.bits] at h2 h3;exact⟨n,h1,h2,by omega⟩
theorem Held.bool(ht:P.underlying t=some .bool)(h:Held enc P W t cs):∃b,cs=[.bool b]:=by obtain⟨fuel,d,ps,h,_,_⟩:=h;obtain⟨b,rfl,_⟩:=DataW.trod_bool ht h;exact⟨b,rfl⟩
theorem qfm(s:ByteArray):∃l:List Nat,s=zad l/\(∀x∈l,x<256)/\l.length=s.size:=by
 refine⟨s.data.toList.map UInt8.toNat,?_,?_,by simp⟩
 ·refine ByteArray.ext ?_
  show s.data=((s.data.toList.map UInt8.toNat).map UInt8.ofNat).toArray;rw[List.map_map];have:(UInt8.ofNat ∘ UInt8.toNat)=id:=by funext x;simp
  rw[this];simp
 ·intro x hx
  simp only[List.mem_map] at hx;obtain⟨y,_,rfl⟩:=hx;exact y.toNat_lt
theorem Held.string(ht:P.underlying t=some .string)(h:Held enc P W t cs):∃l:List Nat,cs=[.string (zad l)]/\(∀x∈l,x<256)/\l.length<=140737488351232:=by obtain⟨fuel,d,ps,h,_,hw⟩:=h;obtain⟨s,rfl,hx,_⟩:=DataW.trod_string ht h;simp only[Prod.mk.injEq] at hx;obtain⟨rfl,_⟩:=hx;obtain⟨l,rfl,h8,hl⟩:=qfm s;refine⟨l,rfl,h8,?_⟩;have:=hw (zad l).data.toList.length (by simp[DataW.weights]);rw[Array.length_toList] at this;have e:(zad l).data.size=l.length:=hl.symm;rw[e] at this;unfold reachBytes at this;omega
theorem zho{d:DataW H}:∀{ds:List (DataW H)},d∈ds-> ∀n∈d.weights P e,n∈DataW.weightsAll P e ds
 | [],h,_,_=>by cases h
 |x::ds,h,n,hn=>by
  rw[DataW.weightsAll,List.mem_append];rcases List.mem_cons.1 h with rfl|h
  ·exact .inl hn
  ·exact .inr (zho h n hn)
theorem Held.field{fs:Array Field}(ht:P.underlying t=some (.struct fs))(h:Held enc P W t cs):cs.length=P.cellsOf t/\ ∀(i:Nat) (f:Field),fs[i]? =some f->Held enc P W f.type ((cs.drop f.offset).take (P.cellsOf f.type)):=by obtain⟨fuel,d,ps,h,hlt,hw⟩:=h;obtain⟨xs,n,rfl,hx,hl,hxl,hf⟩:=DataW.trod_struct ht h;simp only[Prod.mk.injEq] at hx;obtain⟨rfl,rfl⟩:=hx;refine⟨hl,fun i f hi=>?_⟩;have hil:i<fs.size:=(Array.getElem?_eq_some_iff.1 hi).1;have hxi:xs[i]? =some (xs[i]'(by omega)):=List.getElem?_eq_getElem (by omega);refine⟨n,(xs[i]'(by omega)).1,(xs[i]'(by omega)).2,(hf i f hi).trans hxi,fun p hp=>hlt p (List.mem_flatMap.2 ⟨_,List.getElem_mem _,hp⟩),fun m hm=>hw m ?_⟩;rw[DataW.weights];simp only[ht];exact DataW.weights_mem_each (j:=i) (t:=f.type) (d:=(xs[i]'(by omega)).1) (by rw[List.getElem?_map,Array.getElem?_toList,hi];rfl) (by rw[List.getElem?_map,hxi];rfl) m hm
theorem Held.array{n:Nat}(ht:P.underlying t=some (.array n e))(h:Held enc P W t cs):cs.length=P.cellsOf t/\ ∀i,i<n->Held enc P W e ((cs.drop (i*P.cellsOf e)).take (P.cellsOf e)):=by obtain⟨fuel,d,ps,h,hlt,hw⟩:=h;obtain⟨xs,m,_,hx,hl,hxl,hi⟩:=DataW.trod_array ht h;simp only[Prod.mk.injEq] at hx;obtain⟨rfl,rfl⟩:=hx;refine⟨hl,fun i hil=>?_⟩;have hxi:xs[i]? =some (xs[i]'(by omega)):=List.getElem?_eq_getElem (by omega);refine⟨m,(xs[i]'(by omega)).1,(xs[i]'(by omega)).2,(hi i hil).trans hxi,fun p hp=>hlt p (List.mem_flatMap.2 ⟨_,List.getElem_mem _,hp⟩),fun k hk=>hw k ?_⟩;rw[DataW.weights];simp only[ht];exact zho (List.mem_map.2 ⟨_,List.getElem_mem _,rfl⟩) k hk
theorem Held.slice(ht:P.underlying t=some (.slice e))(h:Held enc P W t cs):
 cs=[.slice none 0 0]\/ ∃(a:Addr) (len cap:Nat),cs=[.slice (some a) len cap]/\len<=cap/\cap<=maxLen/\cap*P.bytesOf e<=reachBytes/\(0<cap*P.cellsOf e->a.block<W.heap.size)/\
  ∀i,i<cap-> ∃cs',W.cells? 0 (a.add (i*P.cellsOf e)) (P.cellsOf e)=some cs'/\Held enc P W e cs':=by
 obtain⟨fuel,d,ps,h,hlt,hw⟩:=h;rcases open_slice ht h with⟨hcs,_⟩|⟨a,len,cap,m,n,D,Pl,hcs,_,hl,hm,hmm,hx,hi⟩
 ·exact .inl hcs
 ·rw[if_pos rfl] at hmm
  subst hmm;simp only[Prod.mk.injEq] at hx;obtain⟨rfl,rfl⟩:=hx;have hwm:∀x∈(m*P.bytesOf e)::(DataW.weightsAll P e ((List.range len).map D)++DataW.weightsAll P e ((List.range (m-len)).map fun j=>D (len+j))),x<=reachBytes:=by intro x hx;refine hw x ?_;rw[DataW.weights];simp only[ht,List.length_map,List.length_range];rw[show len+(m-len)=m by omega];exact hx
  refine .inr ⟨a,len,m,hcs,hl,hm,hwm _ (by simp),fun h0=>?_,fun i him=>?_⟩
  ·exact hlt (.cell a.block a.off) (by rw[List.mem_append];left;unfold MemPlace.row;simp only[List.mem_map,List.mem_range];exact⟨0,h0,rfl⟩)
  ·obtain⟨cs',hc,ht'⟩:=hi i him
   refine⟨cs',hc,n,D i,Pl i,ht',fun p hp=>hlt p ?_,fun k hk=>hwm k ?_⟩
   ·rw[List.mem_append]
    right;exact List.mem_flatMap.2 ⟨i,by simpa using him,hp⟩
   ·rw[List.mem_cons,List.mem_append]
    right;by_cases hil:i<len
    ·exact .inl (zho (List.mem_map.2 ⟨i,by simpa using hil,rfl⟩) k hk)
    ·exact .inr (zho (List.mem_map.2 ⟨i-len,by simp;omega,by rw[show len+(i-len)=i by omega]⟩) k hk)
def recs{α:Type}(f:α->List Value)(l:List α):List Value:=l.flatMap f
theorem zid{α:Type}(f:α->List Value)(x:α)(l:List α):recs f (x::l)=f x++recs f l:=rfl
theorem zbb{α:Type}(f:α->List Value)(l m:List α):recs f (l++m)=recs f l++recs f m:=by simp[recs]
theorem zau{α:Type}{f:α->List Value}{sz:Nat}(hf:∀x,(f x).length=sz)(l:List α):(recs f l).length=l.length*sz:=by
 induction l with
 |nil=>simp[recs]
 |cons x l ih=>rw[zid,List.length_append,hf,ih,List.length_cons,Nat.succ_mul,Nat.add_comm]
theorem zn9{α:Type}{f:α->List Value}{sz:Nat}(hf:∀x,(f x).length=sz)(l:List α)(d:α):∀i j,i<l.length->j<sz->(recs f l)[i*sz+j]? =(f (l.getD i d))[j]? :=by
 induction l with
 |nil=>intro i j h;simp at h
 |cons x l ih=>
  intro i j hi hj;cases i with
  |zero=>
   rw[zid,Nat.zero_mul,Nat.zero_add,List.getElem?_append_left (by rw[hf];exact hj)];rfl
  |succ i=>
   rw[zid,List.getElem?_append_right (by rw[hf,Nat.succ_mul];omega),hf,show(i+1)*sz+j-sz=i*sz+j by rw[Nat.succ_mul];omega,ih i j (by simpa using hi) hj];simp
theorem zoa{α:Type}{f:α->List Value}{sz:Nat}(hf:∀x,(f x).length=sz)(l:List α)(k:Nat)(hk:k<=l.length):(recs f l).drop (k*sz)=recs f (l.drop k):=by
 conv=>lhs;rw[<-List.take_append_drop k l,zbb]
 rw[List.drop_left'];rw[zau hf,List.length_take,Nat.min_eq_left hk]
theorem zie{α:Type}{f:α->List Value}{sz:Nat}(hf:∀x,(f x).length=sz)(l:List α)(k:Nat)(hk:k<=l.length):(recs f l).take (k*sz)=recs f (l.take k):=by
 conv=>lhs;rw[<-List.take_append_drop k l,zbb]
 rw[List.take_left'];rw[zau hf,List.length_take,Nat.min_eq_left hk]
theorem Reads.rec_{α:Type}{f:α->List Value}{sz:Nat}(hf:∀x,(f x).length=sz){w:World}{B n i:Nat}{A:Option Addr}{l:List α}(d:α)(h:Reads w B sz A n (recs f l))(hi:i<n)(h0:0<sz):
 ∃ad,A=some ad/\ad.block<B/\i<l.length/\ ∀j u,(f (l.getD i d))[j]? =some u->w.cell? (ad.add (i*sz+j))=some u:=by
 obtain⟨ad,e,hb,hc⟩:=h.2 (by omega);have hl:=h.1;rw[zau hf] at hl;have hll:l.length=n:=Nat.eq_of_mul_eq_mul_right h0 hl;refine⟨ad,e,hb,by omega,fun j u hu=>hc _ u ?_⟩;have hj:j<sz:=by rw[<-hf (l.getD i d)];exact(List.getElem?_eq_some_iff.1 hu).1
 rw[zn9 hf l d i j (by omega) hj];exact hu
theorem Reads.lenR{α:Type}{f:α->List Value}{sz:Nat}(hf:∀x,(f x).length=sz){w:World}{B n:Nat}{A:Option Addr}{l:List α}(h:Reads w B sz A n (recs f l))(h0:0<sz):n=l.length:=by have hl:=h.1;rw[zau hf] at hl;exact(Nat.eq_of_mul_eq_mul_right h0 hl).symm
theorem zw5{α:Type}{p:Nat->α->Prop}(d:α):∀n,(∀i,i<n-> ∃x,p i x)-> ∃l:List α,l.length=n/\ ∀i,i<n->p i (l.getD i d):=by
 intro n;induction n with
 |zero=>intro _;exact⟨[],rfl,fun i h=>by omega⟩
 |succ n ih=>
  intro h;obtain⟨l,hl,hp⟩:=ih (fun i hi=>h i (by omega));obtain⟨x,hx⟩:=h n (by omega);refine⟨l++[x],by simp[hl],fun i hi=>?_⟩;by_cases hin:i<n
  ·have e:(l++[x]).getD i d=l.getD i d:=by rw[List.getD_eq_getElem?_getD,List.getElem?_append_left (by omega),<-List.getD_eq_getElem?_getD]
   rw[e];exact hp i hin
  ·obtain rfl:i=n:=by omega
   have e:(l++[x]).getD i d=x:=by rw[List.getD_eq_getElem?_getD,List.getElem?_append_right (by omega),hl];simp
   rw[e];exact hx
theorem Held.recs{α:Type}{f:α->List Value}{sz by_:Nat}{Q:α->Prop}(d:α)(ht:P.underlying t=some (.slice e))(hC:P.cellsOf e=sz)(hby:P.bytesOf e=by_)(hf:∀x,(f x).length=sz)(h0:0<sz)
 (hel:∀cs,Held enc P W e cs-> ∃x,cs=f x/\Q x)(h:Held enc P W t cs):
 ∃A c,∃l:List α,cs=[.slice A l.length c]/\l.length<=c/\c<=maxLen/\c*by_<=reachBytes/\Reads W W.heap.size sz A l.length (Hm.recs f l)/\ ∀x∈l,Q x:=by
 rcases h.slice ht with rfl|⟨a,len,cap,rfl,hl,hm,hw,hb,hi⟩
 ·exact⟨none,0,[],rfl,by simp,by simp[maxLen],by simp,⟨by simp[Hm.recs],fun h=>by simp at h⟩,by simp⟩
 ·rw[hC] at hi hb
  rw[hby] at hw;obtain⟨l,hll,hp⟩:=zw5 (p:=fun i x=>W.cells? 0 (a.add (i*sz)) sz=some (f x)/\Q x) d len (fun i hil=>by obtain⟨cs',hc,hh⟩:=hi i (by omega);obtain⟨x,rfl,hq⟩:=hel cs' hh;exact⟨x,hc,hq⟩)
  subst hll;refine⟨some a,cap,l,rfl,hl,hm,hw,⟨by rw[zau hf],fun hn=>⟨a,rfl,hb (Nat.mul_pos (by omega) h0),fun j u hu=>?_⟩⟩,fun x hx=>?_⟩
  ·have hj:j<l.length*sz:=by
    rw[<-zau hf];exact(List.getElem?_eq_some_iff.1 hu).1
   have hjd:j/sz<l.length:=by rw[Nat.mul_comm] at hj;exact Nat.div_lt_of_lt_mul hj
   have hjm:j%sz<sz:=Nat.mod_lt _ h0;obtain⟨hc,_⟩:=hp (j/sz) hjd;obtain⟨_,_,hat⟩:=World.cells?_some hc;have:=hat (j%sz) hjm;rw[Go.Deep.add_add,Nat.mul_comm (j/sz),Nat.div_add_mod] at this;rw[this,<-hu];have e:=zn9 hf l d (j/sz) (j%sz) hjd hjm;rw[Nat.mul_comm (j/sz),Nat.div_add_mod] at e;rw[e]
  ·obtain⟨i,hi',rfl⟩:=List.getElem_of_mem hx
   have:=(hp i hi').2;rwa[List.getD_eq_getElem?_getD,List.getElem?_eq_getElem hi'] at this
end
def pv:Nat->List Nat->Option (Nat × List Nat)
 |0,_=>none
 |_+1,[]=>none
 |f+1,b::r=>if b<128 then some (b,r) else
   match pv f r with
   |some (0,_)=>none
   |some (N+1,r')=>some (b-128+128*(N+1),r')
   |none=>none
theorem qh3:∀(f N:Nat) (r:List Nat),(vp N).length<=f->pv f (vp N++r)=some (N,r):=by
 intro f;induction f with
 |zero=>intro N r h;have:=zt1 N;omega
 |succ f ih=>
  intro N r h;by_cases hN:N<128
  ·rw[zfz hN];simp[pv,hN]
  ·rw[zf0 hN] at h⊢
   simp only[List.cons_append,pv];rw[if_neg (by omega),ih (N/128) r (by simpa using h)];obtain⟨m,hm⟩:∃m,N/128=m+1:=⟨N/128-1,by omega⟩;simp only[hm];congr 2
   omega
theorem qf5:∀(f N:Nat) (l r:List Nat),(∀x∈l,x<256)->pv f l=some (N,r)->l=vp N++r/\(vp N).length<=f:=by
 intro f;induction f with
 |zero=>intro N l r _ h;simp[pv] at h
 |succ f ih=>
  intro N l r h8 h;cases l with
  |nil=>simp[pv] at h
  |cons b s=>
   simp only[pv] at h;by_cases hb:b<128
   ·rw[if_pos hb] at h
    simp only[Option.some.injEq,Prod.mk.injEq] at h;obtain⟨rfl,rfl⟩:=h;rw[zfz hb];simp
   ·rw[if_neg hb] at h
    split at h
    ·simp at h
    ·rename_i M r' hM
     simp only[Option.some.injEq,Prod.mk.injEq] at h;obtain⟨rfl,rfl⟩:=h;obtain⟨h1,h2⟩:=ih _ _ _ (fun x hx=>h8 x (by simp[hx])) hM;have hb2:=h8 b (by simp);rw[zf0 (by omega),show(b-128+128*(M+1))/128=M+1 by omega,show(b-128+128*(M+1))%128+128=b by omega,List.cons_append,<-h1];refine⟨rfl,by simp;exact h2⟩
    ·simp at h
def gv(l:List Nat):Option (Nat × List Nat):=
 match pv 10 l with
 |some (N,r)=>if N<18446744073709551616 then some (N,r) else none
 |none=>none
theorem qef(N:Nat)(r:List Nat)(hN:N<18446744073709551616):gv (vp N++r)=some (N,r):=by unfold gv;rw[qh3 10 N r (zap hN)];simp[hN]
theorem zxl{l r:List Nat}{N:Nat}(h8:∀x∈l,x<256)(h:gv l=some (N,r)):l=vp N++r/\N<18446744073709551616:=by
 unfold gv at h;split at h
 ·rename_i M s hM
  split at h
  ·simp only[Option.some.injEq,Prod.mk.injEq] at h
   obtain⟨rfl,rfl⟩:=h;exact⟨(qf5 _ _ _ _ h8 hM).1,‹_›⟩
  ·cases h
 ·cases h
theorem qf6{l:List Nat}(h:gv l=none):∀N r,l=vp N++r->18446744073709551616<=N:=by
 intro N r hl;rcases Nat.lt_or_ge N 18446744073709551616 with hN|hN
 ·rw[hl,qef N r hN] at h
  cases h
 ·exact hN
abbrev St:=Option (List Nat)
def zqe:St->Nat × St
 |none=>(0,none)
 |some l=>match gv l with
  |some (N,r)=>(N,some r)
  |none=>(0,none)
def lenS(m:Int)(S:St):Nat × St:=
 match zqe S with
 |(N,some r)=>if(N:Int)<=m then(N,some r) else(0,none)
 |(_,none)=>(0,none)
def zcc:St->Nat × St
 |some (b::r)=>(b,some r)
 |_=>(0,none)
def zer(n:Int):St->List Nat × St
 |some l=>if 0<=n/\n<=(l.length:Int) then(l.take n.toNat,some (l.drop n.toNat)) else([],none)
 |none=>([],none)
def qbo(S:St):Bool:=decide (S=some [])
def St.ok(S:St):Prop:=∀l,S=some l-> ∀x∈l,x<256
theorem St.ok_none:St.ok none:=fun _ h=>by cases h
theorem St.ok_some{l:List Nat}(h:∀x∈l,x<256):St.ok (some l):=fun _ e=>by injection e with e;subst e;exact h
theorem zsp(N:Nat)(r:List Nat)(hN:N<18446744073709551616):zqe (some (vp N++r))=(N,some r):=by simp[zqe,qef N r hN]
theorem zdv(N:Nat)(r:List Nat){m:Int}(hN:(N:Int)<=m)(hm:m<=9223372036854775807):lenS m (some (vp N++r))=(N,some r):=by simp only[lenS,zsp N r (by omega),if_pos hN]
theorem zuo(m:Int):lenS m none=(0,none):=rfl
theorem zl3:zcc none=(0,none):=rfl
theorem z2a(n:Int):zer n none=([],none):=rfl
theorem zdf(m:Int)(S:St)(hS:S.ok):lenS m S=(0,none)\/ ∃N r,S=some (vp N++r)/\(N:Int)<=m/\N<18446744073709551616/\lenS m S=(N,some r):=by
 unfold lenS zqe;cases S with
 |none=>exact .inl rfl
 |some l=>
  simp only;cases hg:gv l with
  |none=>exact .inl rfl
  |some p=>
   obtain⟨N,r⟩:=p;obtain⟨h1,h2⟩:=zxl (hS l rfl) hg;simp only;split
   ·exact .inr ⟨N,r,by rw[h1],‹_›,h2,rfl⟩
   ·exact .inl rfl
theorem zi7(S:St)(hS:S.ok):zqe S=(0,none)\/ ∃N r,S=some (vp N++r)/\N<18446744073709551616/\zqe S=(N,some r):=by
 unfold zqe;cases S with
 |none=>exact .inl rfl
 |some l=>
  simp only;cases hg:gv l with
  |none=>exact .inl rfl
  |some p=>
   obtain⟨N,r⟩:=p;obtain⟨h1,h2⟩:=zxl (hS l rfl) hg;exact .inr ⟨N,r,by rw[h1],h2,rfl⟩
theorem ze4(n:Int)(S:St):zer n S=([],none)\/ ∃l,S=some l/\0<=n/\n<=(l.length:Int)/\zer n S=(l.take n.toNat,some (l.drop n.toNat)):=by
 unfold zer;cases S with
 |none=>exact .inl rfl
 |some l=>
  simp only;split
  ·rename_i h;exact .inr ⟨l,rfl,h.1,h.2,rfl⟩
  ·exact .inl rfl
theorem zos(a b:List Nat):zer (a.length:Int) (some (a++b))=(a,some b):=by simp only[zer];rw[if_pos ⟨by omega,by rw[List.length_append];omega⟩];simp
theorem zdg{m:Int}(S:St)(hm:0<=m)(hS:S.ok):((lenS m S).1:Int)<=m:=by
 rcases zdf m S hS with h|⟨N,r,_,h1,_,h⟩
 ·rw[h];exact hm
 ·rw[h];exact h1
theorem zbz{m:Int}{S:St}(hS:S.ok):(lenS m S).2.ok:=by
 rcases zdf m S hS with h|⟨N,r,h0,_,_,h⟩
 ·rw[h];exact St.ok_none
 ·rw[h];exact St.ok_some fun x hx=>hS _ h0 x (by simp[hx])
theorem zsq{S:St}(hS:S.ok):(zqe S).2.ok:=by
 rcases zi7 S hS with h|⟨N,r,h0,_,h⟩
 ·rw[h];exact St.ok_none
 ·rw[h];exact St.ok_some fun x hx=>hS _ h0 x (by simp[hx])
theorem z6b{S:St}(hS:S.ok):(zqe S).1<18446744073709551616:=by
 rcases zi7 S hS with h|⟨N,r,h0,h1,h⟩
 ·rw[h];decide
 ·rw[h];exact h1
theorem zsr{S:St}(hS:S.ok):(zcc S).2.ok:=by
 unfold zcc;split
 ·exact St.ok_some fun x hx=>hS _ rfl x (by simp[hx])
 ·exact St.ok_none
theorem znk{S:St}(hS:S.ok):(zcc S).1<256:=by
 unfold zcc;split
 ·exact hS _ rfl _ (by simp)
 ·decide
theorem zi8{n:Int}{S:St}(hS:S.ok):(zer n S).2.ok/\ ∀x∈(zer n S).1,x<256:=by
 rcases ze4 n S with h|⟨l,h0,_,_,h⟩
 ·rw[h];exact⟨St.ok_none,by simp⟩
 ·rw[h];exact⟨St.ok_some fun x hx=>hS _ h0 x (List.mem_of_mem_drop hx),fun x hx=>hS _ h0 x (List.mem_of_mem_take hx)⟩
theorem zot{n:Int}{S:St}(hn:0<=n):((zer n S).1.length:Int)<=n:=by
 rcases ze4 n S with h|⟨l,_,h1,h2,h⟩
 ·rw[h];simpa using hn
 ·rw[h,List.length_take];omega
theorem zes{m:Int}{S:St}(hS:S.ok):((lenS m S).2.getD []).length<=(S.getD []).length:=by
 rcases zdf m S hS with h|⟨N,r,rfl,_,_,h⟩
 ·rw[h];simp
 ·rw[h];simp
theorem z6c{S:St}:((zcc S).2.getD []).length<=(S.getD []).length:=by unfold zcc;split<;> simp
end Go.Hm
