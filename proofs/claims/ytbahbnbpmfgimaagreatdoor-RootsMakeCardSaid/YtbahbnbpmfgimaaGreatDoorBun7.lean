import Derived.Lib.Bytealg
import Derived.Test.YtbahbnbpmfgimaaGreatDoorBun4
import Derived.Test.YtbahbnbpmfgimaaGreatDoorBun5
set_option maxHeartbeats 2000000
set_option maxRecDepth 100000
namespace Go.Hm
open Go Go.RowKit
section
variable{P:Program}{o:Oper}{a:Act}{Q:Exit->Act->World->Prop}{K:Act->World->Prop}
theorem zxm{w:World}{t e:TypeId}{z:Value}{sz bytes:Nat}(E:ElT P t e z sz bytes)(s x:Operand)
 (ho:o.op= .call {callee:= .builtin .append,args:= #[s,x],argTypes:= #[t,t]})
 {W:World}{B base n m c:Nat}{v:Value}{xs news:List Value}{A:Option Addr}(hown:w.ownsRow base e sz v n xs)(hr:Reads w w.heap.size sz A m news)(hs:a.eval s=v)(hx:a.eval x= .slice A m c)
 (hb:Below B W w)(hbB:B<=base)(hbase:base<=w.heap.size)(h1:∀u∈news,u.oneCell'=true)
 (hn:(n+m)*bytes<=140737488355328)(hm:n+m<=maxLen)
 (h:∀A' c' w',n+m<=c'->c'<=maxLen->w'.ownsRow base e sz (.slice A' (n+m) c') (n+m) (xs++news)->w.grownBy w' v.ownBlock->Below B W w'->K (a.put o.dst (.slice A' (n+m) c')) w'):
 Oper.wp P o a w K Q:=by
 obtain⟨i,hi,hz0,hz1,hz2⟩:=info_parts E.hi;rcases A with _|ad
 ·have hm0:m=0:=by
   rcases qmm m with h0|h0
   ·exact h0
   ·obtain⟨ad,h',_⟩:=hr.2 h0
    cases h'
  subst hm0;have hn0:news=[]:=qmn (by have:=hr.1;omega);subst hn0;have hrun:∀ty,(Builtin.append_ #[t,t] ty #[v,.slice none 0 c]).run P w= .ok v w:=by
   intro ty;rcases hown.2 with⟨rfl,hx0⟩|⟨g,cap,cur,rfl,_,_,hnc,_⟩
   ·simp[Builtin.append_,run_underlying E.ht,sizeOf,typeInfo,hi,Builtin.lenOf,Builtin.firstCells]
   ·simp[Builtin.append_,run_underlying E.ht,sizeOf,typeInfo,hi,Builtin.lenOf,Builtin.firstCells,hnc,storeCells]
  obtain⟨A',c',rfl,hc1,hc2⟩:=zcy hown;unfold Oper.wp execOp;simp only[ho,resolve,invoke,builtin,qrb,qrc,qrd,qmo,qmp,qmq,hs,hx,hrun];exact h A' c' w hc1 hc2 (by simpa using hown) (qlp w _) hb
 ·have hl:news.length=m*sz:=hr.1
  have hcells:∀j u,news[j]? =some u->w.cell? (ad.add j)=some u:=by
   intro j u hu;rcases qmm m with h0|h0
   ·subst h0
    have hn:news=[]:=qmn (by omega);subst hn;simp at hu
   ·obtain⟨ad',h',_,hc⟩:=hr.2 h0
    injection h' with h';subst h';exact hc j u hu
  obtain⟨v',w',hr',hown',hg,_,_⟩:=run_append_own_at (P:=P) w base t o.type e i z sz bytes E.ht hi hz0 hz1 hz2 E.hz E.hs v n xs hown ad m c news hl hcells h1 hm hn hbase;obtain⟨A',c',rfl,hc1,hc2⟩:=zcy hown';unfold Oper.wp execOp;simp only[ho,resolve,invoke,builtin,qrb,qrc,qrd,qmo,qmp,qmq,hs,hx,hr'];exact h A' c' w' hc1 hc2 hown' hg (hb.grown hg (qlw hbB hbase) (fun k hk=>by have:=(qln hown k hk).1;omega))
end
def zbg(v:Value):List Nat:=match v.ownBlock with|some g=>[g]|none=>[]
theorem Turns.row{w w':World}{v:Value}(h:w.grownBy w' v.ownBlock):Turns (zbg v) w w':=by
 unfold zbg;cases e:v.ownBlock with
 |none=>rw[e] at h;exact qsb h
 |some g=>rw[e] at h;exact qsa h (by simp)
abbrev qsi:=@Turns.row
theorem zma{w:World}{base sz n:Nat}{e:TypeId}{v:Value}{xs:List Value}(h:w.ownsRow base e sz v n xs):∀x∈zbg v,base<=x/\x<w.heap.size:=by
 intro x hx;unfold zbg at hx;cases e:v.ownBlock with
 |none=>rw[e] at hx;simp at hx
 |some g=>rw[e] at hx;simp at hx;subst hx;exact qln h _ e
theorem zer{w:World}{base sz n:Nat}{e t:TypeId}{v:Value}{xs:List Value}{g:Nat}{cs:Array Value}(h:w.ownsRow base e sz v n xs)(hg:Blk w g t cs)(hne:e≠t):g∉zbg v:=by
 intro hx;unfold zbg at hx;cases e':v.ownBlock with
 |none=>rw[e'] at hx;simp at hx
 |some g'=>rw[e'] at hx;simp at hx;subst hx;exact zav h hg hne e'
theorem zkw{w w':World}{base sz n:Nat}{e:TypeId}{v:Value}{xs:List Value}{T:List Nat}(h:w.ownsRow base e sz v n xs)(k:Turns T w w')(hT:∀x∈T,v.ownBlock≠some x):w'.ownsRow base e sz v n xs:=by
 refine⟨h.1,?_⟩;rcases h.2 with hn|⟨g,cap,cur,rfl,hbg,hgg,rest⟩
 ·exact .inl hn
 ·refine .inr ⟨g,cap,cur,rfl,hbg,?_,rest⟩
  rw[k.block g (ql8.1 hgg).1 (fun hm=>hT g hm rfl)];exact hgg
theorem zh1{w:World}{base base2 sz sz2 n n2:Nat}{e e2:TypeId}{v v2:Value}{xs xs2:List Value}(h:w.ownsRow base e sz v n xs)(h2:w.ownsRow base2 e2 sz2 v2 n2 xs2)(hne:e≠e2):∀x∈zbg v2,v.ownBlock≠some x:=by
 intro x hx;unfold zbg at hx;cases e':v2.ownBlock with
 |none=>rw[e'] at hx;simp at hx
 |some g=>
  rw[e'] at hx;simp at hx;subst hx;rcases h2.2 with⟨rfl,_⟩|⟨g',cap,cur,rfl,_,hh,_⟩
  ·simp[Value.ownBlock] at e'
  ·have:g'=x:=by simpa[Value.ownBlock] using e'
   subst this;exact zav h hh hne
open Go Go.RowKit
section
variable{P:Program}{e:TypeId}{k:IntKind}
theorem zie(d:Nat)(he:P.underlying e=some (.int k))(hk:P.plainKey e=true)(l m:List Int)(w:World):∀is:List Nat,(∀i∈is,i<l.length/\i<m.length)->
 (Op.eqItems (d+1) e 1 (zap k l).toArray (zap k m).toArray is).run P w= .ok (is.all fun i=>l.getD i 0==m.getD i 0) w
 | [],_=>by simp[Op.eqItems]
 |i::is,h=>by
  obtain⟨h1,h2⟩:=h i (by simp);have p1:=run_part_plain (P:=P) w hk (xs:=(zap k l).toArray) (off:=i*1) (v:= .int k (l.getD i 0)) (by simpa using zoj k l i h1);have p2:=run_part_plain (P:=P) w hk (xs:=(zap k m).toArray) (off:=i*1) (v:= .int k (m.getD i 0)) (by simpa using zoj k m i h2);have ih:=zie d he hk l m w is (fun j hj=>h j (by simp[hj]));have q:=run_equalIn_int (P:=P) w d e k k (l.getD i 0) (m.getD i 0) he;simp only[Op.eqItems,qrb,p1,p2,q,qrd,List.all_cons];cases hb:(l.getD i 0==m.getD i 0)
  ·simp
  ·simp[ih]
theorem z6d{l m:List Int}(h:l.length=m.length):((List.range l.length).all fun i=>l.getD i 0==m.getD i 0)=(l==m):=by
 rw[qmj,qog,beq_iff_eq];constructor
 ·intro hh
  refine qmk h fun i h1 h2=>?_
  have:=hh i (qot.2 h1);rw[qnp,qlx h1,qnp,qlx h2] at this;simpa using this
 ·rintro rfl i _
  simp
theorem zxn{t:TypeId}{n:Nat}(hu:P.underlying t=some (.array n e))(he:P.underlying e=some (.int k))(hk:P.plainKey e=true)(hi:(P.info? e).isSome=true)(hc:P.cellsOf e=1)(l m:List Int)(hl:l.length=n)(hm:m.length=n)(w:World):
 (binOp .eql t (.agg (zap k l).toArray) (.agg (zap k m).toArray)).run P w= .ok (.bool (l==m)) w:=by
 cases hq:P.info? e with
 |none=>rw[hq] at hi;cases hi
 |some i=>
  rw[run_eql_struct,run_equalIn_array w 9999 _ _ hu hq,hc,zie 9998 he hk l m w _ (fun i hi=>by have:=qot.1 hi;omega),<-hl,z6d (by omega)];simp[Result.andThen]
end
def ul(w p k B n:Nat):List Nat:=zqq w p B++(B/2^(w*p)%2^k)::List.replicate (n-p-1) 0
theorem qgo(w p B n:Nat)(h:p<n):zqq w p B++List.replicate (n-p) 0=ul w p 0 B n:=by rw[ul,show n-p=(n-p-1)+1 by omega,qn7,qp6,qnc];rfl
theorem qin(w p B n:Nat):ul w p w B n=zqq w (p+1) B++List.replicate (n-(p+1)) 0:=by rw[ul,zqq,qmi,show n-p-1=n-(p+1) by omega];rfl
theorem qgp(w p k B n:Nat):(ul w p k B n).getD p 0=B/2^(w*p)%2^k:=by rw[ul,qnp,qoy (by rw[zfl];exact ql6 _),zfl];simp
theorem qgq(w p k B n a t:Nat)(ha:a=w*p+k)(ht:t=B/2^a%2):(ul w p k B n).set p (B/2^(w*p)%2^k+t*2^k)=ul w p (k+1) B n:=by
 have e:B/2^(w*p)%2^(k+1)=B/2^(w*p)%2^k+t*2^k:=by rw[zm8,qo9,<-qnz,<-ha,<-ht,qmr t]
 rw[ul,ul,e,qn5 _ _ (by rw[zfl];exact ql6 _),zfl,qn6];rfl
theorem qio(b:List Nat)(h:∀x∈b,x<256)(a q r:Nat)(hq:q=a/8/\r=a%8)(ha:a<8*b.length):b.getD q 0/2^r%2=num b/2^a%2:=by
 obtain⟨rfl,rfl⟩:=hq;rw[zzu b h _ (by omega)];have e:(256:Nat)=2^(a%8)*2^(8-a%8):=by rw[<-qnz,show a%8+(8-a%8)=8 by omega]
 have e2:2^(8-a%8)=2*2^(7-a%8):=by rw[<-Nat.pow_succ'];congr 1;omega
 rw[show num b/256^(a/8)%256=num b/256^(a/8)%(2^(a%8)*2^(8-a%8)) by rw[<-e],qpc,e2,Nat.mod_mul_right_mod,qo9,qga,<-qnz];congr 3
 omega
theorem z0d(b:List Nat)(h:∀x∈b,x<256)(M r:Nat)(hl:b.length=(M+7)/8)(hr:r=M%8):num b<2^M↔(r=0\/b.getD (b.length-1) 0/2^r=0):=by
 have hb:=zrd b h;by_cases h0:r=0
 ·have:M=8*b.length:=by omega
  rw[qga,<-this] at hb;simp[h0,hb]
 ·have hl2:b.length-1<b.length:=by omega
  have hM:M=8*(b.length-1)+r:=by omega
  have e:=zzu b h _ hl2;have hlt:num b/256^(b.length-1)<256:=by apply qm7;rw[<-qm3,show(b.length-1).succ=b.length by omega];exact hb
  rw[qng hlt] at e;rw[e,hM,qnz,<-qga];constructor
  ·intro hh
   exact .inr (qpb (qm7 hh))
  ·rintro(hh|hh)
   ·exact absurd hh h0
   ·have h1:num b/256^(b.length-1)<2^r:=by
     rcases qma (num b/256^(b.length-1)) (2^r) with h2|h2
     ·exact h2
     ·have:=Nat.div_pos h2 (qnv r)
      omega
    rw[qmr];exact(Nat.div_lt_iff_lt_mul (qm4 (by omega))).1 h1
theorem qb8(v k t:Nat)(hv:v<2^k)(ht:t<=1)(hk:k<64):bits .or .u64 (v:Int) (IntKind.u64.wrap ((t:Int)*2^k))=((v+t*2^k:Nat):Int):=by
 have h7:2^(k+1)<=2^64:=qnj (by omega) (by omega);rw[qm3] at h7;have hq:t*2^k<=1*2^k:=ql4 _ ht;have e:IntKind.u64.wrap ((t:Int)*2^k)=((t*2^k:Nat):Int):=by
  have e2:((t*2^k:Nat):Int)=(t:Int)*2^k:=by simp
  rw[<-e2,qrj];omega
 rw[e,u64_or_nat _ _ (by omega) (by omega),qnk,<-qmr (2^k),<-qnl hv,qnm]
theorem qb9(y r t:Nat)(hy:y<256)(ht:t=y/2^r%2):bits .and .u8 ((y:Int)/2^r) 1=(t:Int):=by have h1:y/2^r<=y:=qnh _ _;have:=u8_and_nat (y/2^r) 1 (by omega) (by omega);rw[Nat.and_one_is_mod,<-ht] at this;rw[<-this];congr 1
open Go Go.RowKit
abbrev zq2:zab:=(false,0,[],0,0)
def ziu(s:List zab × List Nat)(c:zab):List zab × List Nat:=
 if c∈s.1 then(s.1,s.2++[s.1.idxOf c]) else(s.1++[c],s.2++[s.1.length])
def zin(l:List zab):List zab × List Nat:=l.foldl ziu ([],[])
theorem ziv(l:List zab)(c:zab):zin (l++[c])=ziu (zin l) c:=by simp[zin]
def ziw(s:Option Nat)(p:Nat):Option Nat:=
 match s with
 |none=>none
 |some k=>if k<p then none else if p=k then some (k+1) else some k
def qcg(l:List Nat):Option Nat:=l.foldl ziw (some 0)
theorem zk7(l:List Nat)(p:Nat):qcg (l++[p])=ziw (qcg l) p:=by simp[qcg]
theorem zk8{α:Type}{C:List α->Prop}(h0:C [])(h1:∀l x,C l->C (l++[x])):∀l,C l:=fun l=>by
 have:∀k,∀l:List α,l.length=k->C l:=by
  intro k;induction k with
  |zero=>intro l hl;rw[qpy.1 hl];exact h0
  |succ k ih=>
   intro l hl;have hne:l≠ []:=by intro e;subst e;simp at hl
   rw[<-List.dropLast_concat_getLast hne];exact h1 _ _ (ih _ (by simp[hl]))
 exact this _ l rfl
theorem zxy:∀(l:List Nat) (m:Nat),qcg l=some m-> ∀p∈l,p<m:=by
 refine zk8 ?_ ?_
 ·intro m _ p hp;simp at hp
 ·intro l x ih m h p hp
  rw[zk7] at h;cases hl:qcg l with
  |none=>rw[hl] at h;simp[ziw] at h
  |some j=>
   rw[hl] at h;have hi:=ih j hl;unfold ziw at h;dsimp only at h;split at h
   ·cases h
   ·split at h
    all_goals
     injection h with h;rcases qnd.1 hp with hp|hp
     ·have:=hi p hp;omega
     ·rw[qne.1 hp];omega
structure IsEnt(l E:List zab)(P:List Nat):Prop where
 nodup:E.Nodup
 map:P.map (fun p=>E.getD p zq2)=l
 ord:qcg P=some E.length
theorem IsEnt.lt{l E:List zab}{P:List Nat}(h:IsEnt l E P):∀p∈P,p<E.length:=zxy P _ h.ord
theorem IsEnt.len{l E:List zab}{P:List Nat}(h:IsEnt l E P):P.length=l.length:=by rw[<-h.map,qos]
theorem zvc{α:Type}{E:List α}{c d:α}{p:Nat}(h:p<E.length):(E++[c]).getD p d=E.getD p d:=by rw[qnp,qnp,qn9 h]
theorem zpa:∀l,IsEnt l (zin l).1 (zin l).2:=by
 refine zk8 ?_ ?_
 ·exact⟨by simp[zin],by simp[zin],by simp[zin,qcg]⟩
 ·intro l c h
  rw[ziv];obtain⟨h1,h2,h3⟩:=h;have hlt:=zxy _ _ h3;generalize zin l=s at*;obtain⟨E,P⟩:=s;dsimp only at h1 h2 h3 hlt;unfold ziu;dsimp only;split
  ·rename_i hc
   have hi:E.idxOf c<E.length:=qp9.2 hc;refine⟨h1,?_,?_⟩
   ·rw[qpj,h2]
    congr 1
    simp only[qmp,qmq];rw[qnp,qlx hi,List.getElem_idxOf hi];rfl
   ·rw[zk7,h3]
    unfold ziw;dsimp only;rw[if_neg (by omega),if_neg (by omega)]
  ·rename_i hc
   refine⟨?_,?_,?_⟩
   ·rw[List.nodup_append]
    refine⟨h1,by simp,?_⟩;intro a ha b hb e;rw[qne.1 hb] at e;exact hc (e▸ha)
   ·rw[qpj]
    congr 1
    ·rw[<-h2]
     exact qns fun p hp=>zvc (hlt p hp)
    ·simp
   ·rw[zk7,h3]
    unfold ziw;dsimp only;rw[if_neg (by omega),if_pos rfl];simp
theorem z2u{E:List zab}(h:E.Nodup){p:Nat}(hp:p<E.length):E.idxOf (E.getD p zq2)=p:=by
 rw[qnp,qlx hp,qnq];have hi:E.idxOf E[p]<E.length:=qp9.2 (qml hp);have:=List.getElem_idxOf hi;have hp':=List.pairwise_iff_getElem.1 h;rcases Nat.lt_trichotomy (E.idxOf E[p]) p with hlt|heq|hgt
 ·exact absurd this (hp' _ _ hi hp hlt)
 ·exact heq
 ·exact absurd this.symm (hp' _ _ hp hi hgt)
theorem IsEnt.uniq:∀{l E:List zab} {P:List Nat},IsEnt l E P->zin l=(E,P):=by
 have key:∀P:List Nat,∀l E,IsEnt l E P->zin l=(E,P):=by
  refine zk8 ?_ ?_
  ·intro l E h
   have h1:=h.map;have h2:=h.ord;simp only[qmq] at h1;subst h1;simp[qcg] at h2;have:E=[]:=qpy.1 (by omega);subst this;rfl
  ·intro P p ih l E h
   obtain⟨h1,h2,h3⟩:=h;rw[qpj] at h2;simp only[qmp,qmq] at h2;rw[zk7] at h3;subst h2;cases hk:qcg P with
   |none=>rw[hk] at h3;simp[ziw] at h3
   |some k=>
    rw[hk] at h3;have hlt:=zxy _ _ hk;unfold ziw at h3;dsimp only at h3;rw[ziv];split at h3
    ·cases h3
    ·split at h3
     ·rename_i hpk
      injection h3 with h3;subst hpk;have e1:E=E.take p++[E.getD p zq2]:=by
       have hp:p<E.length:=by omega
       conv=>lhs;rw[<-qoz p E,qmh hp,qpr (by omega)]
       rw[qnp,qlx hp];rfl
      have hl:(E.take p).length=p:=by rw[ql2];omega
      have hm:(P.map fun p=>E.getD p zq2)=P.map fun q=>(E.take p).getD q zq2:=by
       refine qns fun q hq=>?_
       have:=hlt q hq;conv=>lhs;rw[e1]
       exact zvc (by omega)
      have hi:=ih (P.map fun p=>E.getD p zq2) (E.take p) ⟨h1.sublist (List.take_sublist _ _),hm.symm,by rw[hk,hl]⟩;rw[hi];have hn:E.getD p zq2∉E.take p:=by rw[e1,List.nodup_append] at h1;intro hm;exact h1.2.2 _ hm _ (by simp) rfl
      unfold ziu;dsimp only;rw[if_neg hn,hl,<-e1]
     ·rename_i h4 h5
      injection h3 with h3;have hp:p<E.length:=by omega
      have hi:=ih (P.map fun p=>E.getD p zq2) E ⟨h1,rfl,by rw[hk,h3]⟩;rw[hi];have hm:E.getD p zq2∈E:=by rw[qnp,qlx hp];exact qml hp
      unfold ziu;dsimp only;rw[if_pos hm,z2u h1 hp]
 intro l E P h;exact key P l E h
theorem zte:∀l:List zab,∀c,c∈(zin l).1↔c∈l:=by
 refine zk8 ?_ ?_
 ·intro c;simp[zin]
 ·intro l x ih c
  rw[ziv];unfold ziu;split
  ·rename_i hx
   have:=(ih x).1 hx;rw[ih c,qnd,qne];constructor
   ·exact fun h=> .inl h
   ·rintro(h|rfl)
    ·exact h
    ·exact this
  ·dsimp only
   rw[qnd,qnd,ih c]
theorem ztf:∀l:List zab,(zin l).1.length<=l.length:=by
 refine zk8 ?_ ?_
 ·simp[zin]
 ·intro l x ih
  rw[ziv];unfold ziu;split
  ·simp;omega
  ·simp;omega
end Go.Hm
namespace Go.Proofs.Y
open Go.RowKit Go.Hm
theorem zx4(w:World)(a b:Obj):New w ((w.alloc a).alloc b):=qr0 ((qq8 _ _).alloc (ql6 _) _) ((qq8 _ _).alloc (ql6 _) _)
theorem zq3{s:List Nat}:(zai s).toList=[]↔s=[]:=by rw[zj5];simp
theorem zga{w:World}{b:Bool}{n:Int}{s:List Nat}{x y:Int}{cn:List Nat}{t:Int}{nu:Bool}(hs:s.length<=140737488351232):
 Calls Tryz.prog 83 #[.agg #[.bool b,.int .i64 n,.string (zai s),.int .i64 x,.int .i64 y],.agg #[.string (zai cn),.int .i64 t,.bool nu]] w (zak (.bool (zam (b,n,s,x,y) t nu)) w):=by
 have z1:=zbt s;generalize hO:zam (b,n,s,x,y) t nu=O;have HO:=qrf hO;have Z:=qrf (zq3 (s:=s));clear hO;have B0:=qrv w 75 #[.bool b,.int .i64 n,.string (zai s),.int .i64 x,.int .i64 y];have B1:=qrv (w.alloc (.cells #[.bool b,.int .i64 n,.string (zai s),.int .i64 x,.int .i64 y] 75)) 71 #[.string (zai cn),.int .i64 t,.bool nu];obtain⟨x0,x1,x2,x3,x4⟩:=zc4 (B0.alloc (.cells #[.string (zai cn),.int .i64 t,.bool nu] 71));obtain⟨y0,y1,y2⟩:=zar B1;clear B0 B1;go_enter Tryz.func83,Tryz.ntmps83
 go_wp2_with (first
  |(go_at_call 107;refine(zrp x y).mono ?_;rintro e w' ⟨rfl,b1⟩))
 all_goals go_ret
 all_goals try refine⟨?_,zx4 w _ _⟩
 all_goals try refine⟨?_,qr0 (zx4 w _ _) (by assumption)⟩
 all_goals
  rw[<-HO.out];have Z:=Z.out;clear x0 x1 x2 x3 x4 y0 y1 y2 HO;simp_all[zam]
 ·by_cases h1:n=1<;> simp[*]
 ·omega
end Go.Proofs.Y
namespace Go.Hm
open Go Go.RowKit
theorem za1{w:World}{g i:Nat}{x:Value}:w.grownBy (w.setCell ⟨g,i,none⟩ x) (some g):=
 ⟨rfl,rfl,rfl,by simp[World.setCell],fun k _ hne=>qq7 _ _ _ _ (fun e=>hne (by rw[e]))⟩
variable{P:Program}
theorem zlc{ops:Array Oper}{rest:List Oper}{op:Oper}{a:Act}{w:World}{Q:Exit->Act->World->Prop}(hgd:op.guard=none)(ty:TypeId)(x y:Operand)(ho:op.op= .store ty x y)
 (g o:Nat){v0 v1 v2 v3 v4:Value}(hx:a.eval x= .pointer (some ⟨g,o,none⟩))(hy:a.eval y= .agg #[v0,v1,v2,v3,v4]){t:TypeId}{cs:Array Value}(hB:Blk w g t cs)(hsz:o+5<=cs.size)
 (hi:(P.info? ty).map (·.size)=some 5)(h1:(#[v0,v1,v2,v3,v4]:Array Value).all (·.oneCell')=true)
 (h:∀W,Blk W g t (((((cs.setIfInBounds o v0).setIfInBounds (o+1) v1).setIfInBounds (o+1+1) v2).setIfInBounds (o+1+1+1) v3).setIfInBounds (o+1+1+1+1) v4)->
  (∀B w0,Below B w0 w->B<=g->Below B w0 W)->(∀g' t' cs',g'≠g->Blk w g' t' cs'->Blk W g' t' cs')->wpList P ops Q rest (a.put op.dst undef) W):wpList P ops Q (op::rest) a w:=by
 have ht:w.there g o (#[v0,v1,v2,v3,v4]:Array Value).size:=by intro j hj;have hj:j<5:=hj;refine⟨?_,hB.frozen _⟩;rw[hB.cell,qpu (by omega)];rfl
 refine wpList_store_mid hgd ty x y ho g o #[v0,v1,v2,v3,v4] hx hy ht hi h1 ?_;refine h _ (((((hB.set_ o v0).set_ (o+1) v1).set_ (o+1+1) v2).set_ (o+1+1+1) v3).set_ (o+1+1+1+1) v4) (fun B w0 hb hg=>?_) (fun g' t' cs' hne k=>?_)
 ·exact((((hb.setCell (p:=⟨g,o,none⟩) hg v0).setCell (p:=⟨g,o+1,none⟩) hg v1).setCell (p:=⟨g,o+1+1,none⟩) hg v2).setCell (p:=⟨g,o+1+1+1,none⟩) hg v3).setCell (p:=⟨g,o+1+1+1+1,none⟩) hg v4
 ·exact((((k.far (p:=⟨g,o,none⟩) hne v0).far (p:=⟨g,o+1,none⟩) hne v1).far (p:=⟨g,o+1+1,none⟩) hne v2).far (p:=⟨g,o+1+1+1,none⟩) hne v3).far (p:=⟨g,o+1+1+1+1,none⟩) hne v4
theorem zh5{ops:Array Oper}{rest:List Oper}{o:Oper}{a:Act}{w:World}{Q:Exit->Act->World->Prop}(hgd:o.guard=none)(ty:TypeId)(x y:Operand)(ho:o.op= .store ty x y)
 (g:Nat)(cells:Array Value)(hx:a.eval x= .pointer (some ⟨g,0,none⟩))(hy:a.eval y= .agg cells){t:TypeId}{old:Array Value}(hB:Blk w g t old)(hi:(P.info? ty).map (·.size)=some cells.size)
 (hold:old.size=cells.size)(h1:cells.all (·.oneCell')=true)
 (h:∀W,Blk W g t cells->(∀B w0,Below B w0 w->B<=g->Below B w0 W)->(∀g' t' cs',g'≠g->Blk w g' t' cs'->Blk W g' t' cs')->wpList P ops Q rest (a.put o.dst undef) W):wpList P ops Q (o::rest) a w:=by
 refine wpList_store_row hgd ty x y ho g cells hx hy t old hB hi hold h1 ?_;have hfar:∀k,k≠g->(w.setRow g cells).heap[k]? =w.heap[k]? :=fun k hne=>by simp[World.setRow,Array.getElem?_modify];intro e;exact absurd e.symm hne
 refine h _ ?_ (fun B w0 hb hg=>⟨hb.os,hb.tape,hb.output,by simpa[World.setRow] using hb.size,fun k hk=>?_⟩) (fun g' t' cs' hne k=>(hfar g' hne).trans k)
 ·unfold Blk at hB⊢
  simp[World.setRow,Array.getElem?_modify,hB]
 ·rw[hfar k (by omega)]
  exact hb.block k hk
theorem z68{o:Oper}{a:Act}{w:World}{K:Act->World->Prop}{Q:Exit->Act->World->Prop}(ty:TypeId)(x y:Operand)(ho:o.op= .store ty x y)
 (g:Nat)(cells:Array Value)(hx:a.eval x= .pointer (some ⟨g,0,none⟩))(hy:a.eval y= .agg cells){t:TypeId}{old:Array Value}(hB:Blk w g t old)(hi:(P.info? ty).map (·.size)=some cells.size)
 (hold:old.size=cells.size)(h1:cells.all (·.oneCell')=true)
 (h:∀W,Blk W g t cells->(∀B w0,Below B w0 w->B<=g->Below B w0 W)->(∀g' t' cs',g'≠g->Blk w g' t' cs'->Blk W g' t' cs')->K (a.put o.dst undef) W):o.wp P a w K Q:=by
 refine wp_store_row ty x y ho g cells hx hy t old hB hi hold h1 ?_;have hfar:∀k,k≠g->(w.setRow g cells).heap[k]? =w.heap[k]? :=fun k hne=>by simp[World.setRow,Array.getElem?_modify];intro e;exact absurd e.symm hne
 refine h _ ?_ (fun B w0 hb hg=>⟨hb.os,hb.tape,hb.output,by simpa[World.setRow] using hb.size,fun k hk=>?_⟩) (fun g' t' cs' hne k=>(hfar g' hne).trans k)
 ·unfold Blk at hB⊢
  simp[World.setRow,Array.getElem?_modify,hB]
 ·rw[hfar k (by omega)]
  exact hb.block k hk
theorem zbh{w:World}{g:Nat}{ty:TypeId}{a0 a1 a2 a3 a4 a5 a6 a7 a8 a9 aa ab:Value}(h:Blk w g ty #[a0,a1,a2,a3,a4,a5,a6,a7,a8,a9,aa,ab]):
 w.cell? ⟨g,0,none⟩=some a0/\w.cell? ⟨g,1,none⟩=some a1/\w.cell? ⟨g,2,none⟩=some a2/\w.cell? ⟨g,3,none⟩=some a3/\w.cell? ⟨g,4,none⟩=some a4/\w.cell? ⟨g,5,none⟩=some a5
  /\w.cell? ⟨g,6,none⟩=some a6/\w.cell? ⟨g,7,none⟩=some a7/\w.cell? ⟨g,8,none⟩=some a8/\w.cell? ⟨g,9,none⟩=some a9/\w.cell? ⟨g,10,none⟩=some aa/\w.cell? ⟨g,11,none⟩=some ab:=by
 have h0:=h.cell 0;have h1:=h.cell 1;have h2:=h.cell 2;have h3:=h.cell 3;have h4:=h.cell 4;have h5:=h.cell 5;have h6:=h.cell 6;have h7:=h.cell 7;have h8:=h.cell 8;have h9:=h.cell 9;have h10:=h.cell 10;have h11:=h.cell 11;simp at h0 h1 h2 h3 h4 h5 h6 h7 h8 h9 h10 h11;exact⟨h0,h1,h2,h3,h4,h5,h6,h7,h8,h9,h10,h11⟩
theorem zan{ops:Array Oper}{rest:List Oper}{o:Oper}{a:Act}{w:World}{Q:Exit->Act->World->Prop}(hgd:o.guard=none)(ty:TypeId)(x y:Operand)(ho:o.op= .store ty x y)
 (g:Nat)(cells:Array Value)(hx:a.eval x= .pointer (some ⟨g,0,none⟩))(hy:a.eval y= .agg cells){t:TypeId}{old:Array Value}(hB:Blk w g t old)(hi:(P.info? ty).map (·.size)=some cells.size)
 (hold:old.size=cells.size)(h1:cells.all (·.oneCell')=true)
 (h:∀W,Blk W g t cells->w.grownBy W (some g)->wpList P ops Q rest (a.put o.dst undef) W):wpList P ops Q (o::rest) a w:=by
 refine wpList_store_row hgd ty x y ho g cells hx hy t old hB hi hold h1 ?_;refine h _ ?_ ⟨rfl,rfl,rfl,by simp[World.setRow],fun k _ hne=>?_⟩
 ·unfold Blk at hB⊢
  simp[World.setRow,Array.getElem?_modify,hB]
 ·simp[World.setRow,Array.getElem?_modify]
  intro e;exact absurd (by rw[e]) hne
theorem zrq{w w':World}{row:Option Nat}(h:w.grownBy w' row):Below 0 w w':=⟨h.os,h.tape,h.output,h.size,fun k hk=>by omega⟩
theorem zgh{w w3 W:World}{g:Nat}{row:Option Nat}(G:w.grownBy w3 (some g))(k:w3.grownBy W row)(hb:∀b,row=some b->w.heap.size<=b):w.grownBy W (some g):=
 ⟨k.os.trans G.os,k.tape.trans G.tape,k.output.trans G.output,qlw G.size k.size,fun i hi hne=>(k.block i (qlz hi G.size) (fun e=>by have:=hb i e.symm;omega)).trans (G.block i hi hne)⟩
theorem zbj{w w3 W:World}{g b:Nat}(G:w.grownBy w3 (some g))(k:w3.grownBy W (some b))(hb:w.heap.size<=b):w.grownBy W (some g):=
 ⟨k.os.trans G.os,k.tape.trans G.tape,k.output.trans G.output,qlw G.size k.size,fun i hi hne=>(k.block i (qlz hi G.size) (fun e=>by injection e with e;omega)).trans (G.block i hi hne)⟩
theorem zj2{ops:Array Oper}{rest:List Oper}{op:Oper}{a:Act}{w:World}{Q:Exit->Act->World->Prop}(hgd:op.guard=none)(ty:TypeId)(x y:Operand)(ho:op.op= .store ty x y)
 (g o:Nat){v0 v1 v2 v3 v4:Value}(hx:a.eval x= .pointer (some ⟨g,o,none⟩))(hy:a.eval y= .agg #[v0,v1,v2,v3,v4]){t:TypeId}{cs:Array Value}(hB:Blk w g t cs)(hsz:o+5<=cs.size)
 (hi:(P.info? ty).map (·.size)=some 5)(h1:(#[v0,v1,v2,v3,v4]:Array Value).all (·.oneCell')=true)
 (h:∀W,Blk W g t (((((cs.setIfInBounds o v0).setIfInBounds (o+1) v1).setIfInBounds (o+1+1) v2).setIfInBounds (o+1+1+1) v3).setIfInBounds (o+1+1+1+1) v4)->
  w.grownBy W (some g)->wpList P ops Q rest (a.put op.dst undef) W):wpList P ops Q (op::rest) a w:=by
 have ht:w.there g o (#[v0,v1,v2,v3,v4]:Array Value).size:=by intro j hj;have hj:j<5:=hj;refine⟨?_,hB.frozen _⟩;rw[hB.cell,qpu (by omega)];rfl
 refine wpList_store_mid hgd ty x y ho g o #[v0,v1,v2,v3,v4] hx hy ht hi h1 ?_;exact h _ (((((hB.set_ o v0).set_ (o+1) v1).set_ (o+1+1) v2).set_ (o+1+1+1) v3).set_ (o+1+1+1+1) v4)
  (((((za1 (w:=w) (g:=g) (i:=o) (x:=v0)).trans za1).trans za1).trans za1).trans za1)
open Go Go.RowKit
def zio(x y:Int):Int:=if x<y then-1 else if y<x then 1 else 0
end Go.Hm
namespace Go.Proofs.Y
open Go.RowKit Go.Hm
theorem z7z{w:World}{x:Int}:Calls Tryz.prog 184 #[.int .i64 x] w (zcv (.bool false) w):=by
 go_enter Tryz.func184,Tryz.ntmps184
 go_wp2
 go_ret
 exact⟨by simp,rfl⟩
theorem cmpI_any{w:World}{x y:Int}:Calls Tryz.prog 164 #[.int .i64 x,.int .i64 y] w (zcv (.int .i64 (zio x y)) w):=by
 have P:=fun z:Int=>qrf (z7z (w:=w) (x:=z))
 have K1:=qrf (fun(h:x<y)=>show zio x y= -1 by rw[zio,if_pos h]);have K2:=qrf (fun(h:y<x)=>show zio x y=1 by rw[zio,if_neg (by omega),if_pos h]);have K3:=qrf (fun(h: ¬x<y) (h2: ¬y<x)=>show zio x y=0 by rw[zio,if_neg h,if_neg h2]);generalize zio x y=O at*;by_cases h1:x<y
 ·have O1:=qrf (K1.out h1)
  clear K1 K2 K3;go_enter Tryz.func164,Tryz.ntmps164
  go_wp2_with (first|(go_at_call 184;refine((P _).out).mono ?_;rintro e w' ⟨rfl,rfl⟩))
  go_ret
  exact⟨by rw[O1.out];rfl,rfl⟩
 ·by_cases h2:y<x
  ·have O1:=qrf (K2.out h2)
   clear K1 K2 K3;go_enter Tryz.func164,Tryz.ntmps164
   go_wp2_with (first|(go_at_call 184;refine((P _).out).mono ?_;rintro e w' ⟨rfl,rfl⟩))
   go_ret
   exact⟨by rw[O1.out];rfl,rfl⟩
  ·have O1:=qrf (K3.out h1 h2)
   clear K1 K2 K3;go_enter Tryz.func164,Tryz.ntmps164
   go_wp2_with (first|(go_at_call 184;refine((P _).out).mono ?_;rintro e w' ⟨rfl,rfl⟩))
   go_ret
   exact⟨by rw[O1.out];rfl,rfl⟩
end Go.Proofs.Y
namespace Go.Hm
open Go Go.RowKit
def qc4(a b:List Nat):Int:=Lib.compareBytes (a.map UInt8.ofNat) (b.map UInt8.ofNat)
def z4y(a b:Bool):Int:=if a&&b then 0 else if a then-1 else 1
def qi4(t:Int)(a b:zab):Int:=if a.1||b.1 then z4y a.1 b.1 else if t=0\/t=1 then zio a.2.1 b.2.1 else if t=2 then qc4 a.2.2.1 b.2.2.1 else 0
end Go.Hm
namespace Go.Proofs.Y
open Go.RowKit Go.Hm
theorem bstrCmp_any{w:World}{a b:List Nat}:Calls Tryz.prog 185 #[.string (zai a),.string (zai b)] w (zcv (.int .i64 (qc4 a b)) w):=by
 go_enter Tryz.func185,Tryz.ntmps185
 go_wp2
 rw[run_callFunc_extern Tryz.func203 (by kernel_rfl) (by kernel_rfl) (by kernel_rfl) (e:=Extern.BytealgCompare.compare) (by kernel_rfl),Lib.run_compareString];simp only[Result.andThen];rw[Oper.upon_value];go_wp2
 go_ret
 exact⟨rfl,rfl⟩
theorem strCmp_any{w:World}{a b:List Nat}:Calls Tryz.prog 165 #[.string (zai a),.string (zai b)] w (zcv (.int .i64 (qc4 a b)) w):=by
 go_enter Tryz.func165,Tryz.ntmps165
 go_wp2_with (go_at_call 185;refine bstrCmp_any.mono ?_;rintro e w' ⟨rfl,rfl⟩)
 go_ret
 exact⟨rfl,rfl⟩
theorem cmpNulls_any{w:World}{a b:Bool}{n m:Int}{s r:ByteArray}{x y x2 y2:Int}:
 Calls Tryz.prog 163 #[.agg #[.bool a,.int .i64 n,.string s,.int .i64 x,.int .i64 y],.agg #[.bool b,.int .i64 m,.string r,.int .i64 x2,.int .i64 y2]] w (zak (.int .i64 (z4y a b)) w):=by
 have B0:=qrv w 75 #[.bool a,.int .i64 n,.string s,.int .i64 x,.int .i64 y];have B1:=qrv (w.alloc (.cells #[.bool a,.int .i64 n,.string s,.int .i64 x,.int .i64 y] 75)) 75 #[.bool b,.int .i64 m,.string r,.int .i64 x2,.int .i64 y2];obtain⟨x0,_⟩:=zc4 (B0.alloc (.cells #[.bool b,.int .i64 m,.string r,.int .i64 x2,.int .i64 y2] 75));obtain⟨y0,_⟩:=zc4 B1;clear B0 B1;go_enter Tryz.func163,Tryz.ntmps163
 cases a<;> cases b;all_goals
  go_wp2
  go_ret
  exact⟨rfl,zx4 w _ _⟩
theorem zyi{w:World}{t:Int}{a b:Bool}{n m:Int}{s r:List Nat}{x y x2 y2:Int}(h3: ¬(t=3/\a=false/\b=false)):
 Calls Tryz.prog 144 #[.int .i64 t,.agg #[.bool a,.int .i64 n,.string (zai s),.int .i64 x,.int .i64 y],.agg #[.bool b,.int .i64 m,.string (zai r),.int .i64 x2,.int .i64 y2]] w (zak (.int .i64 (qi4 t (a,n,s,x,y) (b,m,r,x2,y2))) w):=by
 have B0:=qrv w 75 #[.bool a,.int .i64 n,.string (zai s),.int .i64 x,.int .i64 y];have B1:=qrv (w.alloc (.cells #[.bool a,.int .i64 n,.string (zai s),.int .i64 x,.int .i64 y] 75)) 75 #[.bool b,.int .i64 m,.string (zai r),.int .i64 x2,.int .i64 y2];obtain⟨x0,x1,x2',x3,x4⟩:=zc4 (B0.alloc (.cells #[.bool b,.int .i64 m,.string (zai r),.int .i64 x2,.int .i64 y2] 75));obtain⟨y0,y1,y2',y3,y4⟩:=zc4 B1;generalize hO:qi4 t (a,n,s,x,y) (b,m,r,x2,y2)=O;have HO:=qrf hO;have H3:=qrf h3;clear B0 B1 hO h3;cases a<;> cases b
 case' false.false=>have h3: ¬t=3:=fun e=>H3.out ⟨e,rfl,rfl⟩
 all_goals
  clear H3;go_enter Tryz.func144,Tryz.ntmps144
  go_wp2_with (first
   |(go_at_call 163;refine cmpNulls_any.mono ?_;rintro e w' ⟨rfl,b1⟩)
   |(go_at_call 164;refine cmpI_any.mono ?_;rintro e w' ⟨rfl,rfl⟩)
   |(go_at_call 165;refine strCmp_any.mono ?_;rintro e w' ⟨rfl,rfl⟩))
 all_goals go_ret
 all_goals try refine⟨?_,zx4 w _ _⟩
 all_goals try refine⟨?_,qr0 (zx4 w _ _) (by assumption)⟩
 all_goals
  rw[<-HO.out];clear x0 x1 x2' x3 x4 y0 y1 y2' y3 y4 HO;simp_all[qi4]
end Go.Proofs.Y
