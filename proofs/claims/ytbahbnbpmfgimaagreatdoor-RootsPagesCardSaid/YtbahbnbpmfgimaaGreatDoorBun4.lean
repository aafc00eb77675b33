/- Merged. -/
import Derived.BigQuiet
import Derived.Test.YtbahbnbpmfgimaaGreatDoorBun3
set_option maxHeartbeats 2000000
namespace Go.Proofs.Y
open Go.RowKit Go.Hm
theorem qfj:Tryz.prog.underlying 9=some .string:=by kernel_rfl
theorem elS:ElT Tryz.prog 236 9 (.string ⟨#[]⟩) 1 16:=⟨by kernel_rfl,by kernel_rfl,rfl,by omega⟩
def DrewPost(v:Value)(w:World)(e:Ending)(w':World):Prop:=e= .returned v/\ ∃k,w'=w.drewN k
def zal(v:Value)(w:World)(e:Ending)(w':World):Prop:=e= .returned v/\New w w'
def zdm(v:Value)(w:World)(e:Ending)(w':World):Prop:=e= .returned v/\w=w'
theorem DrewPost.new{v:Value}{w w':World}{e:Ending}(h:DrewPost v w e w'):zal v w e w':=by obtain⟨h1,k,rfl⟩:=h;exact⟨h1,zg2 w k⟩
def OptB(o:Option (List Nat))(w:World)(e:Ending)(w':World):Prop:=
 match o with
 |none=>e= .returned (.tuple #[.slice none 0 0,.bool false])/\Below w.heap.size w w'
 |some l=>∃A n c,e= .returned (.tuple #[.slice A n c,.bool true])/\Own w' w.heap.size 5 (.slice A n c) (zan .u8 l)/\Below w.heap.size w w'
theorem OptB.u{o:Option (List Nat)}{w w':World}{e:Ending}(h:OptB o w e w'):
 ∃A n c,e= .returned (.tuple #[.slice A n c,.bool o.isSome])/\Own w' w.heap.size 5 (.slice A n c) (zan .u8 (o.getD []))/\Below w.heap.size w w':=by
 cases o with
 |none=>exact⟨none,0,0,h.1,Own.nil_,h.2⟩
 |some l=>exact h
def OptW(o:Option (List Nat))(w:World)(e:Ending)(w':World):Prop:=
 match o with
 |none=>e= .returned (.tuple #[.slice none 0 0,.bool false])/\Below w.heap.size w w'
 |some l=>∃A n c,e= .returned (.tuple #[.slice A n c,.bool true])/\Own w' w.heap.size 138 (.slice A n c) (zan .u64 l)/\Below w.heap.size w w'
theorem OptW.u{o:Option (List Nat)}{w w':World}{e:Ending}(h:OptW o w e w'):
 ∃A n c,e= .returned (.tuple #[.slice A n c,.bool o.isSome])/\Own w' w.heap.size 138 (.slice A n c) (zan .u64 (o.getD []))/\Below w.heap.size w w':=by
 cases o with
 |none=>exact⟨none,0,0,h.1,Own.nil_,h.2⟩
 |some l=>exact h
def OptT(o:Option (List (List Nat)))(w:World)(e:Ending)(w':World):Prop:=
 match o with
 |none=>e= .returned (.tuple #[.slice none 0 0,.bool false])/\Below w.heap.size w w'
 |some l=>∃A n c,e= .returned (.tuple #[.slice A n c,.bool true])/\Own w' w.heap.size 9 (.slice A n c) (zq8 l)/\Below w.heap.size w w'
theorem OptT.u{o:Option (List (List Nat))}{w w':World}{e:Ending}(h:OptT o w e w'):
 ∃A n c,e= .returned (.tuple #[.slice A n c,.bool o.isSome])/\Own w' w.heap.size 9 (.slice A n c) (zq8 (o.getD []))/\Below w.heap.size w w':=by
 cases o with
 |none=>exact⟨none,0,0,h.1,Own.nil_,h.2⟩
 |some l=>exact h
end Go.Proofs.Y
namespace Go.Hm
open Go Go.RowKit
section
variable{P:Program}{e:TypeId}{k:IntKind}
theorem zh5(d:Nat)(he:P.underlying e=some (.int k))(hk:P.plainKey e=true)(l m:List Int)(w:World):∀is:List Nat,(∀i∈is,i<l.length/\i<m.length)->
 (Op.eqItems (d+1) e 1 (za7 k l).toArray (za7 k m).toArray is).run P w= .ok (is.all fun i=>l.getD i 0==m.getD i 0) w
 | [],_=>by simp[Op.eqItems]
 |i::is,h=>by
  obtain⟨h1,h2⟩:=h i (by simp);have p1:=run_part_plain (P:=P) w hk (xs:=(za7 k l).toArray) (off:=i*1) (v:= .int k (l.getD i 0)) (by simpa using zn9 k l i h1);have p2:=run_part_plain (P:=P) w hk (xs:=(za7 k m).toArray) (off:=i*1) (v:= .int k (m.getD i 0)) (by simpa using zn9 k m i h2);have ih:=zh5 d he hk l m w is (fun j hj=>h j (by simp[hj]));have q:=run_equalIn_int (P:=P) w d e k k (l.getD i 0) (m.getD i 0) he;simp only[Op.eqItems,Sem.run_bind,p1,p2,q,Result.andThen_ok,List.all_cons];cases hb:(l.getD i 0==m.getD i 0)
  ·simp
  ·simp[ih]
theorem z6n{l m:List Int}(h:l.length=m.length):((List.range l.length).all fun i=>l.getD i 0==m.getD i 0)=(l==m):=by
 rw[qm6,qo4,beq_iff_eq];constructor
 ·intro hh
  refine qm7 h fun i h1 h2=>?_
  have:=hh i (qpi.2 h1);rw[qoa,qmm h1,qoa,qmm h2] at this;simpa using this
 ·rintro rfl i _
  simp
theorem zx0{t:TypeId}{n:Nat}(hu:P.underlying t=some (.array n e))(he:P.underlying e=some (.int k))(hk:P.plainKey e=true)(hi:(P.info? e).isSome=true)(hc:P.cellsOf e=1)(l m:List Int)(hl:l.length=n)(hm:m.length=n)(w:World):
 (binOp .eql t (.agg (za7 k l).toArray) (.agg (za7 k m).toArray)).run P w= .ok (.bool (l==m)) w:=by
 cases hq:P.info? e with
 |none=>rw[hq] at hi;cases hi
 |some i=>
  rw[run_eql_struct,run_equalIn_array w 9999 _ _ hu hq,hc,zh5 9998 he hk l m w _ (fun i hi=>by have:=qpi.1 hi;omega),<-hl,z6n (by omega)];simp[Result.andThen]
end
def pv:Nat->List Nat->Option (Nat × List Nat)
 |0,_=>none
 |_+1,[]=>none
 |f+1,b::r=>if b<128 then some (b,r) else
   match pv f r with
   |some (0,_)=>none
   |some (N+1,r')=>some (b-128+128*(N+1),r')
   |none=>none
theorem qji:∀(f N:Nat) (r:List Nat),(vp N).length<=f->pv f (vp N++r)=some (N,r):=by
 intro f;induction f with
 |zero=>intro N r h;have:=zug N;omega
 |succ f ih=>
  intro N r h;by_cases hN:N<128
  ·rw[zf2 hN];simp[pv,hN]
  ·rw[zf3 hN] at h⊢
   simp only[qnt,pv];rw[if_neg (by omega),ih (N/128) r (by simpa using h)];obtain⟨m,hm⟩:∃m,N/128=m+1:=⟨N/128-1,by omega⟩;simp only[hm];congr 2
   omega
theorem qhd:∀(f N:Nat) (l r:List Nat),(∀x∈l,x<256)->pv f l=some (N,r)->l=vp N++r/\(vp N).length<=f:=by
 intro f;induction f with
 |zero=>intro N l r _ h;simp[pv] at h
 |succ f ih=>
  intro N l r h8 h;cases l with
  |nil=>simp[pv] at h
  |cons b s=>
   simp only[pv] at h;by_cases hb:b<128
   ·rw[if_pos hb] at h
    simp only[qmj,qmi] at h;obtain⟨rfl,rfl⟩:=h;rw[zf2 hb];simp
   ·rw[if_neg hb] at h
    split at h
    ·simp at h
    ·rename_i M r' hM
     simp only[qmj,qmi] at h;obtain⟨rfl,rfl⟩:=h;obtain⟨h1,h2⟩:=ih _ _ _ (fun x hx=>h8 x (by simp[hx])) hM;have hb2:=h8 b (by simp);rw[zf3 (by omega),show(b-128+128*(M+1))/128=M+1 by omega,show(b-128+128*(M+1))%128+128=b by omega,qnt,<-h1];refine⟨rfl,by simp;exact h2⟩
    ·simp at h
def gv(l:List Nat):Option (Nat × List Nat):=
 match pv 10 l with
 |some (N,r)=>if N<18446744073709551616 then some (N,r) else none
 |none=>none
theorem qfn(N:Nat)(r:List Nat)(hN:N<18446744073709551616):gv (vp N++r)=some (N,r):=by unfold gv;rw[qji 10 N r (zap hN)];simp[hN]
theorem zx7{l r:List Nat}{N:Nat}(h8:∀x∈l,x<256)(h:gv l=some (N,r)):l=vp N++r/\N<18446744073709551616:=by
 unfold gv at h;split at h
 ·rename_i M s hM
  split at h
  ·simp only[qmj,qmi] at h
   obtain⟨rfl,rfl⟩:=h;exact⟨(qhd _ _ _ _ h8 hM).1,‹_›⟩
  ·cases h
 ·cases h
theorem qhe{l:List Nat}(h:gv l=none):∀N r,l=vp N++r->18446744073709551616<=N:=by
 intro N r hl;rcases qmx N 18446744073709551616 with hN|hN
 ·rw[hl,qfn N r hN] at h
  cases h
 ·exact hN
abbrev St:=Option (List Nat)
def zql:St->Nat × St
 |none=>(0,none)
 |some l=>match gv l with
  |some (N,r)=>(N,some r)
  |none=>(0,none)
def lenS(m:Int)(S:St):Nat × St:=
 match zql S with
 |(N,some r)=>if(N:Int)<=m then(N,some r) else(0,none)
 |(_,none)=>(0,none)
def zcf:St->Nat × St
 |some (b::r)=>(b,some r)
 |_=>(0,none)
def zeq(n:Int):St->List Nat × St
 |some l=>if 0<=n/\n<=(l.length:Int) then(l.take n.toNat,some (l.drop n.toNat)) else([],none)
 |none=>([],none)
def qcu(S:St):Bool:=decide (S=some [])
def St.ok(S:St):Prop:=∀l,S=some l-> ∀x∈l,x<256
theorem St.ok_none:St.ok none:=fun _ h=>by cases h
theorem St.ok_some{l:List Nat}(h:∀x∈l,x<256):St.ok (some l):=fun _ e=>by injection e with e;subst e;exact h
theorem zsz(N:Nat)(r:List Nat)(hN:N<18446744073709551616):zql (some (vp N++r))=(N,some r):=by simp[zql,qfn N r hN]
theorem zds(N:Nat)(r:List Nat){m:Int}(hN:(N:Int)<=m)(hm:m<=9223372036854775807):lenS m (some (vp N++r))=(N,some r):=by simp only[lenS,zsz N r (by omega),if_pos hN]
theorem zu1(m:Int):lenS m none=(0,none):=rfl
theorem zl2:zcf none=(0,none):=rfl
theorem z22(n:Int):zeq n none=([],none):=rfl
theorem zdf(m:Int)(S:St)(hS:S.ok):lenS m S=(0,none)\/ ∃N r,S=some (vp N++r)/\(N:Int)<=m/\N<18446744073709551616/\lenS m S=(N,some r):=by
 unfold lenS zql;cases S with
 |none=>exact .inl rfl
 |some l=>
  simp only;cases hg:gv l with
  |none=>exact .inl rfl
  |some p=>
   obtain⟨N,r⟩:=p;obtain⟨h1,h2⟩:=zx7 (hS l rfl) hg;simp only;split
   ·exact .inr ⟨N,r,by rw[h1],‹_›,h2,rfl⟩
   ·exact .inl rfl
theorem zi8(S:St)(hS:S.ok):zql S=(0,none)\/ ∃N r,S=some (vp N++r)/\N<18446744073709551616/\zql S=(N,some r):=by
 unfold zql;cases S with
 |none=>exact .inl rfl
 |some l=>
  simp only;cases hg:gv l with
  |none=>exact .inl rfl
  |some p=>
   obtain⟨N,r⟩:=p;obtain⟨h1,h2⟩:=zx7 (hS l rfl) hg;exact .inr ⟨N,r,by rw[h1],h2,rfl⟩
theorem ze4(n:Int)(S:St):zeq n S=([],none)\/ ∃l,S=some l/\0<=n/\n<=(l.length:Int)/\zeq n S=(l.take n.toNat,some (l.drop n.toNat)):=by
 unfold zeq;cases S with
 |none=>exact .inl rfl
 |some l=>
  simp only;split
  ·rename_i h;exact .inr ⟨l,rfl,h.1,h.2,rfl⟩
  ·exact .inl rfl
theorem zor(a b:List Nat):zeq (a.length:Int) (some (a++b))=(a,some b):=by simp only[zeq];rw[if_pos ⟨by omega,by rw[qni];omega⟩];simp
theorem zdg{m:Int}(S:St)(hm:0<=m)(hS:S.ok):((lenS m S).1:Int)<=m:=by
 rcases zdf m S hS with h|⟨N,r,_,h1,_,h⟩
 ·rw[h];exact hm
 ·rw[h];exact h1
theorem zb4{m:Int}{S:St}(hS:S.ok):(lenS m S).2.ok:=by
 rcases zdf m S hS with h|⟨N,r,h0,_,_,h⟩
 ·rw[h];exact St.ok_none
 ·rw[h];exact St.ok_some fun x hx=>hS _ h0 x (by simp[hx])
theorem zs0{S:St}(hS:S.ok):(zql S).2.ok:=by
 rcases zi8 S hS with h|⟨N,r,h0,_,h⟩
 ·rw[h];exact St.ok_none
 ·rw[h];exact St.ok_some fun x hx=>hS _ h0 x (by simp[hx])
theorem z62{S:St}(hS:S.ok):(zql S).1<18446744073709551616:=by
 rcases zi8 S hS with h|⟨N,r,h0,h1,h⟩
 ·rw[h];decide
 ·rw[h];exact h1
theorem zs4{S:St}(hS:S.ok):(zcf S).2.ok:=by
 unfold zcf;split
 ·exact St.ok_some fun x hx=>hS _ rfl x (by simp[hx])
 ·exact St.ok_none
theorem zno{S:St}(hS:S.ok):(zcf S).1<256:=by
 unfold zcf;split
 ·exact hS _ rfl _ (by simp)
 ·decide
theorem zi9{n:Int}{S:St}(hS:S.ok):(zeq n S).2.ok/\ ∀x∈(zeq n S).1,x<256:=by
 rcases ze4 n S with h|⟨l,h0,_,_,h⟩
 ·rw[h];exact⟨St.ok_none,by simp⟩
 ·rw[h];exact⟨St.ok_some fun x hx=>hS _ h0 x (qpa hx),fun x hx=>hS _ h0 x (qnh hx)⟩
theorem zos{n:Int}{S:St}(hn:0<=n):((zeq n S).1.length:Int)<=n:=by
 rcases ze4 n S with h|⟨l,_,h1,h2,h⟩
 ·rw[h];simpa using hn
 ·rw[h,qmq];omega
theorem zer{m:Int}{S:St}(hS:S.ok):((lenS m S).2.getD []).length<=(S.getD []).length:=by
 rcases zdf m S hS with h|⟨N,r,rfl,_,_,h⟩
 ·rw[h];simp
 ·rw[h];simp
theorem z63{S:St}:((zcf S).2.getD []).length<=(S.getD []).length:=by unfold zcf;split<;> simp
end Go.Hm
namespace Go.Proofs.Y
open Go.RowKit Go.Hm
set_option maxRecDepth 100000 in
theorem z26{w:World}(x y:Int):
 Calls Tryz.prog 124 #[.agg #[.int .i64 x,.int .i64 y],.int .i64 1048576] w (zal (.bool (inBox x y)) w):=by
 obtain⟨W0,hW0⟩:∃W,W=w.alloc (.cells #[.int .i64 x,.int .i64 y] 73):=⟨_,rfl⟩;have b0:New w W0:=by rw[hW0];exact(Below.refl _ _).alloc (qmt _) _
 have B0:Blk W0 w.heap.size 73 #[.int .i64 x,.int .i64 y]:=by rw[hW0];exact Blk.new _ _ _
 obtain⟨x0,x1⟩:=zbz B0;have HO:=Hz (show inBox x y=(decide (-1048576<=x)&&decide (x<=1048576)&&decide (-1048576<=y)&&decide (y<=1048576)) from rfl);generalize inBox x y=O at*;rw[hW0] at x0 x1;clear B0;cases h1:decide (-1048576<=x)<;> cases h2:decide (x<=1048576)<;> cases h3:decide (-1048576<=y)<;> cases h4:decide (y<=1048576);all_goals
  rw[h1,h2,h3,h4] at HO;go_enter Tryz.func124,Tryz.ntmps124
  go_wp2
  go_ret
  exact⟨by rw[HO.out];rfl,by rw[<-hW0];exact b0⟩
set_option maxRecDepth 100000 in
theorem zrj{w:World}(x y:Int):
 Calls Tryz.prog 107 #[.agg #[.int .i64 x,.int .i64 y]] w (zal (.bool (inBox x y)) w):=by
 obtain⟨W0,hW0⟩:∃W,W=w.alloc (.cells #[.int .i64 x,.int .i64 y] 73):=⟨_,rfl⟩;have b0:New w W0:=by rw[hW0];exact(Below.refl _ _).alloc (qmt _) _
 have B0:Blk W0 w.heap.size 73 #[.int .i64 x,.int .i64 y]:=by rw[hW0];exact Blk.new _ _ _
 obtain⟨x0,x1⟩:=zbz B0;rw[hW0] at x0 x1;clear B0;go_enter Tryz.func107,Tryz.ntmps107
 go_wp2_with (first
  |(go_at_call 124;refine(z26 x y).mono ?_;rintro e w' ⟨rfl,b1⟩))
 go_ret
 exact⟨rfl,New.trans b0 (by rw[hW0];exact b1)⟩
end Go.Proofs.Y
namespace Go.Hm
def shr:List Nat->List Nat->Nat
 |a::l,b::m=>if a=b then shr l m+1 else 0
 |_,_=>0
theorem zo7:∀a b:List Nat,shr a b<=a.length
 | [],_=>by simp[shr]
 |_::_,[]=>by simp[shr]
 |a::l,b::m=>by
  simp only[shr];split
  ·have:=zo7 l m;simp;exact this
  ·simp
theorem zit:∀a b:List Nat,shr a b<=b.length
 | [],_=>by simp[shr]
 |_::_,[]=>by simp[shr]
 |a::l,b::m=>by
  simp only[shr];split
  ·have:=zit l m;simp;exact this
  ·simp
theorem qfr:∀(a b:List Nat) (n:Nat),n<=a.length->n<=b.length->a.take n=b.take n->(n=a.length\/n=b.length\/ ¬a.getD n 0=b.getD n 0)->shr a b=n
 | [],_,n,h1,_,_,_=>by simp at h1;simp[shr,h1]
 |_::_,[],n,_,h2,_,_=>by simp at h2;simp[shr,h2]
 |a::l,b::m,0,_,_,_,h=>by
  simp only[shr];rcases h with h|h|h
  ·simp at h
  ·simp at h
  ·simp at h;rw[if_neg h]
 |a::l,b::m,n+1,h1,h2,h3,h=>by
  simp only[qqu,qmg] at h3;simp only[shr];rw[if_pos h3.1,qfr l m n (by simpa using h1) (by simpa using h2) h3.2 (by simpa using h)]
def zuf(l:List (List Nat)):Nat:=(l.map List.length).sum
theorem z72(s:List Nat)(l:List (List Nat)):zuf (s::l)=s.length+zuf l:=by simp[zuf]
theorem zyq(l m:List (List Nat)):zuf (l++m)=zuf l+zuf m:=by simp[zuf]
theorem zve(l:List (List Nat))(k:Nat):zuf (l.take k)<=zuf l:=by
 conv=>rhs;rw[<-qpl k l,zyq]
 omega
def qbh(l:List (List Nat)):Bool:=decide (l.length<=65536/\(∀s∈l,s.length<=65536)/\zuf l<=16777216)
theorem zjf(l:List (List Nat)):qbh l=true↔l.length<=65536/\(∀s∈l,s.length<=65536)/\zuf l<=16777216:=by simp[qbh]
theorem qdk{l:List (List Nat)}(h:65536<l.length):qbh l=false:=by rw[qqv,Ne,zjf];omega
theorem qdl{l:List (List Nat)}{k:Nat}(hk:k<l.length)(h:65536<(l.getD k []).length):qbh l=false:=by rw[qqv,Ne,zjf];rintro⟨_,h2,_⟩;have:=h2 (l.getD k []) (by rw[qoa,qmm hk];exact qm8 hk);omega
theorem qdm{l:List (List Nat)}{k:Nat}(h:16777216<zuf (l.take k)):qbh l=false:=by rw[qqv,Ne,zjf];rintro⟨_,_,h3⟩;have:=zve l k;omega
theorem qdn{l:List (List Nat)}(h1:l.length<=65536)(h2:∀s∈l,s.length<=65536)(h3:zuf l<=16777216):qbh l=true:=(zjf l).2 ⟨h1,h2,h3⟩
theorem zvf(l:List (List Nat))(s:List Nat):zuf (l++[s])=zuf l+s.length:=by simp[zuf]
def fpiece(a s:List Nat):List Nat:=vp (shr a s)++vp (s.length-shr a s)++s.drop (shr a s)
def zyr:List Nat->List (List Nat)->List Nat
 |_,[]=>[]
 |a,s::l=>fpiece a s++zyr s l
def zqw(a:List Nat)(l:List (List Nat)):List Nat:=l.getLast?.getD a
theorem z3j(a s:List Nat)(l:List (List Nat)):zqw a (l++[s])=s:=by simp[zqw]
theorem z73(a s:List Nat)(l:List (List Nat)):zyr a (l++[s])=zyr a l++fpiece (zqw a l) s:=by
 induction l generalizing a with
 |nil=>simp[zyr,zqw]
 |cons x l ih=>
  rw[qnt,zyr,ih x,zyr,qm5];congr 3
  cases l with
  |nil=>simp[zqw]
  |cons y l=>simp[zqw,List.getLast?_eq_some_getLast]
theorem z0y(a:List Nat)(l:List (List Nat))(h:∀s∈l,s.length<=65536):(zyr a l).length<=20*l.length+zuf l:=by
 induction l generalizing a with
 |nil=>simp[zyr]
 |cons s l ih=>
  have h1:=ih s (fun x hx=>h x (by simp[hx]));have h2:=h s (by simp);have k2:=zit a s;have v1:=zap (n:=shr a s) (by omega);have v2:=zap (n:=s.length-shr a s) (by omega);rw[zyr,fpiece,z72,qnu];simp only[qni,qmp];omega
theorem zvg{Q:List Nat->Prop}{a:List Nat}(l:List (List Nat))(ha:Q a)(h:∀s∈l,Q s):Q (zqw a l):=by
 unfold zqw;cases hl:l.getLast? with
 |none=>exact ha
 |some x=>exact h x (List.mem_of_getLast? hl)
def qfs(l:List (List Nat)):Option (List Nat):=if qbh l then some (zyr [] l) else none
theorem z0z:∀(k n:Nat),n<=k-> ∀x∈vp n,x<256:=by
 intro k;induction k using Nat.strongRecOn with
 |ind k ih=>
  intro n hk x hx;by_cases hn:n<128
  ·rw[zf2 hn] at hx;simp at hx;omega
  ·rw[zf3 hn,qof] at hx
   rcases hx with hx|hx
   ·omega
   ·exact ih (n/128) (by omega) (n/128) (qmt _) x hx
theorem qhv(a:List Nat)(l:List (List Nat))(h:∀s∈l,∀x∈s,x<256):∀x∈zyr a l,x<256:=by
 induction l generalizing a with
 |nil=>simp[zyr]
 |cons s l ih=>
  intro x hx;rw[zyr,fpiece] at hx;simp only[qny] at hx;rcases hx with((hx|hx)|hx)|hx
  ·exact z0z _ _ (qmt _) x hx
  ·exact z0z _ _ (qmt _) x hx
  ·exact h s (by simp) x (qpa hx)
  ·exact ih s (fun y hy=>h y (by simp[hy])) x hx
theorem qhw{l:List (List Nat)}{b:List Nat}(h:∀s∈l,∀x∈s,x<256)(hb:qfs l=some b):∀x∈b,x<256:=by
 unfold qfs at hb;split at hb
 ·injection hb with hb
  rw[<-hb];exact qhv [] l h
 ·cases hb
open Go Go.RowKit
def zid(x y:Int):Int:=if x<y then-1 else if y<x then 1 else 0
end Go.Hm
namespace Go.Proofs.Y
open Go.RowKit Go.Hm
set_option maxRecDepth 100000 in
theorem z74{w:World}{x:Int}:Calls Tryz.prog 184 #[.int .i64 x] w (zdm (.bool false) w):=by
 go_enter Tryz.func184,Tryz.ntmps184
 go_wp2
 go_ret
 exact⟨by simp,rfl⟩
set_option maxRecDepth 100000 in
theorem cmpI_any{w:World}{x y:Int}:Calls Tryz.prog 164 #[.int .i64 x,.int .i64 y] w (zdm (.int .i64 (zid x y)) w):=by
 have P:=fun z:Int=>Hz (z74 (w:=w) (x:=z))
 have K1:=Hz (fun(h:x<y)=>show zid x y= -1 by rw[zid,if_pos h]);have K2:=Hz (fun(h:y<x)=>show zid x y=1 by rw[zid,if_neg (by omega),if_pos h]);have K3:=Hz (fun(h: ¬x<y) (h2: ¬y<x)=>show zid x y=0 by rw[zid,if_neg h,if_neg h2]);generalize zid x y=O at*;by_cases h1:x<y
 ·have O1:=Hz (K1.out h1)
  clear K1 K2 K3;go_enter Tryz.func164,Tryz.ntmps164
  go_wp2_with (first|(go_at_call 184;refine((P _).out).mono ?_;rintro e w' ⟨rfl,rfl⟩))
  go_ret
  exact⟨by rw[O1.out];rfl,rfl⟩
 ·by_cases h2:y<x
  ·have O1:=Hz (K2.out h2)
   clear K1 K2 K3;go_enter Tryz.func164,Tryz.ntmps164
   go_wp2_with (first|(go_at_call 184;refine((P _).out).mono ?_;rintro e w' ⟨rfl,rfl⟩))
   go_ret
   exact⟨by rw[O1.out];rfl,rfl⟩
  ·have O1:=Hz (K3.out h1 h2)
   clear K1 K2 K3;go_enter Tryz.func164,Tryz.ntmps164
   go_wp2_with (first|(go_at_call 184;refine((P _).out).mono ?_;rintro e w' ⟨rfl,rfl⟩))
   go_ret
   exact⟨by rw[O1.out];rfl,rfl⟩
end Go.Proofs.Y
namespace Go.Hm
open Ieee
theorem dbl:Ieee.double.fractionBits=52/\Ieee.double.exponentBits=11:=⟨rfl,rfl⟩
theorem zld:Ieee.double.leastPlace= -1074:=by decide
theorem zrn:Ieee.double.binade=4503599627370496:=by decide
theorem z75:Ieee.double.infRung=9218868437227405312:=by decide
theorem z00:Ieee.double.signWeight=9223372036854775808:=by decide
theorem zo8(way:Toward)(neg:Bool)(n d:Nat):way.cut neg (n*2^d) d=n:=by
 by_cases h0:n=0
 ·subst h0
  unfold Toward.cut;simp only[qpj,Nat.zero_div,Nat.zero_mod];cases way<;> simp
 ·have hl:d<=(n*2^d).log2:=by
   rw[Nat.le_log2 (by have:=qog d;exact qq5 h0 (by omega))];exact Nat.le_mul_of_pos_left _ (by omega)
  have hm:min d ((n*2^d).log2+2)=d:=qmr (by omega);unfold Toward.cut;simp only[hm,Nat.one_shiftLeft,Nat.mul_div_cancel _ (qog d),Nat.mul_mod_left];have hp:=qog d;cases way<;> simp<;> omega
theorem zvh{n:Nat}(h:n≠0)(k:Nat):(n*2^k).log2=n.log2+k:=by
 have hp:=qog k;have h1:2^(n.log2+k)<=n*2^k:=by rw[qol];exact qms _ (qno h)
 have h2:n*2^k<2^(n.log2+k+1):=by rw[show n.log2+k+1=(n.log2+1)+k by omega,qol];exact qok (qnp) hp
 have hne:n*2^k≠0:=qq5 h (by omega);have a1:=(Nat.le_log2 hne).2 h1;have a2:=(Nat.log2_lt hne).2 h2;omega
theorem zvi(f:Format)(s:Bool)(R:Nat)(hR:R<f.signWeight):f.read (f.word s R)=
 if R<f.binade then .number s R f.leastPlace
 else if R<f.infRung then .number s (f.binade+R%f.binade) (f.leastPlace+(R/f.binade-1:Nat))
 else if R=f.infRung then .infinity s else .nan s (R-f.infRung):=by
 have h1:(f.word s R/f.signWeight%2==1)=s:=by
  unfold Format.word;cases s with
  |false=>
   rw[if_neg (by simp),qpx hR];rfl
  |true=>
   rw[if_pos rfl,Nat.add_div_left _ (by omega),qpx hR];rfl
 have h2:f.word s R%f.signWeight=R:=by
  unfold Format.word;cases s with
  |false=>rw[if_neg (by simp),qn1 hR]
  |true=>rw[if_pos rfl,Nat.add_mod_left,qn1 hR]
 unfold Format.read;simp only[h1,h2]
theorem zvj(s:Bool)(n k:Nat)(hn:n<9007199254740992):∃k':Nat,Ieee.double.read (Ieee.double.nearest s (n*2^k) (-(k:Int)))= .number s (n*2^k') (-(k':Int)):=by
 by_cases h0:n=0
 ·subst h0
  obtain⟨j,hj⟩:∃j:Nat,Ieee.double.leastPlace= -(j:Int):=⟨1074,by rw[zld];rfl⟩;refine⟨j,?_⟩;rw[qpj,qpj,Format.nearest,if_pos rfl,zvi _ _ _ (by rw[z00];omega),if_pos (by rw[zrn];omega),hj]
 ·have hp:=qog k
  have hne:n*2^k≠0:=qq5 h0 (by omega);have hlog:n.log2<=52:=by have:=(Nat.log2_lt h0).2 (show n<2^53 by omega);omega
  have e1:(-(k:Int))+((n*2^k).log2:Nat)-(52:Nat)=(n.log2:Int)-52:=by rw[zvh h0];omega
  obtain⟨d,hd⟩:∃d,d=52-n.log2:=⟨_,rfl⟩;have hlast:max ((-(k:Int))+((n*2^k).log2:Nat)-(Ieee.double.fractionBits:Nat)) Ieee.double.leastPlace= -(d:Int):=by rw[dbl.1,e1,zld];omega
  have hkept:Toward.even.cut s ((n*2^k) <<< ((-(k:Int))- -(d:Int)).toNat) (-(d:Int)- -(k:Int)).toNat=n*2^d:=by
   by_cases hkd:k<=d
   ·rw[show((-(k:Int))- -(d:Int)).toNat=d-k by omega,show(-(d:Int)- -(k:Int)).toNat=0 by omega,qq6,qoq,<-qol,show k+(d-k)=d by omega]
    have:=zo8 .even s (n*2^d) 0;rwa[qqo,qm0] at this
   ·rw[show((-(k:Int))- -(d:Int)).toNat=0 by omega,show(-(d:Int)- -(k:Int)).toNat=k-d by omega,qq6,qqo,qm0]
    have:=zo8 .even s (n*2^d) (k-d);rwa[qoq,<-qol,show d+(k-d)=k by omega] at this
  have hlo:4503599627370496<=n*2^d:=by have:=qms (2^d) (qno h0);rw[<-qol,show n.log2+d=52 by omega] at this;exact qml (by decide) this
  have hhi:n*2^d<9007199254740992:=by have:=qok (qnp (n:=n)) (qog d);rw[<-qol,show n.log2+1+d=53 by omega] at this;exact qmo this (by decide)
  refine⟨d,?_⟩;have hd2:d<=52:=by omega
  have hw:Ieee.double.nearest s (n*2^k) (-(k:Int))=Ieee.double.word s (min ((-(d:Int)-Ieee.double.leastPlace).toNat*Ieee.double.binade+n*2^d) Ieee.double.infRung):=by unfold Format.nearest;rw[if_neg hne];simp only[hlast,hkept]
  clear hlast hkept hlog e1 hd hne hp h0 hn;generalize Ieee.double.nearest s (n*2^k) (-(k:Int))=V at*;generalize n*2^d=K at*;rw[hw,zvi _ _ _ (by rw[z00,z75];omega)];have e2:(-(d:Int)-Ieee.double.leastPlace).toNat=1074-d:=by rw[zld];omega
  rw[e2,zrn,z75,zld];generalize hm:1074-d=m;have hm2:m<=1074/\1022<=m:=by omega
  have hr:min (m*4503599627370496+K) 9218868437227405312=m*4503599627370496+K:=qmr (by omega);rw[hr];have r1: ¬m*4503599627370496+K<4503599627370496:=by omega
  have r2:m*4503599627370496+K<9218868437227405312:=by omega
  have r3:4503599627370496+(m*4503599627370496+K)%4503599627370496=K:=by omega
  have r4:(m*4503599627370496+K)/4503599627370496-1=m:=by omega
  have r5:(-1074:Int)+(m:Int)= -(d:Int):=by omega
  rw[if_neg r1,if_pos r2,r3,r4,r5]
def RepD(x:Int)(d:Datum):Prop:=∃(s:Bool) (k:Nat),d= .number s (x.natAbs*2^k) (-(k:Int))/\(x≠0->s=decide (x<0))
def Rep(x:Int)(b:Nat):Prop:=RepD x (Ieee.double.read b)
theorem zl5{s:Bool}{x:Int}(h:x≠0->s=decide (x<0))(k u:Nat):Ieee.signed s (x.natAbs*2^k) u=x*((2^(k+u):Nat):Int):=by
 have e:(x.natAbs*2^k) <<< u=x.natAbs*2^(k+u):=by rw[qq6,qoq,<-qol]
 unfold Ieee.signed;rw[e];generalize 2^(k+u)=p;by_cases h0:x=0
 ·subst h0
  cases s<;> simp
 ·by_cases hx:x<0
  ·rw[h h0,decide_eq_true hx,if_pos rfl,qnf,show((x.natAbs:Nat):Int)= -x by omega,Int.neg_mul,Int.neg_neg]
  ·rw[h h0,decide_eq_false hx,if_neg (by simp),qnf,show((x.natAbs:Nat):Int)=x by omega]
theorem RepD.write{x:Int}{d:Datum}(h:RepD x d)(hx:x.natAbs<9007199254740992):Rep x (Ieee.double.write d):=by obtain⟨s,k,rfl,hs⟩:=h;obtain⟨j,hj⟩:=zvj s x.natAbs k hx;exact⟨s,j,hj,hs⟩
theorem RepD.opposite{x:Int}{d:Datum}(h:RepD x d):RepD (-x) d.opposite:=by
 obtain⟨s,k,rfl,hs⟩:=h;refine⟨!s,k,?_,fun h0=>?_⟩
 ·rw[Int.natAbs_neg]
  rfl
 ·rw[hs (by omega)]
  by_cases hx:x<0
  ·rw[decide_eq_true hx,decide_eq_false (by omega)]
   rfl
  ·rw[decide_eq_false hx,decide_eq_true (by omega)]
   rfl
theorem RepD.product{x y:Int}{d e:Datum}(h:RepD x d)(h2:RepD y e):∃r,d.product e=some r/\RepD (x*y) r:=by
 obtain⟨s,k,rfl,hs⟩:=h;obtain⟨t,j,rfl,ht⟩:=h2;refine⟨_,rfl,s ^^ t,k+j,?_,fun h0=>?_⟩
 ·rw[qq7,qol]
  congr 1
  ·generalize 2^k=p
   generalize 2^j=q;simp only[qoq,qnw,qne]
  ·omega
 ·have hx:x≠0:=by rintro rfl;simp at h0
  have hy:y≠0:=by rintro rfl;simp at h0
  rw[hs hx,ht hy];rcases Int.lt_or_gt_of_ne hx with hx|hx<;> rcases Int.lt_or_gt_of_ne hy with hy|hy
  ·have:=Int.mul_pos_of_neg_of_neg hx hy
   simp[hx,hy];omega
  ·have:=qq8 hx hy
   simp[hx,this];omega
  ·have:=Int.mul_neg_of_pos_of_neg hx hy
   simp[hy,this];omega
  ·have:=Int.mul_pos hx hy
   have a1: ¬x<0:=by omega
   have a2: ¬y<0:=by omega
   have a3: ¬x*y<0:=by omega
   simp[a1,a2,a3]
theorem RepD.sum{x y:Int}{d e:Datum}(h:RepD x d)(h2:RepD y e):∃r,d.sum e=some r/\RepD (x+y) r:=by
 obtain⟨s,k,rfl,hs⟩:=h;obtain⟨t,j,rfl,ht⟩:=h2;obtain⟨m,hm⟩:∃m,m=max k j:=⟨_,rfl⟩;have hb:min (-(k:Int)) (-(j:Int))= -(m:Int):=by omega
 have hk:k+(-(k:Int)- -(m:Int)).toNat=m:=by omega
 have hj:j+(-(j:Int)- -(m:Int)).toNat=m:=by omega
 have ht:Ieee.signed s (x.natAbs*2^k) (-(k:Int)- -(m:Int)).toNat+Ieee.signed t (y.natAbs*2^j) (-(j:Int)- -(m:Int)).toNat=(x+y)*((2^m:Nat):Int):=by rw[zl5 hs,zl5 ht,hk,hj,Int.add_mul]
 have hp:0<2^m:=qog m;refine⟨_,rfl,?_⟩;simp only[hb,ht];generalize x+y=z;refine⟨if z*((2^m:Nat):Int)=0 then s&&t else decide (z*((2^m:Nat):Int)<0),m,?_,fun h0=>?_⟩
 ·rw[qq7,Int.natAbs_natCast]
 ·have hz: ¬z*((2^m:Nat):Int)=0:=by
   rw[Int.mul_eq_zero];rintro(hh|hh)
   ·exact h0 hh
   ·omega
  rw[if_neg hz];have hp2:(0:Int)<((2^m:Nat):Int):=by omega
  generalize((2^m:Nat):Int)=p at*;congr 1
  rw[eq_iff_iff];constructor
  ·intro hh
   exact qqx fun hn=>by have:=qqm (show 0<=z by omega) (show 0<=p by omega);omega
  ·intro hh
   exact qq8 hh hp2
theorem RepD.toInt{x:Int}{d:Datum}(h:RepD x d):d.toInt .zero=some x:=by
 obtain⟨s,k,rfl,hs⟩:=h;have e1:(-(k:Int)).toNat=0:=by omega
 have e2:(-(-(k:Int))).toNat=k:=by omega
 have e3:=zl5 hs 0 0;rw[qqo,qm0] at e3;simp only[Datum.toInt,Datum.integral,e1,e2,Nat.shiftLeft_zero,zo8];rw[e3];simp
theorem zvk(n:Int)(h:n.natAbs<9007199254740992):Rep n (floatOfInt .f64 n):=by have:RepD n (.number (n<0) n.natAbs 0):=⟨decide (n<0),0,by simp,fun _=>rfl⟩;exact this.write h
theorem ztg{x y:Int}{a b:Nat}(h:Rep x a)(h2:Rep y b)(hx:(x*y).natAbs<9007199254740992):∃r,floatBits .mul .f64 a b=some r/\Rep (x*y) r:=by obtain⟨r,h3,h4⟩:=RepD.product h h2;exact⟨Ieee.double.write r,by show((Ieee.double.read a).product (Ieee.double.read b)).map Ieee.double.write=_;rw[h3];rfl,h4.write hx⟩
theorem qhx{x y:Int}{a b:Nat}(h:Rep x a)(h2:Rep y b)(hx:(x+y).natAbs<9007199254740992):∃r,floatBits .add .f64 a b=some r/\Rep (x+y) r:=by obtain⟨r,h3,h4⟩:=RepD.sum h h2;exact⟨Ieee.double.write r,by show((Ieee.double.read a).sum (Ieee.double.read b)).map Ieee.double.write=_;rw[h3];rfl,h4.write hx⟩
theorem zyt{x y:Int}{a b:Nat}(h:Rep x a)(h2:Rep y b)(hx:(x-y).natAbs<9007199254740992):∃r,floatBits .sub .f64 a b=some r/\Rep (x-y) r:=by obtain⟨r,h3,h4⟩:=RepD.sum h (RepD.opposite h2);exact⟨Ieee.double.write r,by show((Ieee.double.read a).sum (Ieee.double.read b).opposite).map Ieee.double.write=_;rw[h3];rfl,h4.write hx⟩
theorem zyu{x:Int}{a:Nat}(h:Rep x a)(hx: -9223372036854775808<=x/\x<=9223372036854775807):floatToIntVal .f64 a .i64=some x:=by have h3:(FloatKind.f64.decode a).toInt .zero=some x:=RepD.toInt h;unfold floatToIntVal;rw[h3];exact if_pos hx
def z3k(x y:Int)(a b:Nat):Prop:=Rep x a/\Rep y b
theorem qdp{x y u v:Int}{a b c d:Nat}(h:z3k x y a b)(h2:z3k u v c d)(h3:(x*u).natAbs<9007199254740992)(h4:(y*v).natAbs<9007199254740992)(h5:(x*u-y*v).natAbs<9007199254740992)
 (h6:(x*v).natAbs<9007199254740992)(h7:(y*u).natAbs<9007199254740992)(h8:(x*v+y*u).natAbs<9007199254740992):∃re im,cMulBits a b c d=some (re,im)/\z3k (x*u-y*v) (x*v+y*u) re im:=by
 obtain⟨r1,e1,k1⟩:=ztg h.1 h2.1 h3;obtain⟨r2,e2,k2⟩:=ztg h.2 h2.2 h4;obtain⟨r3,e3,k3⟩:=zyt k1 k2 h5;obtain⟨r4,e4,k4⟩:=ztg h.1 h2.2 h6;obtain⟨r5,e5,k5⟩:=ztg h.2 h2.1 h7;obtain⟨r6,e6,k6⟩:=qhx k4 k5 h8;exact⟨r3,r6,by simp[cMulBits,e1,e2,e3,e4,e5,e6],k3,k6⟩
theorem qdq{x y u v:Int}{a b c d:Nat}(h:z3k x y a b)(h2:z3k u v c d)(h3:(x-u).natAbs<9007199254740992)(h4:(y-v).natAbs<9007199254740992):∃re im,cSumBits .sub .f64 a b c d=some (re,im)/\z3k (x-u) (y-v) re im:=by obtain⟨r1,e1,k1⟩:=zyt h.1 h2.1 h3;obtain⟨r2,e2,k2⟩:=zyt h.2 h2.2 h4;exact⟨r1,r2,by simp[cSumBits,e1,e2],k1,k2⟩
theorem qdr(f:Format)(b:Nat):f.read (b ^^^ 2^(f.exponentBits+f.fractionBits))=(f.read b).opposite:=by
 have hS:f.signWeight=2^(f.exponentBits+f.fractionBits):=rfl;generalize hn:f.exponentBits+f.fractionBits=n at*;have hp:=qog n;have h1:((b ^^^ 2^n)/2^n%2==1)= !(b/2^n%2==1):=by
  rw[Nat.xor_div_two_pow,Nat.div_self hp];generalize b/2^n=c;have e:(c ^^^ 1)%2=(c%2) ^^^ 1:=by have:= @Nat.xor_mod_two_pow c 1 1;simpa using this
  rw[e];rcases Nat.mod_two_eq_zero_or_one c with h|h
  ·rw[h]
   rfl
  ·rw[h]
   rfl
 have h2:(b ^^^ 2^n)%2^n=b%2^n:=by rw[Nat.xor_mod_two_pow,Nat.mod_self,Nat.xor_zero]
 unfold Format.read;rw[hS];simp only[h1,h2];generalize b%2^n=R;by_cases a1:R<f.binade
 ·rw[if_pos a1,if_pos a1]
  rfl
 ·rw[if_neg a1,if_neg a1]
  by_cases a2:R<f.infRung
  ·rw[if_pos a2,if_pos a2]
   rfl
  ·rw[if_neg a2,if_neg a2]
   by_cases a3:R=f.infRung
   ·rw[if_pos a3,if_pos a3]
    rfl
   ·rw[if_neg a3,if_neg a3]
    rfl
theorem qhy{x:Int}{b:Nat}(h:Rep x b):Rep (-x) (Op.negFloat .f64 b):=by have:=RepD.opposite h;rw[<-qdr] at this;exact this
theorem z3l(k:FloatKind)(b:Nat):Op.unary .neg (.float k b)=pure (.float k (Op.negFloat k b)):=rfl
theorem z76{x y:Int}{a b:Nat}(h:z3k x y a b)(hx: -2097152<=x/\x<=2097152)(hy: -2097152<=y/\y<=2097152):∃re im,cMulBits a b a (Op.negFloat .f64 b)=some (re,im)/\floatToIntVal .f64 re .i64=some (x*x+y*y):=by
 have q:∀u v:Int,-2097152<=u/\u<=2097152-> -2097152<=v/\v<=2097152-> -4398046511104<=u*v/\u*v<=4398046511104:=by
  intro u v hu hv;have h1:(u*v).natAbs<=2097152*2097152:=by rw[qq7];exact qqn (by omega) (by omega)
  omega
 have h1:=q x x hx hx;have h2:=q y (-y) hy (by omega);have h3:=q x (-y) hx (by omega);have h4:=q y x hy hx;have e:y* -y= -(y*y):=by rw[Int.mul_neg]
 obtain⟨re,im,k1,k2⟩:=qdp h ⟨h.1,qhy h.2⟩ (by omega) (by omega) (by omega) (by omega) (by omega) (by omega);refine⟨re,im,k1,?_⟩;have:=zyu k2.1 (by omega);rw[this,e,Int.sub_neg]
open Go Go.RowKit
section
variable{P:Program}{ops:Array Oper}{rest:List Oper}{o:Oper}{a:Act}{Q:Exit->Act->World->Prop}
theorem qec(z:Value)(hz1:z.oneCell'=true)(n:Nat):madeCells z.cells n=(List.replicate n z).toArray:=by
 have hzc:z.cells= #[z]:=by
  revert hz1;unfold Value.oneCell' Value.cells
  cases z<;> simp
 rw[hzc];apply Array.toList_inj.1;rw[toList_madeCells_one]
theorem z9e{w:World}{t e:TypeId}{z:Value}{bytes:Nat}(E:ElT P t e z 1 bytes){kl kc:IntKind}(n:Nat)(hz1:z.oneCell'=true)(hn:n*bytes<=140737488355328)(hm:n<=maxLen):
 (Instr.makeSlice t (.int kl (n:Int)) (.int kc (n:Int))).run P w= .ok (.slice (some ⟨w.heap.size,0,none⟩) n n) (w.alloc (.cells (List.replicate n z).toArray e)):=by
 obtain⟨i,hi,hz0,hs1,hb1⟩:=info_parts E.hi;have hmC:(n:Int)<=9223372036854775807:=by have h:=hm;simp only[maxLen] at h;omega
 have hbC:(i.bytes:Int)*(n:Int)<=281474976710656:=by
  have h:((i.bytes*n:Nat):Int)<=281474976710656:=by rw[hb1,qne];omega
  rwa[qnf] at h
 have hrun:=run_make (P:=P) w t e i z E.ht hi hz0 kl kc (n:Int) (n:Int) (by omega) (by omega) hbC hmC;rw[qng,hs1,qm0,qec z hz1] at hrun;exact hrun
theorem zmf{w:World}{t e:TypeId}{z:Value}{bytes:Nat}(E:ElT P t e z 1 bytes)(hgd:o.guard=none)(lo co:Operand)(ho:o.op=Op.makeSlice t lo co)
 {kl kc:IntKind}{L C:Int}(n:Nat)(hl:a.eval lo= .int kl L)(hc:a.eval co= .int kc C)(hL:L=(n:Int))(hC:C=(n:Int))
 (hz1:z.oneCell'=true)(hn:n*bytes<=140737488355328)(hm:n<=maxLen)
 (h:∀w',Blk w' w.heap.size e (List.replicate n z).toArray->New w w'->w'.heap.size=w.heap.size+1->wpList P ops Q rest (a.put o.dst (.slice (some ⟨w.heap.size,0,none⟩) n n)) w'):
 wpList P ops Q (o::rest) a w:=by
 subst hL hC;have hrun:=z9e (w:=w) E (kl:=kl) (kc:=kc) n hz1 hn hm;refine wpList_plain hgd fun K hK=>?_
 unfold Oper.wp;simp[execOp,ho,hl,hc,hrun,Result.andThen];exact hK _ _ (h _ (by simpa using Blk.new w e (List.replicate n z).toArray) ((Below.refl _ _).alloc (qmt _) _) (by simp))
theorem z9f{w:World}{K:Act->World->Prop}{t e:TypeId}{z:Value}{bytes:Nat}(E:ElT P t e z 1 bytes)(lo co:Operand)(ho:o.op=Op.makeSlice t lo co)
 {kl kc:IntKind}{L C:Int}(n:Nat)(hl:a.eval lo= .int kl L)(hc:a.eval co= .int kc C)(hL:L=(n:Int))(hC:C=(n:Int))
 (hz1:z.oneCell'=true)(hn:n*bytes<=140737488355328)(hm:n<=maxLen)
 (h:∀w',Blk w' w.heap.size e (List.replicate n z).toArray->New w w'->w'.heap.size=w.heap.size+1->K (a.put o.dst (.slice (some ⟨w.heap.size,0,none⟩) n n)) w'):
 o.wp P a w K Q:=by
 subst hL hC;have hrun:=z9e (w:=w) E (kl:=kl) (kc:=kc) n hz1 hn hm;unfold Oper.wp;simp[execOp,ho,hl,hc,hrun,Result.andThen];exact h _ (by simpa using Blk.new w e (List.replicate n z).toArray) ((Below.refl _ _).alloc (qmt _) _) (by simp)
theorem z38{w:World}{ty t:TypeId}{g i:Nat}{u:Value}{cs:Array Value}(hB:Blk w g t cs)(hlt:i<cs.size)(hi:(P.info? ty).map (·.size)=some 1)(h1:u.oneCell'=true):
 (storeVar ty ⟨g,i,none⟩ u).run P w= .ok () (w.setCell ⟨g,i,none⟩ u):=by
 have hc:u.cells= #[u]:=by cases u<;> first|rfl|cases h1
 have:=run_storeCells_cells (P:=P) g i [u] 0 w (fun j hj=>by
  obtain rfl:j=0:=by simpa using hj
  rw[hB.cell,qp4,qqh hlt];rfl) (fun j hj=>hB.frozen _) (fun v hv=>by simp at hv;subst hv;exact h1)
 cases hq:P.info? ty with
 |none=>simp[hq] at hi
 |some x=>
  have hs:x.size=1:=by simpa[hq] using hi
  simp only[qp4] at this;simp[storeVar,sizeOf,typeInfo,hq,hc,hs,this];rfl
theorem zls{w:World}{K:Act->World->Prop}(ty:TypeId)(x y:Operand)(ho:o.op= .store ty x y)
 (g i:Nat)(u:Value)(hx:a.eval x= .pointer (some ⟨g,i,none⟩))(hy:a.eval y=u){t:TypeId}{cs:Array Value}(hB:Blk w g t cs)(hlt:i<cs.size)(hi:(P.info? ty).map (·.size)=some 1)(h1:u.oneCell'=true)
 (h:∀W,Blk W g t (cs.setIfInBounds i u)->w.grownBy W (some g)->W.heap.size=w.heap.size->K (a.put o.dst undef) W):o.wp P a w K Q:=by
 unfold Oper.wp execOp;simp only[ho,hx,hy,Instr.storeAt,Instr.sureAddr,Sem.run_bind,Sem.run_pure,Result.andThen_ok,z38 hB hlt hi h1];refine h _ (hB.set_ i u) ⟨rfl,rfl,rfl,by simp[World.setCell],fun k _ hne=>Below.heap_setCell _ _ _ _ (fun e=>hne (by rw[e]))⟩ (by simp[World.setCell])
theorem zes{w:World}(hgd:o.guard=none)(ty:TypeId)(x y:Operand)(ho:o.op= .store ty x y)
 (g i:Nat)(u:Value)(hx:a.eval x= .pointer (some ⟨g,i,none⟩))(hy:a.eval y=u){t:TypeId}{cs:Array Value}(hB:Blk w g t cs)(hlt:i<cs.size)(hi:(P.info? ty).map (·.size)=some 1)(h1:u.oneCell'=true)
 (h:∀W,Blk W g t (cs.setIfInBounds i u)->w.grownBy W (some g)->W.heap.size=w.heap.size->wpList P ops Q rest (a.put o.dst undef) W):wpList P ops Q (o::rest) a w:=
 wpList_plain hgd fun _ hK=>zls ty x y ho g i u hx hy hB hlt hi h1 (fun W b g s=>hK _ _ (h W b g s))
end
end Go.Hm
