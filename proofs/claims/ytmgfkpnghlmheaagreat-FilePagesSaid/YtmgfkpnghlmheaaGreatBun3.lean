/- Merged. -/
import Derived.Shelf.Strconv.Itoa0
import Derived.Test.YtmgfkpnghlmheaaGreatBun2
import Derived.Test.YtmgfkpnghlmheaaGreatRows
set_option maxHeartbeats 200000
namespace Go.Proofs.Y
open Go.Shelf
def zwp:Go.Shelf.Ren:=⟨fun|129=>151|n=>n,fun|53=>87|3=>3|4=>4|46=>66|5=>5|9=>9|n=>n,fun|n=>n⟩
theorem qeh:Go.Proofs.Lays.n129 Tryz.prog zwp:={
 mixed:=by kernel_rfl
 f129:=Tryz.func151.trans (congrArg some (by kernel_rfl))
 t3:=Tryz.underlying3
 a3:=Tryz.isAgg3
 z3:=Tryz.sizeOf3
 v3:=Tryz.zeroValue3
 t4:=Tryz.underlying4
 a4:=Tryz.isAgg4
 z4:=Tryz.sizeOf4
 v4:=Tryz.zeroValue4
 t5:=Tryz.underlying5
 a5:=Tryz.isAgg5
 z5:=Tryz.sizeOf5
 v5:=Tryz.zeroValue5
 t9:=Tryz.underlying9
 a9:=Tryz.isAgg9
 z9:=Tryz.sizeOf9
 v9:=Tryz.zeroValue9
 t46:=Tryz.underlying66
 a46:=Tryz.isAgg66
 z46:=Tryz.sizeOf66
 v46:=Tryz.zeroValue66
 t53:=Tryz.underlying87
 a53:=Tryz.isAgg87
 z53:=Tryz.sizeOf87
 v53:=Tryz.zeroValue87}
theorem bits_Len64(x:Int)(w:World)(h0:0<=x)(h1:x<=18446744073709551615):
 Calls Tryz.prog 151 #[.int .u64 x] w fun e w'=>e= .returned (.int .i64 (Lib.bitLen x.toNat))/\w'=w:=Any.bits_Len64 qeh x w h0 h1
open Go.Hm
theorem Tryz.own:ownKnob Tryz.prog.godebug=none:=by kernel_rfl
theorem Tryz.laidOut:laidOutB Tryz.prog=true:=by kernel_rfl
theorem elB:ElT Tryz.prog 31 5 (.int .u8 0) 1 1:=⟨by kernel_rfl,by kernel_rfl,rfl,by omega⟩
theorem elW:ElT Tryz.prog 146 87 (.int .u64 0) 1 8:=⟨by kernel_rfl,by kernel_rfl,rfl,by omega⟩
theorem elI:ElT Tryz.prog 26 3 (.int .i64 0) 1 8:=⟨by kernel_rfl,by kernel_rfl,rfl,by omega⟩
theorem zd9{w:World}{B n c:Nat}{A:Option Addr}{l:List Nat}(h:Reads w B 1 A n (za2 .u8 l)):(convert 31 9 (.slice A n c)).run Tryz.prog w= .ok (.string (zac l)) w:=
 z38 (e:=5) (by kernel_rfl) (by kernel_rfl) (by kernel_rfl) h
end Go.Proofs.Y
namespace Go.Hm
def pv:Nat->List Nat->Option (Nat × List Nat)
 |0,_=>none
 |_+1,[]=>none
 |f+1,b::r=>if b<128 then some (b,r) else
   match pv f r with
   |some (0,_)=>none
   |some (N+1,r')=>some (b-128+128*(N+1),r')
   |none=>none
theorem qg0:∀(f N:Nat) (r:List Nat),(vp N).length<=f->pv f (vp N++r)=some (N,r):=by
 intro f;induction f with
 |zero=>intro N r h;have:=zlw N;omega
 |succ f ih=>
  intro N r h;by_cases hN:N<128
  ·rw[ze4 hN];simp[pv,hN]
  ·rw[zfz hN] at h⊢
   simp only[List.cons_append,pv];rw[if_neg (by omega),ih (N/128) r (by simpa using h)];obtain⟨m,hm⟩:∃m,N/128=m+1:=⟨N/128-1,by omega⟩;simp only[hm];congr 2
   omega
theorem qez:∀(f N:Nat) (l r:List Nat),(∀x∈l,x<256)->pv f l=some (N,r)->l=vp N++r/\(vp N).length<=f:=by
 intro f;induction f with
 |zero=>intro N l r _ h;simp[pv] at h
 |succ f ih=>
  intro N l r h8 h;cases l with
  |nil=>simp[pv] at h
  |cons b s=>
   simp only[pv] at h;by_cases hb:b<128
   ·rw[if_pos hb] at h
    simp only[Option.some.injEq,Prod.mk.injEq] at h;obtain⟨rfl,rfl⟩:=h;rw[ze4 hb];simp
   ·rw[if_neg hb] at h
    split at h
    ·simp at h
    ·rename_i M r' hM
     simp only[Option.some.injEq,Prod.mk.injEq] at h;obtain⟨rfl,rfl⟩:=h;obtain⟨h1,h2⟩:=ih _ _ _ (fun x hx=>h8 x (by simp[hx])) hM;have hb2:=h8 b (by simp);rw[zfz (by omega),show(b-128+128*(M+1))/128=M+1 by omega,show(b-128+128*(M+1))%128+128=b by omega,List.cons_append,<-h1];refine⟨rfl,by simp;exact h2⟩
    ·simp at h
def gv(l:List Nat):Option (Nat × List Nat):=
 match pv 10 l with
 |some (N,r)=>if N<18446744073709551616 then some (N,r) else none
 |none=>none
theorem qdr(N:Nat)(r:List Nat)(hN:N<18446744073709551616):gv (vp N++r)=some (N,r):=by unfold gv;rw[qg0 10 N r (zap hN)];simp[hN]
theorem zww{l r:List Nat}{N:Nat}(h8:∀x∈l,x<256)(h:gv l=some (N,r)):l=vp N++r/\N<18446744073709551616:=by
 unfold gv at h;split at h
 ·rename_i M s hM
  split at h
  ·simp only[Option.some.injEq,Prod.mk.injEq] at h
   obtain⟨rfl,rfl⟩:=h;exact⟨(qez _ _ _ _ h8 hM).1,‹_›⟩
  ·cases h
 ·cases h
theorem qe0{l:List Nat}(h:gv l=none):∀N r,l=vp N++r->18446744073709551616<=N:=by
 intro N r hl;rcases Nat.lt_or_ge N 18446744073709551616 with hN|hN
 ·rw[hl,qdr N r hN] at h
  cases h
 ·exact hN
abbrev St:=Option (List Nat)
def zh0:St->Nat × St
 |none=>(0,none)
 |some l=>match gv l with
  |some (N,r)=>(N,some r)
  |none=>(0,none)
def lenS(m:Int)(S:St):Nat × St:=
 match zh0 S with
 |(N,some r)=>if(N:Int)<=m then(N,some r) else(0,none)
 |(_,none)=>(0,none)
def zbf:St->Nat × St
 |some (b::r)=>(b,some r)
 |_=>(0,none)
def zbr(n:Int):St->List Nat × St
 |some l=>if 0<=n/\n<=(l.length:Int) then(l.take n.toNat,some (l.drop n.toNat)) else([],none)
 |none=>([],none)
def zp2(S:St):Bool:=decide (S=some [])
def St.ok(S:St):Prop:=∀l,S=some l-> ∀x∈l,x<256
theorem St.ok_none:St.ok none:=fun _ h=>by cases h
theorem St.ok_some{l:List Nat}(h:∀x∈l,x<256):St.ok (some l):=fun _ e=>by injection e with e;subst e;exact h
theorem zix(N:Nat)(r:List Nat)(hN:N<18446744073709551616):zh0 (some (vp N++r))=(N,some r):=by simp[zh0,qdr N r hN]
theorem zby(N:Nat)(r:List Nat){m:Int}(hN:(N:Int)<=m)(hm:m<=9223372036854775807):lenS m (some (vp N++r))=(N,some r):=by simp only[lenS,zix N r (by omega),if_pos hN]
theorem zgy(m:Int):lenS m none=(0,none):=rfl
theorem z4p:zh0 none=(0,none):=rfl
theorem ziy:zbf none=(0,none):=rfl
theorem zdx(n:Int):zbr n none=([],none):=rfl
theorem zbp(m:Int)(S:St)(hS:S.ok):lenS m S=(0,none)\/ ∃N r,S=some (vp N++r)/\(N:Int)<=m/\N<18446744073709551616/\lenS m S=(N,some r):=by
 unfold lenS zh0;cases S with
 |none=>exact .inl rfl
 |some l=>
  simp only;cases hg:gv l with
  |none=>exact .inl rfl
  |some p=>
   obtain⟨N,r⟩:=p;obtain⟨h1,h2⟩:=zww (hS l rfl) hg;simp only;split
   ·exact .inr ⟨N,r,by rw[h1],‹_›,h2,rfl⟩
   ·exact .inl rfl
theorem zgz(S:St)(hS:S.ok):zh0 S=(0,none)\/ ∃N r,S=some (vp N++r)/\N<18446744073709551616/\zh0 S=(N,some r):=by
 unfold zh0;cases S with
 |none=>exact .inl rfl
 |some l=>
  simp only;cases hg:gv l with
  |none=>exact .inl rfl
  |some p=>
   obtain⟨N,r⟩:=p;obtain⟨h1,h2⟩:=zww (hS l rfl) hg;exact .inr ⟨N,r,by rw[h1],h2,rfl⟩
theorem zcd(n:Int)(S:St):zbr n S=([],none)\/ ∃l,S=some l/\0<=n/\n<=(l.length:Int)/\zbr n S=(l.take n.toNat,some (l.drop n.toNat)):=by
 unfold zbr;cases S with
 |none=>exact .inl rfl
 |some l=>
  simp only;split
  ·rename_i h;exact .inr ⟨l,rfl,h.1,h.2,rfl⟩
  ·exact .inl rfl
theorem zdh(a b:List Nat):zbr (a.length:Int) (some (a++b))=(a,some b):=by simp only[zbr];rw[if_pos ⟨by omega,by rw[List.length_append];omega⟩];simp
theorem zbx{m:Int}(S:St)(hm:0<=m)(hS:S.ok):((lenS m S).1:Int)<=m:=by
 rcases zbp m S hS with h|⟨N,r,_,h1,_,h⟩
 ·rw[h];exact hm
 ·rw[h];exact h1
theorem zba{m:Int}{S:St}(hS:S.ok):(lenS m S).2.ok:=by
 rcases zbp m S hS with h|⟨N,r,h0,_,_,h⟩
 ·rw[h];exact St.ok_none
 ·rw[h];exact St.ok_some fun x hx=>hS _ h0 x (by simp[hx])
theorem zsc{S:St}(hS:S.ok):(zh0 S).2.ok:=by
 rcases zgz S hS with h|⟨N,r,h0,_,h⟩
 ·rw[h];exact St.ok_none
 ·rw[h];exact St.ok_some fun x hx=>hS _ h0 x (by simp[hx])
theorem zjm{S:St}(hS:S.ok):(zh0 S).1<18446744073709551616:=by
 rcases zgz S hS with h|⟨N,r,h0,h1,h⟩
 ·rw[h];decide
 ·rw[h];exact h1
theorem zmx{S:St}(hS:S.ok):(zbf S).2.ok:=by
 unfold zbf;split
 ·exact St.ok_some fun x hx=>hS _ rfl x (by simp[hx])
 ·exact St.ok_none
theorem zhl{S:St}(hS:S.ok):(zbf S).1<256:=by
 unfold zbf;split
 ·exact hS _ rfl _ (by simp)
 ·decide
theorem zct{n:Int}{S:St}(hS:S.ok):(zbr n S).2.ok/\ ∀x∈(zbr n S).1,x<256:=by
 rcases zcd n S with h|⟨l,h0,_,_,h⟩
 ·rw[h];exact⟨St.ok_none,by simp⟩
 ·rw[h];exact⟨St.ok_some fun x hx=>hS _ h0 x (List.mem_of_mem_drop hx),fun x hx=>hS _ h0 x (List.mem_of_mem_take hx)⟩
theorem zem{n:Int}{S:St}(hn:0<=n):((zbr n S).1.length:Int)<=n:=by
 rcases zcd n S with h|⟨l,_,h1,h2,h⟩
 ·rw[h];simpa using hn
 ·rw[h,List.length_take];omega
theorem zc3{m:Int}{S:St}(hS:S.ok):((lenS m S).2.getD []).length<=(S.getD []).length:=by
 rcases zbp m S hS with h|⟨N,r,rfl,_,_,h⟩
 ·rw[h];simp
 ·rw[h];simp
theorem zns{S:St}:((zbf S).2.getD []).length<=(S.getD []).length:=by unfold zbf;split<;> simp
open Go.RowKit
section
variable{P:Program}{ops:Array Oper}{Q:Exit->Act->World->Prop}{md:Region.Mode}{S:World->Prop}{t0:Nat}
def zki(P:Program)(md:Region.Mode)(ops:Array Oper)(Q:Exit->Act->World->Prop)(t0:Nat)(S:World->Prop):Nat->Array Bool->Act->World->Prop
 |0,listed,a,w=>Region.ready md ops listed=[]/\Q .normal a w
 |fuel+1,listed,a,w=>(Region.ready md ops listed=[]->Q .normal a w)/\
  ∀i∈Region.ready md ops listed,wpOp P ops Q i (fun a' w'=>((listed.setIfInBounds i true).getD t0 false=true\/S w')/\zki P md ops Q t0 S fuel (listed.setIfInBounds i true) a' w') a w
theorem zle:∀(fuel:Nat) (listed:Array Bool) (a:Act) (w:World),zki P md ops Q t0 S fuel listed a w->wpAny P md ops Q fuel listed a w
 |0,_,_,_,h=>h
 |fuel+1,_,_,_,h=>⟨h.1,fun i hi=>wpOp_mono (fun a' w' h'=>zle fuel _ a' w' h'.2) (h.2 i hi)⟩
theorem zcu{l:Array Bool}{i t:Nat}(h:l.getD t false=true):(l.setIfInBounds i true).getD t false=true:=by
 rw[Array.getD_eq_getD_getElem?] at h⊢;rw[Array.getElem?_setIfInBounds];split
 ·split
  ·rfl
  ·rename_i e h2;subst e;rw[Array.getElem?_eq_none (by omega)] at h;simp at h
 ·exact h
theorem zjh{l:Array Bool}{i t:Nat}(hne:i≠t):(l.setIfInBounds i true).getD t false=l.getD t false:=by rw[Array.getD_eq_getD_getElem?,Array.getD_eq_getD_getElem?,Array.getElem?_setIfInBounds,if_neg hne]
theorem zhs{S':World->Prop}:∀(fuel:Nat) (listed:Array Bool) (a:Act) (w:World),(listed.getD t0 false=true\/ ∀w,S w->S' w)->zki P md ops Q t0 S fuel listed a w->zki P md ops Q t0 S' fuel listed a w
 |0,_,_,_,_,hh=>hh
 |fuel+1,listed,_,_,h,hh=>⟨hh.1,fun i hi=>wpOp_mono (fun a' w' h'=>⟨by
  rcases h with h|h
  ·exact .inl (zcu h)
  ·exact h'.1.imp id (h w'),zhs fuel _ a' w' (h.imp zcu id) h'.2⟩) (hh.2 i hi)⟩
theorem zud{i:Nat}{oi:Oper}{v:Value}(hi:ops[i]? =some oi)(hit:i≠t0)(hsel:∀(j:Nat) (o:Oper) cs b,ops[j]? =some o->o.op≠ .select cs b)
 (hQ:∀c a w,Q (.panic c) (a.put oi.dst v) w->Q (.panic c) a w)(V:World->Prop)
 (hV:(∀w,V w)\/((∀w,S w->V w)/\ ∃ot,ops[t0]? =some ot/\ ∃e∈ot.after,Region.binds md e=true/\e.on=i)):
 ∀(fuel:Nat) (listed:Array Bool) (a:Act) (w:World),
  (∀j oj,ops[j]? =some oj->j≠i->listed.getD j true=false->(∀e∈oj.after,Region.binds md e=true->e.on≠i)->oi.apart ops oj=true)->
  i∈Region.ready md ops listed->YieldsIf P ops V oi v a->(listed.getD t0 false=true\/S w)->((∀w,V w)\/listed.getD t0 false=false)->
  zki P md ops Q t0 S fuel (listed.setIfInBounds i true) (a.put oi.dst v) w->zki P md ops Q t0 S (fuel+1) listed a w:=by
 have hVw:∀(listed:Array Bool) (w:World),(listed.getD t0 false=true\/S w)->((∀w,V w)\/listed.getD t0 false=false)->V w:=by
  intro listed w hS ht;rcases ht with ht|ht
  ·exact ht w
  ·rcases hS with hS|hS
   ·rw[ht] at hS;cases hS
   ·rcases hV with hV|hV
    ·exact hV w
    ·exact hV.1 w hS
 intro fuel;induction fuel with
 |zero=>
  intro listed a w _ hr hy hS ht H;refine⟨fun h=>(by rw[h] at hr;cases hr),fun j hj=>?_⟩;by_cases hji:j=i
  ·subst hji
   exact hy.wpOp hi (hVw listed w hS ht) ⟨hS.imp zcu id,H⟩
  ·have:=ready_mono hj hji
   rw[H.1] at this;cases this
 |succ fuel ih=>
  intro listed a w hfree hr hy hS ht H;refine⟨fun h=>(by rw[h] at hr;cases hr),fun j hj=>?_⟩;by_cases hji:j=i
  ·subst hji
   exact hy.wpOp hi (hVw listed w hS ht) ⟨hS.imp zcu id,H⟩
  ·have h1:=H.2 j (ready_mono hj hji)
   obtain⟨hjun,oj,hoj,hall⟩:=mem_ready.1 hj;have hnot:∀e∈oj.after,Region.binds md e=true->e.on≠i:=fun e he hb heq=>by
    have h1:=hall e he hb;have h0:=(mem_ready.1 hr).1;rw[heq] at h1;rcases Nat.lt_or_ge i listed.size with h'|h'
    ·simp[h'] at h0 h1;rw[h0] at h1;cases h1
    ·simp[Array.getElem?_eq_none h'] at h1
   have h2:=wpOp_putIf hoj (hfree j oj hoj hji hjun hnot) (fun cs b=>hsel i oi cs b hi) (fun cs b=>hsel j oj cs b hoj) hQ hy h1;have hfree':∀k ok,ops[k]? =some ok->k≠i->(listed.setIfInBounds j true).getD k true=false->
    (∀e∈ok.after,Region.binds md e=true->e.on≠i)->oi.apart ops ok=true:=fun k ok hk hki hun hno=>by
    refine hfree k ok hk hki ?_ hno;by_cases hjk:j=k
    ·subst hjk;exact hjun
    ·rw[getD_set_ne true hjk] at hun;exact hun
   have ht':(∀w,V w)\/(listed.setIfInBounds j true).getD t0 false=false:=by
    rcases hV with hV|⟨_,ot,hot,e,he,hb,heq⟩
    ·exact .inl hV
    ·refine ht.imp id fun ht=>?_
     have hjt:j≠t0:=by rintro rfl;rw[hoj] at hot;injection hot with hot;subst hot;exact hnot e he hb heq
     rw[zjh hjt];exact ht
   refine wpOp_mono (fun a' w' h3=>?_) h2;have hS':(listed.setIfInBounds j true).getD t0 false=true\/S w':=by refine h3.2.1.imp (fun h4=>?_) id;rw[Array.setIfInBounds_comm _ _ (fun e=>hji e.symm),zjh hit] at h4;exact h4
   refine⟨hS',ih (listed.setIfInBounds j true) a' w' hfree' (ready_mono hr (Ne.symm hji)) h3.1 hS' ht' ?_⟩;rw[Array.setIfInBounds_comm _ _ hji];exact h3.2.2
theorem zoa{i:Nat}{oi:Oper}{v:Value}{fuel:Nat}{listed:Array Bool}{a:Act}{w:World}(V:World->Prop)(hi:ops[i]? =some oi)(hit:i≠t0)
 (hs:Region.noSelect ops=true)(hf:Region.free md ops listed i=true)(hr:(Region.ready md ops listed).contains i=true)
 (hQ:∀c a w,Q (.panic c) (a.put oi.dst v) w->Q (.panic c) a w)
 (hV:(∀w,V w)\/((∀w,S w->V w)/\ ∃ot,ops[t0]? =some ot/\ ∃e∈ot.after,Region.binds md e=true/\e.on=i))
 (hy:YieldsIf P ops V oi v a)(hS:listed.getD t0 false=true\/S w)(ht:(∀w,V w)\/listed.getD t0 false=false)
 (h:zki P md ops Q t0 S fuel (listed.setIfInBounds i true) (a.put oi.dst v) w):zki P md ops Q t0 S (fuel+1) listed a w:=
 zud hi hit (Region.noSelect_spec hs) hQ V hV fuel listed a w (Region.free_spec hi hf) (by simpa using hr) hy hS ht h
def z5q(md:Region.Mode)(ops:Array Oper)(t0 i:Nat):Bool:=match ops[t0]? with
 |some ot=>ot.after.any fun e=>Region.binds md e&&e.on==i
 |none=>false
def zp4(ops:Array Oper)(t0:Nat):Array Bool->List (Nat × Nat)->Bool
 |listed,[]=>(Region.ready .any ops listed).isEmpty
 |listed,(0,i)::r=>(Region.ready .any ops listed).contains i&&(Region.free .any ops listed i&&(z5q .any ops t0 i&&(decide (i≠t0)&&(!listed.getD t0 false&&zp4 ops t0 (listed.setIfInBounds i true) r))))
 |listed,(1,i)::r=>(Region.ready .any ops listed).contains i&&(Region.free .any ops listed i&&(decide (i≠t0)&&zp4 ops t0 (listed.setIfInBounds i true) r))
 |listed,(_,i)::r=>decide (Region.ready .any ops listed=[i])&&zp4 ops t0 (listed.setIfInBounds i true) r
def zkj(P:Program)(ops:Array Oper)(R:World->World->Prop)(Q:Exit->Act->World->Prop)(t0:Nat):List (Nat × Nat)->Bool->Act->World->Prop
 | [],_,a,w=>Q .normal a w
 |(0,i)::r,d,a,w=>∃o v,ops[i]? =some o/\((Region.wanted o (yielded ops a.tmps)=true/\ ∀w',R w w'->(execOp a.eval o).run P w'= .ok (.value v) w')\/(Region.wanted o (yielded ops a.tmps)=false/\v=undef))/\zkj P ops R Q t0 r d (a.put o.dst v) w
 |(1,i)::r,d,a,w=>∃o v,ops[i]? =some o/\((Region.wanted o (yielded ops a.tmps)=true/\ ∀w',(execOp a.eval o).run P w'= .ok (.value v) w')\/(Region.wanted o (yielded ops a.tmps)=false/\v=undef))/\zkj P ops R Q t0 r d (a.put o.dst v) w
 |(_,i)::r,d,a,w=>∃o,ops[i]? =some o/\if Region.wanted o (yielded ops a.tmps) then o.wp P a w (fun a' w'=>(d=true\/i=t0\/R w w')/\zkj P ops R Q t0 r (d||i==t0) a' w') (NoPanic Q) else zkj P ops R Q t0 r (d||i==t0) (a.put o.dst undef) w
variable{R:World->World->Prop}
theorem zxb{i:Nat}(h:z5q md ops t0 i=true):∃ot,ops[t0]? =some ot/\ ∃e∈ot.after,Region.binds md e=true/\e.on=i:=by
 unfold z5q at h;split at h
 ·rename_i ot hot
  rw[Array.any_eq_true] at h;obtain⟨j,hj,h⟩:=h;simp only[Bool.and_eq_true,beq_iff_eq] at h;exact⟨ot,hot,ot.after[j],Array.getElem_mem hj,h.1,h.2⟩
 ·cases h
theorem zl4(hrefl:∀w,R w w)(htrans:∀{x y z},R x y->R y z->R x z)(hs:Region.noSelect ops=true):
 ∀(ord:List (Nat × Nat)) (fuel:Nat) (listed:Array Bool) (d:Bool) (a:Act) (w:World),(d=true->listed.getD t0 false=true)->(∀i∈ord.map (·.2),i<listed.size)->ord.length<=fuel->zp4 ops t0 listed ord=true->zkj P ops R Q t0 ord d a w->zki P .any ops (NoPanic Q) t0 (R w) fuel listed a w:=by
 intro ord;induction ord with
 |nil=>
  intro fuel listed d a w _ _ _ hok h;have hr:Region.ready .any ops listed=[]:=by simpa[zp4] using hok
  cases fuel with
  |zero=>exact⟨hr,NoPanic.normal h⟩
  |succ fuel=>exact⟨fun _=>NoPanic.normal h,by rw[hr];simp⟩
 |cons x r ih=>
  obtain⟨b,i⟩:=x;intro fuel listed d a w hd hsz hl hok h;obtain⟨fuel,rfl⟩:∃k,fuel=k+1:=⟨fuel-1,by simp at hl;omega⟩;have hl':r.length<=fuel:=by simp at hl;omega
  have hsz':∀k∈r.map (·.2),k<(listed.setIfInBounds i true).size:=fun k hk=>by rw[Array.size_setIfInBounds];exact hsz k (by simp at hk⊢;exact .inr hk)
  have hi0:i<listed.size:=hsz i (by simp)
  match b with
  |0=>
   obtain⟨o,v,ho,hv,hr⟩:=h;simp only[zp4,Bool.and_eq_true,decide_eq_true_eq,Bool.not_eq_true'] at hok;obtain⟨h1,h2,h3,h4,h5,h6⟩:=hok;exact zoa (R w) ho h4 hs h2 h1 (fun _ _ _ hp=>hp) (.inr ⟨fun _ hh=>hh,zxb h3⟩) hv (.inr (hrefl w)) (.inr h5) (ih fuel _ d _ w (fun e=>zcu (hd e)) hsz' hl' h6 hr)
  |1=>
   obtain⟨o,v,ho,hv,hr⟩:=h;simp only[zp4,Bool.and_eq_true,decide_eq_true_eq] at hok;obtain⟨h1,h2,h3,h4⟩:=hok;exact zoa (fun _=>True) ho h3 hs h2 h1 (fun _ _ _ hp=>hp) (.inl fun _=>trivial) (hv.imp (fun hh=>⟨hh.1,fun w' _=>hh.2 w'⟩) id) (.inr (hrefl w)) (.inl fun _=>trivial) (ih fuel _ d _ w (fun e=>zcu (hd e)) hsz' hl' h4 hr)
  |b+2=>
   obtain⟨o,ho,hc⟩:=h;simp only[zp4,Bool.and_eq_true,decide_eq_true_eq] at hok;obtain⟨h1,h3⟩:=hok;refine⟨fun h0=>(by rw[h1] at h0;cases h0),fun j hj=>?_⟩;rw[h1] at hj;obtain rfl:j=i:=by simpa using hj
   have hd':(d||j==t0)=true->(listed.setIfInBounds j true).getD t0 false=true:=by
    intro e;rw[Bool.or_eq_true,beq_iff_eq] at e;rcases e with e|rfl
    ·exact zcu (hd e)
    ·rw[Array.getD_eq_getD_getElem?,Array.getElem?_setIfInBounds,if_pos rfl,if_pos hi0];rfl
   unfold wpOp;simp only[ho];split
   ·rename_i hw
    rw[if_pos hw] at hc;refine .inl (Oper.wp_mono (fun a' w' hh=>?_) hc);obtain⟨hR,hh⟩:=hh;have hI:=ih fuel _ _ a' w' hd' hsz' hl' h3 hh;by_cases ht:(listed.setIfInBounds j true).getD t0 false=true
    ·exact⟨.inl ht,zhs fuel _ a' w' (.inl ht) hI⟩
    ·have hR':R w w':=by
      rcases hR with hR|hR|hR
      ·exact absurd (zcu (hd hR)) ht
      ·exact absurd (hd' (by simp[hR])) ht
      ·exact hR
     exact⟨.inr hR',zhs fuel _ a' w' (.inr fun z hz=>htrans hR' hz) hI⟩
   ·rename_i hw
    rw[if_neg hw] at hc;exact⟨.inr (hrefl w),ih fuel _ _ _ w hd' hsz' hl' h3 hc⟩
theorem zdy{id:Nat}{a:Act}{w:World}(R:World->World->Prop)(t0:Nat)(ord:List (Nat × Nat))(hrefl:∀w,R w w)(htrans:∀{x y z},R x y->R y z->R x z)(hm:P.follows .mixedOrders=true)
 (hs:Region.noSelect ops=true)(hl:(decide (ord.length<=ops.size)&&ord.all fun x=>decide (x.2<ops.size))=true)(hok:zp4 ops t0 (Array.replicate ops.size false) ord=true)(h:zkj P ops R Q t0 ord false a w.drew):(Code.region id ops true).wp P Q a w:=by
 simp only[Bool.and_eq_true,decide_eq_true_eq,List.all_eq_true] at hl;refine wp_region_noPanic (wp_region_any hm (zle _ _ _ _ (zl4 hrefl htrans hs ord ops.size _ false a _ (by simp) ?_ hl.1 hok h)));intro i hi;simp only[List.mem_map] at hi;obtain⟨x,hx,rfl⟩:=hi;rw[Array.size_replicate];exact hl.2 x hx
variable{i:Nat}{r:List (Nat × Nat)}{a:Act}{w:World}{d:Bool}{v:Value}
theorem zht(h:Q .normal a w):zkj P ops R Q t0 [] d a w:=h
section
variable{dst:Option Tmp}{op:Op}{ty:TypeId}{pos:String}{af:Array Edge}{gd:Option (Nat × Bool)}
theorem zd7(ho:ops[i]? =some ⟨dst,op,ty,pos,af,gd⟩)(hw:Region.wanted ⟨dst,op,ty,pos,af,gd⟩ (yielded ops a.tmps)=true)(hv:∀w',R w w'->(execOp a.eval ⟨dst,op,ty,pos,af,gd⟩).run P w'= .ok (.value v) w')(h:zkj P ops R Q t0 r d (a.put dst v) w):zkj P ops R Q t0 ((0,i)::r) d a w:=
 ⟨_,v,ho,.inl ⟨hw,hv⟩,h⟩
theorem zcv(ho:ops[i]? =some ⟨dst,op,ty,pos,af,gd⟩)(hw:Region.wanted ⟨dst,op,ty,pos,af,gd⟩ (yielded ops a.tmps)=true)(hv:∀w',(execOp a.eval ⟨dst,op,ty,pos,af,gd⟩).run P w'= .ok (.value v) w')(h:zkj P ops R Q t0 r d (a.put dst v) w):zkj P ops R Q t0 ((1,i)::r) d a w:=
 ⟨_,v,ho,.inl ⟨hw,hv⟩,h⟩
theorem zbl(ho:ops[i]? =some ⟨dst,op,ty,pos,af,gd⟩)(hw:Region.wanted ⟨dst,op,ty,pos,af,gd⟩ (yielded ops a.tmps)=true)(h:∀K:Act->World->Prop,(∀a' w',(d=true\/i=t0\/R w w')->zkj P ops R Q t0 r (d||i==t0) a' w'->K a' w')->Oper.wp P ⟨dst,op,ty,pos,af,gd⟩ a w K (NoPanic Q)):zkj P ops R Q t0 ((2,i)::r) d a w:=
 ⟨_,ho,by rw[if_pos hw];exact h _ fun _ _ h1 h2=>⟨h1,h2⟩⟩
end
end
section
variable{P:Program}{o:Oper}{a:Act}{Q:Exit->Act->World->Prop}{K:Act->World->Prop}
theorem zkk{w:World}{t e:TypeId}{z:Value}{bytes:Nat}(E:ElT P t e z 1 bytes)(s x:Operand)
 (ho:o.op= .call {callee:= .builtin .append,args:= #[s,x],argTypes:= #[t,t]})
 {W:World}{B base m c:Nat}{v:Value}{xs news:List Value}{ad:Addr}(hown:Own w base e v xs)(hr:Reads w w.heap.size 1 (some ad) m news)(hm0:0<m)(hs:a.eval s=v)(hx:a.eval x= .slice (some ad) m c)
 (hb:Below B W w)(hbB:B<=base)(hbase:base<=w.heap.size)(h1:∀u∈news,u.oneCell'=true)
 (hn:(xs.length+m)*bytes<=140737488355328)(hm:xs.length+m<=maxLen)
 (h:∀A' c' w',xs.length+m<=c'->c'<=maxLen->Own w' base e (.slice A' (xs.length+m) c') (xs++news)->w.grownBy w' v.ownBlock->Below B W w'->K (a.put o.dst (.slice A' (xs.length+m) c')) w'):
 Oper.wp P o a w K Q:=by
 obtain⟨i,hi,hz0,hz1,hz2⟩:=info_parts E.hi;have hl:news.length=m:=by have:=hr.1;omega
 have hcells:∀j u,news[j]? =some u->w.cell? (ad.add j)=some u:=by intro j u hu;obtain⟨ad',h',_,hc⟩:=hr.2 hm0;injection h' with h';subst h';exact hc j u hu
 obtain⟨v',w',hr',hown',hg,_,_⟩:=run_append_own_at (P:=P) w base t o.type e i z 1 bytes E.ht hi hz0 hz1 hz2 E.hz (by omega) v xs.length xs hown ad m c news (by omega) hcells h1 hm hn hbase;have hxl:(xs++news).length=xs.length+m:=by simp[hl]
 have hown2:Own w' base e v' (xs++news):=by unfold Own;rw[hxl];exact hown'
 obtain⟨A',c',rfl,hc1,hc2⟩:=hown2.slice;rw[hxl] at hc1 hown2 hr';unfold Oper.wp execOp;simp only[ho,resolve,invoke,builtin,Sem.run_bind,Sem.run_pure,Result.andThen_ok,List.map_toArray,List.map_cons,List.map_nil,hs,hx,hr'];exact h A' c' w' hc1 hc2 hown2 hg (hb.grown hg (Nat.le_trans hbB hbase) (fun k hk=>by have:=(hown.lt k hk).1;omega))
end
end Go.Hm
