/- Merged. -/
import Derived.Laws.EntriesVeiled
import Derived.Test.YtbahbnbpmfgimaaGreatDoorBun22
import Derived.Test.YtbahbnbpmfgimaaGreatDoorBun39
set_option maxHeartbeats 4000000
namespace Go.Proofs.Y
open Go.RowKit Go.Hm
def encOf(t e:Int)(l:List zab):Int:=if e= -1 then bestV t (zdv l) else e
def pgE(t:Int)(nu:Bool)(e:Int)(l:List zab):Int × List Nat:=
 if¬(0<=t/\t<=3)\/(e≠ -1/\fitsV t e=false) then(3,[])
 else if 65536<l.length then(4,[])
 else if(l.all fun c=>zaf c t nu)=true then
  (match zfp t (encOf t e l) (zdv l) with
  |some d=>(0,(encOf t e l).toNat::(vp l.length++((if nu=true then zcx l else [])++d)))
  |none=>(1,[]))
 else(1,[])
theorem zrs{l:List zab}{t:Int}{nu:Bool}(h:∀c∈l,zaf c t nu=true):∀c∈zdv l,zaf c t false=true:=fun c hc=>by
 unfold zdv at hc;rw[qrf] at hc;have h1:=h c hc.1;have h2:c.1=false:=by simpa using hc.2
 unfold zaf at h1⊢;rw[h2] at h1⊢;exact h1
theorem z8t{c:zab}{t:Int}(nu:Bool)(h:zaf c t false=true):zaf c t nu=true:=by have h0:=zk5 h;unfold zaf at h⊢;rw[h0] at h⊢;exact h
theorem z8u{l:List zab}{t:Int}{nu:Bool}(ht:0<=t/\t<=3)(hl:l.length<=65536)(h:∀c∈l,zaf c t nu=true):zk4 t (zdv l)=true:=
 plOk_iff.2 ⟨⟨ht.1,ht.2,qml (ztq l) hl⟩,zrs h⟩
theorem z1a{t:Int}{nu:Bool}{e:Int}{l:List zab}{b:List Nat}(h:pgE t nu e l=(0,b)):
 (0<=t/\t<=3)/\l.length<=65536/\(∀c∈l,zaf c t nu=true)/\fitsV t (encOf t e l)=true/\ ∃d,zfp t (encOf t e l) (zdv l)=some d/\b=(encOf t e l).toNat::(vp l.length++((if nu=true then zcx l else [])++d)):=by
 unfold pgE at h;split at h
 ·injection h with h _
  omega
 ·rename_i h1
  split at h
  ·injection h with h _
   omega
  ·rename_i h2
   split at h
   ·rename_i h3
    rw[qo4] at h3;have ht:0<=t/\t<=3:=by
     by_cases q:0<=t/\t<=3
     ·exact q
     ·exact absurd (.inl q) h1
    split at h
    ·rename_i d hd
     injection h with _ h;refine⟨ht,by omega,h3,?_,d,hd,h.symm⟩;unfold encOf;split
     ·exact(zvu (z8u ht (by omega) h3)).1
     ·rename_i he
      cases hf:fitsV t e with
      |true=>rfl
      |false=>exact absurd (.inr ⟨he,hf⟩) h1
    ·injection h with h _
     omega
   ·injection h with h _
    omega
structure IsPg(t:Int)(nu:Bool)(b:List Nat)(o:Option (List zab)):Prop where
 sound:∀l,o=some l->(∃e,fitsV t e=true/\pgE t nu e l=(0,b))/\ ∀c∈l,zaq c
 compl:∀l,(∀c∈l,zaq c)->(∃e,fitsV t e=true/\pgE t nu e l=(0,b))->o=some l
theorem IsPg.uniq{t:Int}{nu:Bool}{b:List Nat}{o p:Option (List zab)}(h:IsPg t nu b o)(k:IsPg t nu b p):o=p:=by
 cases o with
 |some l=>obtain⟨a,c⟩:=h.sound l rfl;exact(k.compl l c a).symm
 |none=>
  cases p with
  |none=>rfl
  |some l=>obtain⟨a,c⟩:=k.sound l rfl;exact h.compl l c a
theorem zpf{l:List zab}(h:∀c∈l,zaq c):∀c∈zdv l,zaq c:=fun c hc=>h c (by unfold zdv at hc;exact(qrf.1 hc).1)
end Go.Proofs.Y
namespace Go.Hm
def headL_film:List Nat:=[72,89,80,79]
def tailL:List Nat:=[79,80,89,72]
def ownN(b:List Nat):Nat:=num ((b.drop (b.length-8)).take 4)
def zpg(b:List Nat):Option (List Nat):=
 if b.length<12\/b.take 4≠headL_film\/b.drop (b.length-4)≠tailL then none
 else if b.length-12<ownN b then none
 else some ((b.drop (b.length-8-ownN b)).take (ownN b))
theorem z1b{b s:List Nat}(h:zpg b=some s):s.length=ownN b/\ownN b+12<=b.length:=by
 unfold zpg at h;split at h
 ·cases h
 ·rename_i h1
  split at h
  ·cases h
  ·injection h with h
   subst h;rw[qmq,qmp];omega
end Go.Hm
namespace Go.Proofs.Y
open Go.RowKit Go.Hm
def z4f:Nat->Nat
 |0=>134
 |1=>155
 |2=>157
 |3=>159
 |_=>161
def qj9:Nat->Nat
 |0=>154
 |1=>156
 |2=>158
 |3=>160
 |_=>162
def qlg(q:Nat):Value:= .agg #[.func (.func (z4f q)) #[] #[],.func (.func (qj9 q)) #[] #[]]
theorem qi7:Maps.Keyed Tryz.prog 3:=Maps.int_keyed (show Tryz.prog.underlying 3=some (.int .i64) by kernel_rfl)
theorem z4g:Tryz.prog.underlying 206=some (.map 3 205):=by kernel_rfl
theorem zjm(k:Nat)(h:k<=4):∃kl,keyOf Tryz.prog 3 (.int .i64 (k:Int))=some kl:=
 ⟨_,Maps.keyOf_int_mk (show Tryz.prog.underlying 3=some (.int .i64) by kernel_rfl) (by simp[Lit.wf,IntKind.min,IntKind.max,IntKind.signed,IntKind.bits];omega)⟩
theorem z4h(W:World):(Instr.makeMap 206 none).run Tryz.prog W= .ok (.map (some W.heap.size)) (W.alloc (.map #[] 0)):=by simp[Instr.makeMap,Result.andThen]
def qh8(w:World)(e:Ending)(w':World):Prop:=
 ∃b f,e= .returned (.map (some b))/\MapF_mapf Tryz.prog 3 qlg w' b 5 f/\(∀k:Nat,k<=4->f (k:Int)=some k)/\New w w'
set_option maxRecDepth 100000 in
theorem zzb{w:World}:Calls Tryz.prog 143 #[] w (qh8 w):=by
 have hmm:=z4h;have b0:New w (w.alloc (.map #[] 0)):=(Below.refl _ _).alloc (qmt _) _;have M0:=MapF_mapf.made (P:=Tryz.prog) (k:=3) (F:=qlg) w;go_enter Tryz.func143,Tryz.ntmps143
 go_wp2_with (first
  |(refine zgf rfl (.tmp 1) _ (.tmp 2) 206 rfl qi7 z4g M0 (by unfold maxLen;omega) (zjm 0 (by omega)) 0 rfl rfl rfl ?_
    intro w1 M1 g1)
  |(refine zgf rfl (.tmp 1) _ (.tmp 3) 206 rfl qi7 z4g M1 (by unfold maxLen;omega) (zjm 1 (by omega)) 1 rfl rfl rfl ?_
    intro w2 M2 g2)
  |(refine zgf rfl (.tmp 1) _ (.tmp 4) 206 rfl qi7 z4g M2 (by unfold maxLen;omega) (zjm 2 (by omega)) 2 rfl rfl rfl ?_
    intro w3 M3 g3)
  |(refine zgf rfl (.tmp 1) _ (.tmp 5) 206 rfl qi7 z4g M3 (by unfold maxLen;omega) (zjm 3 (by omega)) 3 rfl rfl rfl ?_
    intro w4 M4 g4)
  |(refine zgf rfl (.tmp 1) _ (.tmp 6) 206 rfl qi7 z4g M4 (by unfold maxLen;omega) (zjm 4 (by omega)) 4 rfl rfl rfl ?_
    intro w5 M5 g5))
 go_ret
 have gr:∀{wa wb:World},New w wa->wa.grownBy wb (some w.heap.size)->New w wb:=fun h g=>zbj h g (qmt _) (qmt _)
 exact⟨_,_,rfl,M5,fun k hk=>by rcases(by omega:k=0\/k=1\/k=2\/k=3\/k=4) with rfl|rfl|rfl|rfl|rfl<;> rfl,gr (gr (gr (gr (gr b0 g1) g2) g3) g4) g5⟩
open Go.RowKit Go.Hm
theorem OptX.u{o:Option (List Nat)}{w w':World}{e:Ending}(h:OptX o w e w'):∃v,e= .returned (.tuple #[v,.bool o.isSome])/\New w w'/\ ∀b,o=some b-> ∃A n c,v= .slice A n c/\Go.Hm.Own w' w.heap.size 5 (.slice A n c) (zan .u8 b):=by
 cases o with
 |none=>obtain⟨⟨v,rfl⟩,h2⟩:=h;exact⟨v,rfl,h2,fun b hb=>by cases hb⟩
 |some l=>obtain⟨A,n,c,rfl,h2,h3⟩:=h;exact⟨_,rfl,h3,fun b hb=>by injection hb with hb;subst hb;exact⟨_,_,_,rfl,h2⟩⟩
theorem OptX.of{o:Option (List Nat)}{w w':World}{v:Value}(h1:New w w')(h2:∀b,o=some b-> ∃A n c,v= .slice A n c/\Go.Hm.Own w' w.heap.size 5 (.slice A n c) (zan .u8 b)):OptX o w (.returned (.tuple #[v,.bool o.isSome])) w':=by
 cases o with
 |none=>exact⟨⟨v,rfl⟩,h1⟩
 |some l=>obtain⟨A,n,c,rfl,h3⟩:=h2 l rfl;exact⟨A,n,c,rfl,h3,h1⟩
set_option maxRecDepth 100000 in
theorem zng{w:World}{A:Option Addr}{n c:Nat}{L:List zab}(h:Reads w w.heap.size 5 A n (recs za0 L))(hL:∀y∈L,zaq y)(hn:n<=65536):
 Calls Tryz.prog 159 #[.int .i64 3,.slice A n c] w (OptX (zfp 3 3 L) w):=by
 obtain rfl:=h.lenCell;have RI:=Hz (zjl (t:=3) (c:=c) h hL (by omega));have PE:Hid (∀W,New w W->zk4 3 L=true->Calls Tryz.prog 178 #[.slice A L.length c] W (OptX (encPts L) W)):=
  Hz (fun W hW hp=>znf (Reads.later h hW) (plOk_iff.1 hp).2 hn)
 have hv:zfp 3 3 L=if zk4 3 L=true then encPts L else none:=by unfold zfp;simp
 obtain⟨X,hX⟩:∃X,X=zfp 3 3 L:=⟨_,rfl⟩;rw[<-hX];have HX:=Hz (hX.trans hv);clear hv hX h hL;generalize zk4 3 L=O at*;go_enter Tryz.func159,Tryz.ntmps159
 go_wp2_with fail
 refine RI.out.mono ?_;rintro e W0 ⟨rfl,b0⟩;clear RI;cases O with
 |false=>
  have hx:X=none:=by rw[HX.out];rfl
  subst hx;go_wp2
  go_ret2
  exact⟨⟨_,rfl⟩,b0⟩
 |true=>
  have hx:=HX.out;rw[if_pos rfl] at hx;subst hx;have P2:=Hz (PE.out W0 b0 rfl);clear HX PE;generalize encPts L=Y at*;go_wp2_with fail
  refine P2.out.mono ?_;rintro e W1 hpost;obtain⟨v,rfl,b1,ho⟩:=hpost.u;have HO:=Hz ho;clear ho hpost P2;generalize hs:Y.isSome=S at*;have HS:=Hz hs;clear hs;go_wp2_with fail
  go_ret2
  rw[<-HS.out];exact OptX.of (New.trans b0 b1) (fun b hb=>by obtain⟨A1,n1,c1,e1,o1⟩:=HO.out b hb;exact⟨A1,n1,c1,e1,o1.base_le b0.size⟩)
theorem qeo{w:World}{q:Nat}{t:Int}{A:Option Addr}{n c:Nat}{L:List zab}(hf:fitsV t (q:Int)=true)(h:Reads w w.heap.size 5 A n (recs za0 L))(hL:∀y∈L,CellFine y)(hn:n<=65536):
 Calls Tryz.prog (z4f q) #[.int .i64 t,.slice A n c] w (OptX (zfp t (q:Int) L) w):=by
 have hq:=(ztm hf).1;have hD:∀y∈L,zaq y:=fun y hy=>zlc (hL y hy)
 rcases(by omega:q=0\/q=1\/q=2\/q=3\/q=4) with rfl|rfl|rfl|rfl|rfl
 ·have e:zfp t ((0:Nat):Int) L=plO t L:=by unfold zfp;simp
  rw[e];exact(zk8 h hD (by omega)).mono fun _ _ p=>OptB.x p
 ·have e:zfp t ((1:Nat):Int) L=zl3 t L:=by unfold zfp;simp
  rw[e];exact(zyp h hL hn).mono fun _ _ p=>OptB.x p
 ·exact zqz h hD (by omega)
 ·have ht:t=0\/t=3:=by
   unfold fitsV at hf;rw[decide_eq_true_eq] at hf;omega
  rcases ht with rfl|rfl
  ·exact zq0 h hD (by omega)
  ·exact zng h hD hn
 ·exact zpv h hD (by omega)
def zze(t e:Int)(L:List zab):Int × List Nat:=if fitsV t e=true then(match zfp t e L with|some b=>(0,b)|none=>(1,[])) else(3,[])
def zjn(x:Int × List Nat)(w:World)(en:Ending)(w':World):Prop:=
 ∃A n c,en= .returned (.tuple #[.slice A n c,.int .i64 x.1])/\Go.Hm.Own w' w.heap.size 5 (.slice A n c) (zan .u8 x.2)/\New w w'
noncomputable def qma:Value:=match(Tryz.prog.info? 205).bind (·.zero) with|some v=>v|none=>undef
theorem qh9(w:World):(zeroValue 205).run Tryz.prog w= .ok qma w:=by kernel_rfl
theorem z4n(i j:Nat)(w:World):(Instr.field 205 (.agg #[.func (.func i) #[] #[],.func (.func j) #[] #[]]) 0).run Tryz.prog w= .ok (.func (.func i) #[] #[]) w:=by kernel_rfl
set_option maxRecDepth 100000 in
theorem zke{w:World}{t e:Int}{A:Option Addr}{n c:Nat}{L:List zab}(h:Reads w w.heap.size 5 A n (recs za0 L))(hL:∀y∈L,CellFine y)(hn:n<=65536):
 Calls Tryz.prog 128 #[.int .i64 t,.int .i64 e,.slice A n c] w (zjn (zze t e L) w):=by
 have F:=Hz (zlf t e w);by_cases hf:fitsV t e=true
 ·have hq:=(ztm hf).1
  obtain⟨q,rfl⟩:=qon hq.1;have hq4:q<=4:=by omega
  have C:=Hz (@zzb w);have V:=Hz (fun(W:World) (hW:New w W)=>qeo (c:=c) hf (Reads.later h hW) hL hn);have hk:∀args w,(callFunc (z4f q) args).run Tryz.prog w= .ok (.enter (z4f q) args) w:=by intro args w;rcases(by omega:q=0\/q=1\/q=2\/q=3\/q=4) with rfl|rfl|rfl|rfl|rfl<;> simp only[z4f]<;> go_simp
  have HV:Hid (zze t (q:Int) L=match zfp t (q:Int) L with|some b=>(0,b)|none=>(1,[])):=Hz (by unfold zze;rw[if_pos hf]);rw[hf] at F;generalize zfp t (q:Int) L=Y at*;generalize zze t (q:Int) L=X at*;clear hf h hL hq;go_enter Tryz.func128,Tryz.ntmps128
  go_wp2_with fail
  refine F.out.mono ?_;rintro e W0 ⟨rfl,rfl⟩;clear F;go_wp2_with fail
  refine C.out.mono ?_;rintro e W1 ⟨bl,f,rfl,M,hff,b1⟩;have V1:=Hz (V.out W1 b1);have hfq:=hff q hq4;clear C V hff;have hz:=qh9 W1;have hfd:=z4n (z4f q) (qj9 q) W1;go_wp2_with (refine zmi rfl (.tmp 15) (.tmp 16) 206 rfl qi7 z4g hz M hfq (zjm q hq4) rfl rfl ?_;unfold qlg)
  refine V1.out.mono ?_;rintro e W2 hpost;obtain⟨v,rfl,b2,ho⟩:=hpost.u;have HO:=Hz ho;clear ho hpost V1 M hz hfq;cases Y with
  |none=>
   have hx:X=(1,[]):=HV.out;subst hx;go_wp2_with fail
   go_ret2
   exact⟨none,0,0,rfl,Own.nil_,New.trans b1 b2⟩
  |some b=>
   have hx:X=(0,b):=HV.out;subst hx;obtain⟨A1,n1,c1,rfl,o1⟩:=HO.out b rfl;go_wp2_with fail
   go_ret2
   exact⟨A1,n1,c1,rfl,o1.base_le b1.size,New.trans b1 b2⟩
 ·have hf0:fitsV t e=false:=by simpa using hf
  have hx:zze t e L=(3,[]):=by unfold zze;rw[if_neg hf]
  rw[hx];rw[hf0] at F;clear hf hf0 h hL;go_enter Tryz.func128,Tryz.ntmps128
  go_wp2_with fail
  refine F.out.mono ?_;rintro e W0 ⟨rfl,rfl⟩;clear F;go_wp2_with fail
  go_ret2
  exact⟨none,0,0,rfl,Own.nil_,New.refl _⟩
open Go.RowKit Go.Hm
def OptCX(o:Option (List zab))(w:World)(e:Ending)(w':World):Prop:=
 match o with
 |none=>(∃v,e= .returned (.tuple #[v,.bool false]))/\New w w'
 |some l=>∃A n c,e= .returned (.tuple #[.slice A n c,.bool true])/\w'.ownsRow w.heap.size 75 5 (.slice A n c) n (recs za0 l)/\New w w'
theorem OptC.x{o:Option (List zab)}{w w':World}{e:Ending}(h:OptC o w e w'):OptCX o w e w':=by
 cases o with
 |none=>exact⟨⟨_,h.1⟩,h.2⟩
 |some l=>exact h
end Go.Proofs.Y
namespace Go.Hm
open Go Go.RowKit
section
variable{P:Program}{ops:Array Oper}{rest:List Oper}{o:Oper}{a:Act}{Q:Exit->Act->World->Prop}
end
end Go.Hm
namespace Go.Proofs.Y
open Go.RowKit Go.Hm
theorem OptI.u{o:Option (List Int)}{w w':World}{e:Ending}(h:OptI o w e w'):
 ∃A n c,e= .returned (.tuple #[.slice A n c,.bool o.isSome])/\Go.Hm.Own w' w.heap.size 3 (.slice A n c) (za7 .i64 (o.getD []))/\New w w':=by
 cases o with
 |none=>exact⟨none,0,0,h.1,Own.nil_,h.2⟩
 |some l=>exact h
open Go.RowKit Go.Hm
theorem z9q(t:Int)(l:List zab)(k:Nat):zdu t l (k+1)=if(zze t (k:Int) l).1=0/\((zdu t l k).1<0\/(zze t (k:Int) l).2.length<(zdu t l k).2) then((k:Int),(zze t (k:Int) l).2.length) else zdu t l k:=by
 rw[zdu];unfold zze;cases hf:fitsV t (k:Int) with
 |false=>simp
 |true=>
  cases hv:zfp t (k:Int) l with
  |none=>simp
  |some b=>simp
set_option maxRecDepth 100000 in
theorem z9r{w:World}{t:Int}{A:Option Addr}{n c:Nat}{L:List zab}(h:Reads w w.heap.size 5 A n (recs za0 L))(hL:∀y∈L,CellFine y)(hn:n<=65536):
 Calls Tryz.prog 127 #[.int .i64 t,.slice A n c] w (zal (.int .i64 (bestV t L)) w):=by
 have V:=Hz (fun(W:World) (hW:New w W) (e:Int)=>zke (t:=t) (e:=e) (c:=c) (Reads.later h hW) hL hn);have HK:=Hz (ztp t L);have ST:=Hz (z9q t L);have HE:Hid (bestV t L=(zdu t L 5).1):=Hz rfl;have H0:Hid (zdu t L 0=(-1,0)):=Hz rfl;generalize bestV t L=Z at*;generalize hB:zdu t L=B at*;generalize hG:(fun k:Nat=>zze t (k:Int) L)=G at*;have V2:Hid (∀(W:World) (k:Nat),New w W->Calls Tryz.prog 128 #[.int .i64 t,.int .i64 (k:Int),.slice A n c] W (zjn (G k) W)):=Hz (by subst hG;exact fun W k hW=>V.out W hW (k:Int));have ST2:Hid (∀k,B (k+1)=if(G k).1=0/\((B k).1<0\/(G k).2.length<(B k).2) then((k:Int),(G k).2.length) else B k):=Hz (by subst hG;exact ST.out);clear V h hL hB hG ST;go_enter Tryz.func127,Tryz.ntmps127
 go_wp2_with fail
 go_loopw [5,6,7] (fun p f i wr=>∃k:Nat,k<=5/\i= .int .i64 (k:Int)/\p= .int .i64 (B k).1/\f= .int .i64 ((B k).2:Int)/\New w wr) (fun _ _ i _=>5-(intOf i).toNat)
 case atStart=>exact⟨0,by omega,rfl,by rw[H0.out],by rw[H0.out];rfl,New.refl _⟩
 case round=>
  obtain⟨k,hk,rfl,rfl,rfl,b⟩:=hrel;by_cases hlt:k<5
  ·have V3:=Hz (V2.out _ k b)
   have hst:=ST2.out k;obtain⟨⟨p,f⟩,hpf⟩:∃x,B k=x:=⟨_,rfl⟩;obtain⟨⟨er,bs⟩,hgk⟩:∃x,G k=x:=⟨_,rfl⟩;rw[hpf,hgk] at hst;rw[hpf];rw[hgk] at V3;have HST:=Hz hst;have i1:(k:Int)<=4:=by omega
   clear hst hpf hgk;go_wp2_with fail
   refine V3.out.mono ?_;rintro e W1 ⟨A1,n1,c1,rfl,o1,b1⟩;obtain rfl:n1=bs.length:=by simpa[zan] using o1.len
   clear V3;by_cases h1:er=0
   ·subst h1
    by_cases h2:p<0
    ·go_wp2_with fail
     go_roundw
     case rel=>exact⟨k+1,by omega,by go_num,by rw[HST.out,if_pos ⟨by trivial,.inl h2⟩],by rw[HST.out,if_pos ⟨by trivial,.inl h2⟩],New.trans b b1⟩
     case measure=>simp[intOf];omega
    ·by_cases h3:bs.length<f
     ·have i3:(bs.length:Int)<(f:Int):=by omega
      go_wp2_with fail
      go_roundw
      case rel=>exact⟨k+1,by omega,by go_num,by rw[HST.out,if_pos ⟨by trivial,.inr h3⟩],by rw[HST.out,if_pos ⟨by trivial,.inr h3⟩],New.trans b b1⟩
      case measure=>simp[intOf];omega
     ·have i3:decide ((bs.length:Int)<(f:Int))=false:=decide_eq_false (by omega)
      have h4: ¬(p<0\/bs.length<f):=by rintro(q|q);exact h2 q;exact h3 q
      have H4:=Hz h4;clear h4;go_wp2_with fail
      go_roundw
      case rel=>exact⟨k+1,by omega,by go_num,by rw[HST.out,if_neg (fun q=>H4.out q.2)],by rw[HST.out,if_neg (fun q=>H4.out q.2)],New.trans b b1⟩
      case measure=>simp[intOf];omega
   ·have H1:=Hz h1
    have i2:(er==0)=false:=by simpa using h1
    go_wp2_with fail
    go_roundw
    case rel=>exact⟨k+1,by omega,by go_num,by rw[HST.out,if_neg (fun q=>H1.out q.1)],by rw[HST.out,if_neg (fun q=>H1.out q.1)],New.trans b b1⟩
    case measure=>simp[intOf];omega
  ·have hk5:k=5:=by omega
   subst hk5;go_wp2_with fail
   go_ret
   exact⟨by rw[HE.out];rfl,b⟩
open Go.RowKit Go.Hm
theorem qep{l:List zab}(h:∀c∈l,zaq c):∀x∈ziv l,zja x:=fun x hx=>by obtain⟨c,hc,rfl⟩:=qmn.1 hx;exact(h c hc).2
theorem z1n{t:Int}{l:List zab}(h:zk4 t l=true)(ht:t=3):(∀x∈zqm 0 (xsV l),zja x)/\ ∀x∈zqm 0 (ysV l),zja x:=by
 subst ht;have hr:=(plOk_iff.1 h).2;have hb:∀c∈l,(-1048576<=c.2.2.2.1/\c.2.2.2.1<=1048576)/\ -1048576<=c.2.2.2.2/\c.2.2.2.2<=1048576:=fun c hc=>by have:=zox (hr c hc);omega
 refine⟨fun x hx=>?_,fun x hx=>?_⟩
 ·have:=zto (a:=0) (by omega) (fun z hz=>by obtain⟨c,hc,rfl⟩:=qmn.1 hz;exact(hb c hc).1) x hx
  unfold zja;omega
 ·have:=zto (a:=0) (by omega) (fun z hz=>by obtain⟨c,hc,rfl⟩:=qmn.1 hz;exact(hb c hc).2) x hx
  unfold zja;omega
theorem z1o{t e:Int}{l:List zab}{b:List Nat}(hd:∀c∈l,zaq c)(h:zfp t e l=some b):b.length<=100000000000:=by
 have hok:=z8r h;have hl:=(plOk_iff.1 hok).1.2.2;unfold zfp at h;split at h
 ·have:=zyo hok
  rw[<-(plO_iff.1 h).2];omega
 ·split at h
  ·have:=z71 h
   omega
  ·try rw[if_pos hok] at h
   split at h
   ·injection h with h
    have:=ztf (zpe hd) (by unfold zh0;rw[qpg];exact hl);rw[show(zh0 l).length=l.length by unfold zh0;rw[qpg]] at this;rw[<-h];omega
   ·split at h
    ·split at h
     ·rename_i ht
      obtain⟨d1,d2⟩:=z1n hok ht;unfold encPts at h;split at h
      ·rename_i x y hx hy
       have a1:=zk1 d1 hx;have a2:=zk1 d2 hy;have a3:=zap (n:=x.length) (by omega);injection h with h;rw[<-h,qni,qni];omega
      ·cases h
     ·have:=zk1 (qep hd) h
      omega
    ·unfold qfs at h
     split at h
     ·rename_i hf
      obtain⟨f1,f2,f3⟩:=(zjf _).1 hf;have:=z0y [] (zh8 l) f2;injection h with h;rw[<-h];omega
     ·cases h
theorem qia{t e:Int}{l:List zab}{b:List Nat}(hd:∀c∈l,zaq c)(h:zfp t e l=some b):∀x∈b,x<256:=by
 have hok:=z8r h;unfold zfp at h;split at h
 ·rw[<-(plO_iff.1 h).2]
  exact z8m (fun c hc=>(hd c hc).1.2)
 ·split at h
  ·exact qdj hd h
  ·try rw[if_pos hok] at h
   split at h
   ·injection h with h
    rw[<-h];exact zvd (zpe hd)
   ·split at h
    ·split at h
     ·rename_i ht
      obtain⟨d1,d2⟩:=z1n hok ht;unfold encPts at h;split at h
      ·rename_i x y hx hy
       injection h with h;rw[<-h];intro z hz;rcases qny.1 hz with hz|hz
       ·rcases qny.1 hz with hz|hz
        ·exact z0z _ _ (qmt _) z hz
        ·exact zzf hx z hz
       ·exact zzf hy z hz
      ·cases h
     ·exact zzf h
    ·exact qhw (fun s hs=>by obtain⟨c,hc,rfl⟩:=qmn.1 hs;exact(hd c hc).1.2) h
theorem zr6{l:List zab}(h:l.length<=65536):(zcx l).length<=8193:=by unfold zcx;rw[zbg,zlg];omega
theorem zzg{t:Int}{nu:Bool}{e:Int}{l:List zab}{b:List Nat}{k:Int}(hd:∀c∈l,zaq c)(h:pgE t nu e l=(k,b)):b.length<=100000010000:=by
 by_cases hk:k=0
 ·subst hk
  obtain⟨_,h1,_,_,d,h2,rfl⟩:=z1a h;have a:=z1o (zpf hd) h2;have b:=zr6 h1;have c:=zap (n:=l.length) (by omega);simp only[qnu,qni];split<;> simp<;> omega
 ·have:b=[]:=by
   unfold pgE at h;split at h
   ·injection h with _ h;exact h.symm
   ·split at h
    ·injection h with _ h;exact h.symm
    ·split at h
     ·split at h
      ·injection h with h _;exact absurd h.symm hk
      ·injection h with _ h;exact h.symm
     ·injection h with _ h;exact h.symm
  subst this;simp
theorem qkf{t:Int}{nu:Bool}{e:Int}{l:List zab}{b:List Nat}(hd:∀c∈l,zaq c)(h:pgE t nu e l=(0,b)):∀x∈b,x<256:=by
 obtain⟨_,_,_,h4,d,h2,rfl⟩:=z1a h;have:=(ztm h4).1;intro x hx;rcases qof.1 hx with rfl|hx
 ·omega
 ·rcases qny.1 hx with hx|hx
  ·exact z0z _ _ (qmt _) x hx
  ·rcases qny.1 hx with hx|hx
   ·split at hx
    ·exact zg1 _ _ x hx
    ·cases hx
   ·exact qia (zpf hd) h2 x hx
open Go.RowKit Go.Hm
theorem zwt:Tryz.prog.underlying 24=some (.slice (Tryz.prog.elem 24)):=by kernel_rfl
theorem zwu(w:World):(sizeOf (Tryz.prog.elem 24)).run Tryz.prog w= .ok 1 w:=by kernel_rfl
theorem z94{l:List Nat}(hl:∀x∈l,x<256):((zae l).toList== [72,89,80,79])=decide (l=headL_film):=by rw[<-zkl hl (m:=headL_film) (by decide)];rw[show(zae headL_film).toList=[72,89,80,79] by simp[zae,headL_film]]
theorem z95{l:List Nat}(hl:∀x∈l,x<256):((zae l).toList== [79,80,89,72])=decide (l=tailL):=by rw[<-zkl hl (m:=tailL) (by decide)];rw[show(zae tailL).toList=[79,80,89,72] by simp[zae,tailL]]
def zml(b:List Nat)(w:World)(e:Ending)(w':World):Prop:=
 New w w'/\match zpg b with
 |none=>e= .returned (.tuple #[.slice none 0 0,.bool false])
 |some s=>∃A c,e= .returned (.tuple #[.slice A s.length c,.bool true])/\Reads w' w.heap.size 1 A s.length (zan .u8 s)/\s.length<=c/\c<=9223372036854775807
set_option maxRecDepth 100000 in
theorem zwv{w:World}{A:Option Addr}{c:Nat}{b:List Nat}(h:Reads w w.heap.size 1 A b.length (zan .u8 b))(h8:∀x∈b,x<256)(hb:b.length<=140737488351232)(hc:b.length<=c)(hc2:c<=9223372036854775807):
 Calls Tryz.prog 67 #[.slice A b.length c] w (zml b w):=by
 have HR:=Hz h;by_cases h1:b.length<12
 ·have ho:zpg b=none:=by unfold zpg;rw[if_pos (.inl h1)]
  have i1:(b.length:Int)<12:=by omega
  go_enter Tryz.func67,Tryz.ntmps67
  go_wp2_with fail
  go_ret2
  unfold zml;rw[ho];exact⟨New.refl _,rfl⟩
 ·have i1:(12:Int)<=(b.length:Int):=by omega
  have S1:(Instr.sliceAt 24 (.slice A b.length c) none (some (.int .i64 4)) none).run Tryz.prog w= .ok (.slice A 4 c) w:=qej zwt zwu A b.length c 4 (by omega) w;have C1:=zni (c:=c) (show Reads w w.heap.size 1 A 4 (zan .u8 (b.take 4)) by have:=h.take (k:=4) (by omega);rwa[show 4*1=4 from rfl,zem] at this)
  have q1:=z94 (l:=b.take 4) (fun x hx=>h8 x (qnh hx));have hz1:=zbt (b.take 4);by_cases hH:b.take 4=headL_film
  ·rw[decide_eq_true hH] at q1
   have S2:(Instr.sliceAt 24 (.slice A b.length c) (some (.int .i64 ((b.length:Int)-4))) none none).run Tryz.prog w= .ok (.slice (if c=b.length-4 then A else A.map (·.add ((b.length-4)*1))) (b.length-(b.length-4)) (c-(b.length-4))) w:=by have:=qek zwt zwu A b.length c (b.length-4) (by omega) w;rwa[show((b.length-4:Nat):Int)=(b.length:Int)-4 by omega] at this
   have C2:=zni (c:=c-(b.length-4)) (show Reads w w.heap.size 1 (if c=b.length-4 then A else A.map (·.add ((b.length-4)*1))) (b.length-(b.length-4)) (zan .u8 (b.drop (b.length-4))) by have:=h.cut (k:=b.length-4) (cap:=c) (by omega) hc;simpa only[qm0,zd4] using this)
   have q2:=z95 (l:=b.drop (b.length-4)) (fun x hx=>h8 x (qpa hx));generalize hA2:(if c=b.length-4 then A else A.map (·.add ((b.length-4)*1)))=A2 at*;have HA2:=Hz hA2;generalize hD2:b.drop (b.length-4)=D2 at*;have HD2:=Hz hD2;generalize hN4:b.length-4=N4 at*;have HN4:=Hz hN4;have HH:=Hz hH;clear hA2 hD2 hN4 hH;by_cases hT:D2=tailL
   ·rw[decide_eq_true hT] at q2
    subst hT;have S3:(Instr.sliceAt 24 (.slice A b.length c) (some (.int .i64 ((b.length:Int)-4-4))) (some (.int .i64 ((b.length:Int)-4))) none).run Tryz.prog w= .ok (.slice (if c=b.length-8 then A else A.map (·.add ((b.length-8)*1))) 4 (c-(b.length-8))) w:=by have:=zhi zwt zwu A b.length c (b.length-8) (b.length-4) (by omega) (by omega) w;rwa[show((b.length-8:Nat):Int)=(b.length:Int)-4-4 by omega,show((b.length-4:Nat):Int)=(b.length:Int)-4 by omega,show b.length-4-(b.length-8)=4 by omega] at this
    have hd4:((b.drop (b.length-8)).take 4).length=4:=by rw[qmq,qmp];omega
    have R3:Reads w w.heap.size 1 (if c=b.length-8 then A else A.map (·.add ((b.length-8)*1))) 4 (zan .u8 ((b.drop (b.length-8)).take 4)):=by have:=(h.cut (k:=b.length-8) (cap:=c) (by omega) hc).take (k:=4) (by omega);simpa only[qm0,zd4,zem] using this
    have h48:∀x∈(b.drop (b.length-8)).take 4,x<256:=fun x hx=>h8 x (qpa (qnh hx))
    have R3':Reads w w.heap.size 1 (if c=b.length-8 then A else A.map (·.add ((b.length-8)*1))) ((b.drop (b.length-8)).take 4).length (zan .u8 ((b.drop (b.length-8)).take 4)):=by rw[hd4];exact R3
    have C:=Hz (zsx (c:=c-(b.length-8)) R3' (by omega) h48);rw[hd4] at C;have hnl:=zq7 _ h48;rw[hd4] at hnl;have hN:num ((b.drop (b.length-8)).take 4)=ownN b:=rfl;rw[hN] at hnl;have hnl2:ownN b<4294967296:=hnl;generalize hA3:(if c=b.length-8 then A else A.map (·.add ((b.length-8)*1)))=A3 at*;generalize hD4:(b.drop (b.length-8)).take 4=D4 at*;have HD4:=Hz hD4;have HN:=Hz hN;have HL4:=Hz hd4;have S4:Hid (∀W,ownN b<=b.length-12->(Instr.sliceAt 24 (.slice A b.length c) (some (.int .i64 ((b.length:Int)-4-4-(ownN b:Int)))) (some (.int .i64 ((b.length:Int)-4-4))) none).run Tryz.prog W= .ok (.slice (if c=b.length-8-ownN b then A else A.map (·.add ((b.length-8-ownN b)*1))) (ownN b) (c-(b.length-8-ownN b))) W):=Hz (fun W hW=>by have:=zhi zwt zwu A b.length c (b.length-8-ownN b) (b.length-8) (by omega) (by omega) W;rwa[show((b.length-8-ownN b:Nat):Int)=(b.length:Int)-4-4-(ownN b:Int) by omega,show((b.length-8:Nat):Int)=(b.length:Int)-4-4 by omega,show b.length-8-(b.length-8-ownN b)=ownN b by omega] at this)
    have R4:Hid (ownN b<=b.length-12->Reads w w.heap.size 1 (if c=b.length-8-ownN b then A else A.map (·.add ((b.length-8-ownN b)*1))) (ownN b) (zan .u8 ((b.drop (b.length-8-ownN b)).take (ownN b)))):=Hz (fun hW=>by have:=(h.cut (k:=b.length-8-ownN b) (cap:=c) (by omega) hc).take (k:=ownN b) (by omega);simpa only[qm0,zd4,zem] using this)
    have hown:zpg b=if b.length-12<ownN b then none else some ((b.drop (b.length-8-ownN b)).take (ownN b)):=by unfold zpg;rw[if_neg (by rintro(q|q|q);exact h1 q;exact q HH.out;exact q (by rw[HN4.out,HD2.out]))]
    have HOW:=Hz hown;clear hA3 hD4 hN hd4 hown R3 R3' h48 h8 h;generalize ownN b=N at*;have iw:IntKind.i64.wrap (N:Int)=(N:Int):=by rw[IntKind.wrap_i64];omega
    go_enter Tryz.func67,Tryz.ntmps67
    go_wp2_with fail
    refine C.out.mono ?_;rintro e w1 ⟨g,rfl,hg,C1,b1⟩;have U:=qcn C1 (by rw[HL4.out];exact qmt _);rw[qnn (by rw[HL4.out];exact qmt _),HN.out] at U;replace U:=Hz U;clear C C1;go_wp2_with fail
    refine U.out.mono ?_;rintro e w2 ⟨rfl,C2',g2⟩;have b2:=Far.below b1 g2 hg (qmt _);clear U C2' g2 b1;by_cases hbig:b.length-12<N
    ·have ho:zpg b=none:=by rw[HOW.out,if_pos hbig]
     have i5:(b.length:Int)-4-4-4<(N:Int):=by omega
     clear hbig;go_wp2_with fail
     go_ret2
     unfold zml;rw[ho];exact⟨b2,rfl⟩
    ·have ho:zpg b=some ((b.drop (b.length-8-N)).take N):=by rw[HOW.out,if_neg hbig]
     have i5:(N:Int)<=(b.length:Int)-4-4-4:=by omega
     have S5:=S4.out w2 (by omega);have R5:=Hz ((R4.out (by omega)).below b2);have hcN:N<=c-(b.length-8-N):=by omega
     have hlN:((b.drop (b.length-8-N)).take N).length=N:=by rw[qmq,qmp];omega
     have HO:=Hz ho;have HLN:=Hz hlN;clear hbig ho hlN;generalize(if c=b.length-8-N then A else A.map (·.add ((b.length-8-N)*1)))=A5 at*;generalize hk5:c-(b.length-8-N)=k5 at*;have HK5:=Hz hk5;clear hk5;go_wp2_with fail
     go_ret2
     unfold zml;rw[HO.out];refine⟨b2,A5,k5,?_,?_,?_,?_⟩
     ·rw[HLN.out];rfl
     ·rw[HLN.out];exact R5.out
     ·rw[HLN.out];exact hcN
     ·rw[<-HK5.out];omega
   ·rw[decide_eq_false hT] at q2
    have ho:zpg b=none:=by unfold zpg;rw[if_pos (.inr (.inr (by rw[HN4.out,HD2.out];exact hT)))]
    clear hT;go_enter Tryz.func67,Tryz.ntmps67
    go_wp2_with fail
    go_ret2
    unfold zml;rw[ho];exact⟨New.refl _,rfl⟩
  ·rw[decide_eq_false hH] at q1
   have ho:zpg b=none:=by unfold zpg;rw[if_pos (.inr (.inl hH))]
   clear hH;go_enter Tryz.func67,Tryz.ntmps67
   go_wp2_with fail
   go_ret2
   unfold zml;rw[ho];exact⟨New.refl _,rfl⟩
end Go.Proofs.Y
