/- Merged. -/
import Derived.Test.YtbahbnbpmfgimaaGreatDoorBun7
import Derived.Test.YtbahbnbpmfgimaaGreatDoorBun9
set_option maxHeartbeats 4000000
namespace Go.Hm
open Go Go.RowKit
abbrev zqu:zab:=(false,0,[],0,0)
def zio(s:List zab × List Nat)(c:zab):List zab × List Nat:=
 if c∈s.1 then(s.1,s.2++[s.1.idxOf c]) else(s.1++[c],s.2++[s.1.length])
def zic(l:List zab):List zab × List Nat:=l.foldl zio ([],[])
theorem ziq(l:List zab)(c:zab):zic (l++[c])=zio (zic l) c:=by simp[zic]
def zir(s:Option Nat)(p:Nat):Option Nat:=
 match s with
 |none=>none
 |some k=>if k<p then none else if p=k then some (k+1) else some k
def qc0(l:List Nat):Option Nat:=l.foldl zir (some 0)
theorem zk2(l:List Nat)(p:Nat):qc0 (l++[p])=zir (qc0 l) p:=by simp[qc0]
theorem zk3{α:Type}{C:List α->Prop}(h0:C [])(h1:∀l x,C l->C (l++[x])):∀l,C l:=fun l=>by
 have:∀k,∀l:List α,l.length=k->C l:=by
  intro k;induction k with
  |zero=>intro l hl;rw[qqr.1 hl];exact h0
  |succ k ih=>
   intro l hl;have hne:l≠ []:=by intro e;subst e;simp at hl
   rw[<-List.dropLast_concat_getLast hne];exact h1 _ _ (ih _ (by simp[hl]))
 exact this _ l rfl
theorem zx8:∀(l:List Nat) (m:Nat),qc0 l=some m-> ∀p∈l,p<m:=by
 refine zk3 ?_ ?_
 ·intro m _ p hp;simp at hp
 ·intro l x ih m h p hp
  rw[zk2] at h;cases hl:qc0 l with
  |none=>rw[hl] at h;simp[zir] at h
  |some j=>
   rw[hl] at h;have hi:=ih j hl;unfold zir at h;dsimp only at h;split at h
   ·cases h
   ·split at h
    all_goals
     injection h with h;rcases qny.1 hp with hp|hp
     ·have:=hi p hp;omega
     ·rw[qnz.1 hp];omega
structure IsEnt(l E:List zab)(P:List Nat):Prop where
 nodup:E.Nodup
 map:P.map (fun p=>E.getD p zqu)=l
 ord:qc0 P=some E.length
theorem IsEnt.lt{l E:List zab}{P:List Nat}(h:IsEnt l E P):∀p∈P,p<E.length:=zx8 P _ h.ord
theorem IsEnt.len{l E:List zab}{P:List Nat}(h:IsEnt l E P):P.length=l.length:=by rw[<-h.map,qpg]
theorem zu7{α:Type}{E:List α}{c d:α}{p:Nat}(h:p<E.length):(E++[c]).getD p d=E.getD p d:=by rw[qoa,qoa,qov h]
theorem zow:∀l,IsEnt l (zic l).1 (zic l).2:=by
 refine zk3 ?_ ?_
 ·exact⟨by simp[zic],by simp[zic],by simp[zic,qc0]⟩
 ·intro l c h
  rw[ziq];obtain⟨h1,h2,h3⟩:=h;have hlt:=zx8 _ _ h3;generalize zic l=s at*;obtain⟨E,P⟩:=s;dsimp only at h1 h2 h3 hlt;unfold zio;dsimp only;split
  ·rename_i hc
   have hi:E.idxOf c<E.length:=qqs.2 hc;refine⟨h1,?_,?_⟩
   ·rw[qp6,h2]
    congr 1
    simp only[qnc,qnd];rw[qoa,qmm hi,List.getElem_idxOf hi];rfl
   ·rw[zk2,h3]
    unfold zir;dsimp only;rw[if_neg (by omega),if_neg (by omega)]
  ·rename_i hc
   refine⟨?_,?_,?_⟩
   ·rw[List.nodup_append]
    refine⟨h1,by simp,?_⟩;intro a ha b hb e;rw[qnz.1 hb] at e;exact hc (e▸ha)
   ·rw[qp6]
    congr 1
    ·rw[<-h2]
     exact qod fun p hp=>zu7 (hlt p hp)
    ·simp
   ·rw[zk2,h3]
    unfold zir;dsimp only;rw[if_neg (by omega),if_pos rfl];simp
theorem z24{E:List zab}(h:E.Nodup){p:Nat}(hp:p<E.length):E.idxOf (E.getD p zqu)=p:=by
 rw[qoa,qmm hp,qob];have hi:E.idxOf E[p]<E.length:=qqs.2 (qm8 hp);have:=List.getElem_idxOf hi;have hp':=List.pairwise_iff_getElem.1 h;rcases Nat.lt_trichotomy (E.idxOf E[p]) p with hlt|heq|hgt
 ·exact absurd this (hp' _ _ hi hp hlt)
 ·exact heq
 ·exact absurd this.symm (hp' _ _ hp hi hgt)
theorem IsEnt.uniq:∀{l E:List zab} {P:List Nat},IsEnt l E P->zic l=(E,P):=by
 have key:∀P:List Nat,∀l E,IsEnt l E P->zic l=(E,P):=by
  refine zk3 ?_ ?_
  ·intro l E h
   have h1:=h.map;have h2:=h.ord;simp only[qnd] at h1;subst h1;simp[qc0] at h2;have:E=[]:=qqr.1 (by omega);subst this;rfl
  ·intro P p ih l E h
   obtain⟨h1,h2,h3⟩:=h;rw[qp6] at h2;simp only[qnc,qnd] at h2;rw[zk2] at h3;subst h2;cases hk:qc0 P with
   |none=>rw[hk] at h3;simp[zir] at h3
   |some k=>
    rw[hk] at h3;have hlt:=zx8 _ _ hk;unfold zir at h3;dsimp only at h3;rw[ziq];split at h3
    ·cases h3
    ·split at h3
     ·rename_i hpk
      injection h3 with h3;subst hpk;have e1:E=E.take p++[E.getD p zqu]:=by
       have hp:p<E.length:=by omega
       conv=>lhs;rw[<-qpl p E,qm4 hp,qqe (by omega)]
       rw[qoa,qmm hp];rfl
      have hl:(E.take p).length=p:=by rw[qmq];omega
      have hm:(P.map fun p=>E.getD p zqu)=P.map fun q=>(E.take p).getD q zqu:=by
       refine qod fun q hq=>?_
       have:=hlt q hq;conv=>lhs;rw[e1]
       exact zu7 (by omega)
      have hi:=ih (P.map fun p=>E.getD p zqu) (E.take p) ⟨h1.sublist (List.take_sublist _ _),hm.symm,by rw[hk,hl]⟩;rw[hi];have hn:E.getD p zqu∉E.take p:=by rw[e1,List.nodup_append] at h1;intro hm;exact h1.2.2 _ hm _ (by simp) rfl
      unfold zio;dsimp only;rw[if_neg hn,hl,<-e1]
     ·rename_i h4 h5
      injection h3 with h3;have hp:p<E.length:=by omega
      have hi:=ih (P.map fun p=>E.getD p zqu) E ⟨h1,rfl,by rw[hk,h3]⟩;rw[hi];have hm:E.getD p zqu∈E:=by rw[qoa,qmm hp];exact qm8 hp
      unfold zio;dsimp only;rw[if_pos hm,z24 h1 hp]
 intro l E P h;exact key P l E h
theorem zs7:∀l:List zab,∀c,c∈(zic l).1↔c∈l:=by
 refine zk3 ?_ ?_
 ·intro c;simp[zic]
 ·intro l x ih c
  rw[ziq];unfold zio;split
  ·rename_i hx
   have:=(ih x).1 hx;rw[ih c,qny,qnz];constructor
   ·exact fun h=> .inl h
   ·rintro(h|rfl)
    ·exact h
    ·exact this
  ·dsimp only
   rw[qny,qny,ih c]
theorem zs8:∀l:List zab,(zic l).1.length<=l.length:=by
 refine zk3 ?_ ?_
 ·simp[zic]
 ·intro l x ih
  rw[ziq];unfold zio;split
  ·simp;omega
  ·simp;omega
open Go Go.RowKit
def zc6(m:Nat)(r:Int)(D:List zex):Int:=if 65536<r then 4 else if r<0\/D.length≠m then 2 else if∃d∈D,((d.2.2.length:Nat):Int)≠r then 2 else 0
theorem Reads.colD{w:World}{B n i:Nat}{A:Option Addr}{l:List zex}(h:Reads w B 1 A n (recs zk9 l))(hi:i<n):
 ∃ad,A=some ad/\ad.block<B/\w.cell? (ad.add i)=some (.slice (l.getD i (none,0,[])).1 (l.getD i (none,0,[])).2.2.length (l.getD i (none,0,[])).2.1):=by
 obtain⟨ad,h1,h2,_,h3⟩:=h.rec_ (f:=zk9) (sz:=1) (fun _=>rfl) (none,0,[]) hi (by omega);have:=h3 0 _ rfl;rw[qm0] at this;exact⟨ad,h1,h2,this⟩
theorem Reads.lenD{w:World}{B n:Nat}{A:Option Addr}{l:List zex}(h:Reads w B 1 A n (recs zk9 l)):n=l.length:=h.lenR (f:=zk9) (sz:=1) (fun _=>rfl) (by omega)
end Go.Hm
namespace Go.Proofs.Y
open Go.RowKit Go.Hm
set_option maxRecDepth 100000 in
theorem z9t{w:World}{Ac:Option Addr}{nc cc:Nat}{r:Int}{Ad:Option Addr}{nd cd:Nat}{D:List zex}(h:Reads w w.heap.size 1 Ad nd (recs zk9 D))(hn:nd<=4611686018427387903):
 Calls Tryz.prog 82 #[.agg #[.slice Ac nc cc,.int .i64 r,.slice Ad nd cd]] w (zal (.int .i64 (zc6 nc r D)) w):=by
 obtain rfl:=h.lenD;have K1:=Hz (fun(hh:65536<r)=>show zc6 nc r D=4 by rw[zc6,if_pos hh]);have K2:=Hz (fun(hh: ¬65536<r) (h2:r<0\/D.length≠nc)=>show zc6 nc r D=2 by rw[zc6,if_neg hh,if_pos h2]);have K3:=Hz (fun(hh: ¬65536<r) (h2: ¬(r<0\/D.length≠nc)) (d:zex) (hd:d∈D) (h3:((d.2.2.length:Nat):Int)≠r)=>show zc6 nc r D=2 by rw[zc6,if_neg hh,if_neg h2,if_pos ⟨d,hd,h3⟩]);have K4:=Hz (fun(hh: ¬65536<r) (h2: ¬(r<0\/D.length≠nc)) (h3:∀d∈D,((d.2.2.length:Nat):Int)=r)=>show zc6 nc r D=0 by rw[zc6,if_neg hh,if_neg h2,if_neg (fun⟨d,hd,h4⟩=>h4 (h3 d hd))]);generalize zc6 nc r D=O at*;obtain⟨W0,hW0⟩:∃W,W=w.alloc (.cells #[.slice Ac nc cc,.int .i64 r,.slice Ad D.length cd] 56):=⟨_,rfl⟩;have b0:New w W0:=by rw[hW0];exact(Below.refl _ _).alloc (qmt _) _
 have B0:Blk W0 w.heap.size 56 #[.slice Ac nc cc,.int .i64 r,.slice Ad D.length cd]:=by rw[hW0];exact Blk.new _ _ _
 obtain⟨x0,x1,x2⟩:=zao B0;rw[hW0] at x0 x1 x2;by_cases h0:65536<r
 ·have O1:=Hz (K1.out h0)
  clear K1 K2 K3 K4 B0 h;go_enter Tryz.func82,Tryz.ntmps82
  go_wp2
  go_ret
  exact⟨by rw[O1.out];rfl,by rw[<-hW0];exact b0⟩
 ·by_cases h1:r<0\/D.length≠nc
  ·have O1:=Hz (K2.out h0 h1)
   clear K1 K2 K3 K4 B0 h;by_cases h2:r<0
   ·go_enter Tryz.func82,Tryz.ntmps82
    go_wp2
    go_ret
    exact⟨by rw[O1.out];rfl,by rw[<-hW0];exact b0⟩
   ·have e1:((D.length:Int) != (nc:Int))=true:=by simp;omega
    clear h1;go_enter Tryz.func82,Tryz.ntmps82
    go_wp2
    go_ret
    exact⟨by rw[O1.out];rfl,by rw[<-hW0];exact b0⟩
  ·have K5:=Hz (K3.out h0 h1)
   have K6:=Hz (K4.out h0 h1);obtain⟨h2,h3⟩: ¬r<0/\D.length=nc:=by omega
   subst h3;have r0:=Reads.later h b0;clear h1 K1 K2 K3 K4 h;go_enter Tryz.func82,Tryz.ntmps82
   go_wp2
   rw[<-hW0];clear x0 x1 x2 hW0;go_loopw [23] (fun i wr=>∃k:Nat,i= .int .i64 (k:Int)/\k<=D.length/\New W0 wr/\Hid (∀d∈D.take k,((d.2.2.length:Nat):Int)=r)) (fun i _=>D.length-(intOf i).toNat)
   case atStart=>exact⟨0,rfl,by omega,New.refl _,Hz (by simp)⟩
   case round=>
    obtain⟨k,rfl,hk,hb,H⟩:=hrel;obtain⟨x0,x1,x2⟩:=zao (B0.below hb B0.lt);by_cases hlt:k<D.length
    ·obtain⟨ad,rfl,hbk,c0⟩:=(Reads.later r0 hb).colD hlt
     have hx:(D.getD k (none,0,[]))∈D:=by rw[qoa,qmm hlt];exact qm8 hlt
     have M1:=Hz (fun hh=>K5.out _ hx hh);have M2:=Hz (fun(hh:((((D.getD k (none,0,[])).2.2.length:Nat):Int)=r))=>show∀d∈D.take (k+1),((d.2.2.length:Nat):Int)=r by
      intro d hd;rw[zad D k (none,0,[]) hlt,qny] at hd;rcases hd with hd|hd
      ·exact H.out d hd
      ·obtain rfl:=qnz.1 hd
       exact hh)
     clear hx;generalize(D.getD k (none,0,[])).1=aA at*;generalize(D.getD k (none,0,[])).2.2.length=m at*;generalize(D.getD k (none,0,[])).2.1=cA at*;have hiz:(k:Int)<(D.length:Int):=by omega
     by_cases he:(m:Int)=r
     ·have M3:=Hz (M2.out he)
      subst he;clear M1 M2;go_wp2
      go_roundw
      case rel=>exact⟨k+1,by go_num,by omega,hb,M3⟩
      case measure=>simp[intOf];omega
     ·have M3:=Hz (M1.out he)
      have e1:((m:Int) != r)=true:=by simpa using he
      clear M1 M2 he;go_wp2
      go_ret
      exact⟨by rw[M3.out];rfl,New.trans b0 hb⟩
    ·obtain rfl:k=D.length:=by omega
     have H2:=H.out;rw[qql] at H2;have O1:=Hz (K6.out H2);clear H H2 K5 K6;go_wp2
     go_ret
     exact⟨by rw[O1.out];rfl,New.trans b0 hb⟩
end Go.Proofs.Y
namespace Go.Hm
open Go Go.RowKit
abbrev ty(l:List zbb)(i:Nat):Int:=(l.getD i ([],0,false)).2.1
def zfw(l:List zab)(c:zbb):Bool:=l.all fun x=>zaf x c.2.1 c.2.2
def zjo(D:List zex)(L:List zbb):Bool:=(List.zip D L).all fun p=>zfw p.1.2.2 p.2
def zgk(L:List zbb)(r:Int)(D:List zex):Int:=
 if zcy L≠0 then zcy L else if zc6 L.length r D≠0 then zc6 L.length r D else if zjo D L then 0 else 3
theorem zwn{m:Nat}{r:Int}{D:List zex}(h:zc6 m r D=0):D.length=m/\0<=r/\r<=65536/\ ∀d∈D,((d.2.2.length:Nat):Int)=r:=by
 unfold zc6 at h;split at h
 ·cases h
 split at h
 ·cases h
 split at h
 ·cases h
 rename_i h1 h2 h3;refine⟨by omega,by omega,by omega,fun d hd=>?_⟩;by_cases e:((d.2.2.length:Nat):Int)=r
 ·exact e
 ·exact absurd ⟨d,hd,e⟩ h3
theorem zzh{l:List zab}{c:zbb}(h:zfw l c=true){k:Nat}(hk:k<l.length):zaf (l.getD k (false,0,[],0,0)) c.2.1 c.2.2=true:=by rw[qoa,qmm hk];exact(qo4.1 h) _ (qm8 hk)
theorem zzi{l:List zab}{c:zbb}(h:∀k,k<l.length->zaf (l.getD k (false,0,[],0,0)) c.2.1 c.2.2=true):zfw l c=true:=by
 refine qo4.2 fun x hx=>?_
 obtain⟨k,hk,rfl⟩:=qpq hx;have:=h k hk;rwa[qoa,qmm hk] at this
theorem zzj{D:List zex}{L:List zbb}(hl:D.length=L.length)(h:∀k,k<D.length->zfw (D.getD k (none,0,[])).2.2 (L.getD k ([],0,false))=true):zjo D L=true:=by
 refine qo4.2 fun x hx=>?_
 obtain⟨k,hk,rfl⟩:=qpq hx;rw[qrh] at hk;have:=h k (by omega);rw[qoa,qmm (by omega),qoa,qmm (by omega)] at this;rw[List.getElem_zip];exact this
theorem zpx{D:List zex}{L:List zbb}(hl:D.length=L.length)(h:zjo D L=true){k:Nat}(hk:k<D.length):zfw (D.getD k (none,0,[])).2.2 (L.getD k ([],0,false))=true:=by have:=(qo4.1 h) _ (qm8 (l:=List.zip D L) (n:=k) (by rw[qrh];omega));rw[List.getElem_zip] at this;rw[qoa,qmm (by omega),qoa,qmm (by omega)];exact this
def DataIn(w:World)(B:Nat)(D:List zex):Prop:=∀d∈D,Reads w B 5 d.1 d.2.2.length (recs za0 d.2.2)/\(∀x∈d.2.2,x.2.2.1.length<=140737488351232/\ ∀z∈x.2.2.1,z<256)/\d.2.2.length<=d.2.1/\d.2.1<=9223372036854775807/\(d.1=none->d.2.1=0)
theorem DataIn.later{w w':World}{D:List zex}(h:DataIn w w.heap.size D)(hb:New w w'):DataIn w' w'.heap.size D:=fun d hd=>⟨Reads.later (h d hd).1 hb,(h d hd).2⟩
end Go.Hm
namespace Go.Proofs.Y
open Go.RowKit Go.Hm
set_option maxRecDepth 100000 in
theorem z9u{w:World}{Ac:Option Addr}{nc cc:Nat}{L:List zbb}{r:Int}{Ad:Option Addr}{nd cd:Nat}{D:List zex}
 (h1:Reads w w.heap.size 3 Ac nc (recs zly L))(hL:∀x∈L,(∀z∈x.1,z<256)/\x.1.length<=140737488351232)(hc:nc<=cc)(hn:nc<=4611686018427387903)
 (h:Reads w w.heap.size 1 Ad nd (recs zk9 D))(hnd:nd<=4611686018427387903)(hD:DataIn w w.heap.size D):
 Calls Tryz.prog 48 #[.agg #[.slice Ac nc cc,.int .i64 r,.slice Ad nd cd]] w (zal (.int .i64 (zgk L r D)) w):=by
 obtain rfl:=h1.lenC;obtain rfl:=h.lenD;have K1:=Hz (fun(hh:zcy L≠0)=>show zgk L r D=zcy L by rw[zgk,if_pos hh]);have K2:=Hz (fun(hh:zcy L=0) (h2:zc6 L.length r D≠0)=>show zgk L r D=zc6 L.length r D by rw[zgk,if_neg (by simpa using hh),if_pos h2]);have K3:=Hz (fun(hh:zcy L=0) (h2:zc6 L.length r D=0)=>show zgk L r D=if zjo D L then 0 else 3 by rw[zgk,if_neg (by simpa using hh),if_neg (by simpa using h2)]);have SL:=Hz (fun(h2:zc6 L.length r D=0)=>zwn h2);generalize zgk L r D=O at*;obtain⟨W0,hW0⟩:∃W,W=w.alloc (.cells #[.slice Ac L.length cc,.int .i64 r,.slice Ad D.length cd] 56):=⟨_,rfl⟩;have b0:New w W0:=by rw[hW0];exact(Below.refl _ _).alloc (qmt _) _
 have B0:Blk W0 w.heap.size 56 #[.slice Ac L.length cc,.int .i64 r,.slice Ad D.length cd]:=by rw[hW0];exact Blk.new _ _ _
 obtain⟨x0,x1,x2⟩:=zao B0;have P1:=Hz (znu (c:=cc) (Reads.later h1 b0) hL hc hn);have P2:=Hz (fun(W:World) (hW:New W0 W)=>z9t (Ac:=Ac) (nc:=L.length) (cc:=cc) (r:=r) (cd:=cd) (Reads.later h (New.trans b0 hW)) hnd);rw[hW0] at x0 x1 x2;have r1:=Hz (fun(W:World) (hW:New W0 W)=>Reads.later h1 (New.trans b0 hW));have r0:=Hz (fun(W:World) (hW:New W0 W)=>Reads.later h (New.trans b0 hW));have rD:=Hz (fun(W:World) (hW:New W0 W)=>hD.later (New.trans b0 hW));clear h h1 hD;generalize zcy L=q1 at*;generalize zc6 L.length r D=q2 at*;go_enter Tryz.func48,Tryz.ntmps48
 go_wp2_with fail
 rw[<-hW0];refine(P1.out).mono ?_;rintro e W1 ⟨rfl,b1⟩;clear x0 x1 x2 hW0 P1;by_cases h2:q1=0
 ·have K22:=Hz (K2.out h2)
  have K33:=Hz (K3.out h2);clear K1 K2 K3;subst h2;obtain⟨x0,x1,x2⟩:=zao (B0.below b1 B0.lt);go_wp2_with fail
  refine(P2.out _ b1).mono ?_;rintro e W2 ⟨rfl,b2⟩;have b12:=New.trans b1 b2;clear x0 x1 x2 P2 b1 b2;by_cases h3:q2=0
  ·have K5:=Hz (K33.out h3)
   have hSL:=SL.out h3;subst h3;have hDL:=hSL.1;have K6:=Hz (fun(hh:∀k,k<D.length->zfw (D.getD k (none,0,[])).2.2 (L.getD k ([],0,false))=true)=>show O=0 by rw[K5.out,if_pos (zzj hDL hh)]);have K7:=Hz (fun(k:Nat) (hk:k<D.length) (hh: ¬zfw (D.getD k (none,0,[])).2.2 (L.getD k ([],0,false))=true)=>show O=3 by rw[K5.out,if_neg (fun e=>hh (zpx hDL e hk))]);clear K22 K33 K5 SL hSL;obtain⟨x0,x1,x2⟩:=zao (B0.below b12 B0.lt);go_wp2
   clear x0 x1 x2;go_loopw [23] (fun i wr=>∃k:Nat,i= .int .i64 (k:Int)/\k<=D.length/\New W0 wr/\Hid (∀j,j<k->zfw (D.getD j (none,0,[])).2.2 (L.getD j ([],0,false))=true)) (fun i _=>D.length-(intOf i).toNat)
   case atStart=>exact⟨0,rfl,by omega,b12,Hz (by intro j hj;omega)⟩
   case round=>
    obtain⟨k,rfl,hk,hb,H⟩:=hrel;obtain⟨x0,x1,x2⟩:=zao (B0.below hb B0.lt);by_cases hlt:k<D.length
    ·obtain⟨ad,rfl,hbk,c0⟩:=(r0.out _ hb).colD hlt
     have hmem:(D.getD k (none,0,[]))∈D:=by rw[qoa,qmm hlt];exact qm8 hlt
     have C:=Hz (fun(W:World) (hW:New W0 W)=>(r1.out W hW).colT (show k<L.length by omega));have E:=Hz (fun(W:World) (hW:New W0 W)=>rD.out W hW _ hmem);have M0:=Hz (fun(hh:∀i,i<(D.getD k (none,0,[])).2.2.length->zaf ((D.getD k (none,0,[])).2.2.getD i (false,0,[],0,0)) (L.getD k ([],0,false)).2.1 (L.getD k ([],0,false)).2.2=true)=>show∀j,j<k+1->zfw (D.getD j (none,0,[])).2.2 (L.getD j ([],0,false))=true by
      intro j hj;rcases qq9.1 hj with hj|rfl
      ·exact H.out j hj
      ·exact zzi hh)
     have M1:=Hz (fun(i:Nat) (hi:i<(D.getD k (none,0,[])).2.2.length) (hh: ¬zaf ((D.getD k (none,0,[])).2.2.getD i (false,0,[],0,0)) (L.getD k ([],0,false)).2.1 (L.getD k ([],0,false)).2.2=true)=>K7.out k hlt (fun e=>hh (zzh e hi)));clear hmem H;generalize(D.getD k (none,0,[])).1=aA at*;generalize(D.getD k (none,0,[])).2.2=l at*;generalize(D.getD k (none,0,[])).2.1=cA at*;generalize(L.getD k ([],0,false)).1=cn at*;generalize(L.getD k ([],0,false)).2.1=t at*;generalize(L.getD k ([],0,false)).2.2=nu at*;have hiz:(k:Int)<(D.length:Int):=by omega
     have hiz2:(k:Int)<(L.length:Int):=by omega
     go_wp2
     clear x0 x1 x2 c0;go_loopw [30] (fun i wr=>∃j:Nat,i= .int .i64 (j:Int)/\j<=l.length/\New W0 wr/\Hid (∀i,i<j->zaf (l.getD i (false,0,[],0,0)) t nu=true)) (fun i _=>l.length-(intOf i).toNat)
     case atStart=>exact⟨0,rfl,by omega,hb,Hz (by intro j hj;omega)⟩
     case round=>
      obtain⟨j,rfl,hj,hb2,H2⟩:=hrel;by_cases hl2:j<l.length
      ·obtain⟨E1,E2,E3,E4,_⟩:=E.out _ hb2
       obtain⟨ad2,e2,hbk2,d0,d1,d2,d3,d4⟩:=E1.cell5 hl2;subst e2;have hxm:(l.getD j (false,0,[],0,0))∈l:=by rw[qoa,qmm hl2];exact qm8 hl2
       have hsz:=(E2 _ hxm).1;obtain⟨ad3,e3,hbk3,f0,f1,f2⟩:=C.out _ hb2;subst e3;have P:=Hz (fun(W:World)=>zf0 (w:=W) (b:=(l.getD j (false,0,[],0,0)).1) (n:=(l.getD j (false,0,[],0,0)).2.1) (s:=(l.getD j (false,0,[],0,0)).2.2.1) (x:=(l.getD j (false,0,[],0,0)).2.2.2.1) (y:=(l.getD j (false,0,[],0,0)).2.2.2.2) (cn:=cn) (t:=t) (nu:=nu) hsz);have N1:=Hz (fun(hh: ¬zaf ((l.getD j (false,0,[],0,0)).1,(l.getD j (false,0,[],0,0)).2.1,(l.getD j (false,0,[],0,0)).2.2.1,(l.getD j (false,0,[],0,0)).2.2.2.1,(l.getD j (false,0,[],0,0)).2.2.2.2) t nu=true)=>M1.out j hl2 hh);have N0:=Hz (fun(hh:zaf ((l.getD j (false,0,[],0,0)).1,(l.getD j (false,0,[],0,0)).2.1,(l.getD j (false,0,[],0,0)).2.2.1,(l.getD j (false,0,[],0,0)).2.2.2.1,(l.getD j (false,0,[],0,0)).2.2.2.2) t nu=true)=>show∀i,i<j+1->zaf (l.getD i (false,0,[],0,0)) t nu=true by
        intro i hi;rcases qq9.1 hi with hi|rfl
        ·exact H2.out i hi
        ·exact hh)
       clear hxm hsz H2 E1 E2;generalize(l.getD j (false,0,[],0,0)).1=b at*;generalize(l.getD j (false,0,[],0,0)).2.1=n at*;generalize(l.getD j (false,0,[],0,0)).2.2.1=s at*;generalize(l.getD j (false,0,[],0,0)).2.2.2.1=px at*;generalize(l.getD j (false,0,[],0,0)).2.2.2.2=py at*;generalize zaf (b,n,s,px,py) t nu=R at*;have hiz3:(j:Int)<(l.length:Int):=by omega
       obtain⟨W3,hW3⟩:∃W,W=wr.alloc (.cells #[.bool b,.int .i64 n,.string (zae s),.int .i64 px,.int .i64 py] 75):=⟨_,rfl⟩;have b3:New wr W3:=by rw[hW3];exact(Below.refl _ _).alloc (qmt _) _
       have Y:Blk W3 wr.heap.size 75 #[.bool b,.int .i64 n,.string (zae s),.int .i64 px,.int .i64 py]:=by rw[hW3];exact Blk.new _ _ _
       have F1:=Hz (fun(W:World) (hW:New W3 W)=>zcs (Y.below hW Y.lt));have F2:=Hz (fun(W:World) (hW:New W3 W)=>zao (B0.below (New.trans hb2 (New.trans b3 hW)) B0.lt));have hb3:(ad3.add (k*3)).block<wr.heap.size:=by rw[zai];exact hbk3
       have F3:=Hz (fun(W:World) (hW:New W3 W)=>(qo8 ((Below.cell (New.trans b3 hW) hb3).trans f0) (qo8 ((Below.cell (p:=⟨(ad3.add (k*3)).block,_,none⟩) (New.trans b3 hW) hb3).trans f1) ((Below.cell (p:=⟨(ad3.add (k*3)).block,_,none⟩) (New.trans b3 hW) hb3).trans f2))));go_wp2_with fail
       rw[<-hW3];clear hW3;refine zax New [(true,0),(true,1),(true,2),(true,3),(true,4),(true,5),(false,6),(true,7)]
        New.refl New.trans (by kernel_rfl) (by kernel_rfl) (by kernel_rfl) (by kernel_rfl) ?_
       have hU:=New.drew W3;have hV:=New.refl W3.drew;repeat(first
        |(refine zba rfl rfl (fun K hK=>?_);go_simp
          (with_reducible refine(P.out _).mono ?_)
          rintro e w9 ⟨rfl,b9⟩;refine hK _ _ b9 ?_;clear hK;replace hU:=New.trans hU b9;replace hV:=New.trans hV b9)
        |(refine zar rfl rfl (v:=?_) (fun W hW=>?_) ?_;rotate_left;(obtain⟨p0,p1,p2,p3,p4⟩:=F1.out W (New.trans (New.drew W3) (New.trans hV hW));obtain⟨y0,y1,y2⟩:=F2.out W (New.trans (New.drew W3) (New.trans hV hW));obtain⟨z0,z1,z2⟩:=F3.out W (New.trans (New.drew W3) (New.trans hV hW));go_simp<;> with_reducible rfl);simp only[Act.put,qo6,qou,qo7]))
       refine zdh ?_;clear F1 F2 F3 f0 f1 f2 d0 d1 d2 d3 d4 P Y;have hb4:=New.trans hb2 (New.trans b3 hU);cases R with
       |true=>
        have N3:=Hz (N0.out rfl);go_wp2
        go_roundw
        case rel=>exact⟨j+1,by go_num,by omega,hb4,N3⟩
        case measure=>simp[intOf];omega
       |false=>
        have N3:=Hz (N1.out (by simp));go_wp2
        go_ret
        exact⟨by rw[N3.out];rfl,New.trans b0 hb4⟩
      ·obtain rfl:j=l.length:=by omega
       have M3:=Hz (M0.out H2.out);go_wp2
       go_roundw
       case rel=>exact⟨k+1,by go_num,by omega,hb2,M3⟩
       case measure=>simp[intOf];omega
    ·obtain rfl:k=D.length:=by omega
     have O1:=Hz (K6.out H.out);go_wp2
     go_ret
     exact⟨by rw[O1.out];rfl,New.trans b0 hb⟩
  ·have O1:=Hz (K22.out h3)
   have e1:(q2 != 0)=true:=by simpa using h3
   clear K22 K33 SL h3;go_wp2
   go_ret
   exact⟨by rw[O1.out];rfl,New.trans b0 b12⟩
 ·have O1:=Hz (K1.out h2)
  have e1:(q1 != 0)=true:=by simpa using h2
  clear K1 K2 K3 h2;go_wp2
  go_ret
  exact⟨by rw[O1.out];rfl,New.trans b0 b1⟩
end Go.Proofs.Y
