import Derived.Test.YtbahbnbpmfgimaaGreatDoorBun20
set_option maxHeartbeats 4000000
set_option maxRecDepth 100000
namespace Go.Hm
open Go.RowKit
def fitsV(typ enc:Int):Bool:=decide ((enc=0\/enc=1)/\0<=typ/\typ<=3\/enc=2/\(typ=0\/typ=1)\/enc=3/\(typ=0\/typ=3)\/enc=4/\typ=2)
def zvw(t e:Int):Prop:=e= -1\/fitsV t e=true
instance(t e:Int):Decidable (zvw t e):=by unfold zvw;exact inferInstance
def zey(g p:Int)(encs:List Int)(cols:List zbi):Int:=
 if¬(1<=g/\g<=65536/\1<=p/\p<=65536/\encs.length=cols.length) then 1 else if∀i,i<encs.length->zvw (cols.getD i ([],0,false)).2.1 (encs.getD i 0) then 0 else 3
end Go.Hm
namespace Go.Proofs.Y
open Go.RowKit Go.Hm
theorem zlk(t e:Int)(w:World):Calls Tryz.prog 85 #[.int .i64 t,.int .i64 e] w (zcv (.bool (fitsV t e)) w):=by
 generalize hO:fitsV t e=O;have HO:=qrf hO;clear hO;go_enter Tryz.func85,Tryz.ntmps85
 go_wp2
 all_goals go_ret
 all_goals
  simp only[beq_iff_eq,beq_eq_false_iff_ne,ne_eq] at*;rw[<-HO.out];refine⟨congrArg (fun b=>Ending.returned (.bool b)) ?_,rfl⟩;rw[qmj];simp only[fitsV,decide_eq_true_eq,qof,beq_iff_eq,qqs,false_iff,true_iff];omega
theorem zvx(n:Int)(w:World):Calls Tryz.prog 84 #[.int .i64 n] w (zcv (.bool (decide (1<=n/\n<=65536))) w):=by
 generalize hO:decide (1<=n/\n<=65536)=O;have HO:=qrf hO;clear hO;go_enter Tryz.func84,Tryz.ntmps84
 go_wp2
 all_goals go_ret
 all_goals
  rw[<-HO.out];refine⟨congrArg (fun b=>Ending.returned (.bool b)) ?_,rfl⟩;rw[qmj];simp only[decide_eq_true_eq,qqs,false_iff];omega
abbrev Cv(g p:Int)(A:Option Addr)(n c:Nat):Value:= .agg #[.int .i64 g,.int .i64 p,.slice A n c]
theorem z8k{g p:Int}{E:List Int}{L:List zbi}(hg:1<=g/\g<=65536/\1<=p/\p<=65536/\E.length=L.length)(h:∀i,i<E.length->zvw (L.getD i ([],0,false)).2.1 (E.getD i 0)):zey g p E L=0:=by unfold zey;rw[if_neg (by simpa using hg),if_pos h]
theorem z3i{g p:Int}{E:List Int}{L:List zbi}(hg:1<=g/\g<=65536/\1<=p/\p<=65536/\E.length=L.length){i:Nat}(hi:i<E.length)(h: ¬zvw (L.getD i ([],0,false)).2.1 (E.getD i 0)):zey g p E L=3:=by unfold zey;rw[if_neg (by simpa using hg),if_neg (fun hh=>h (hh i hi))]
theorem z8l{g p:Int}{E:List Int}{L:List zbi}(hg: ¬(1<=g/\g<=65536/\1<=p/\p<=65536/\E.length=L.length)):zey g p E L=1:=by unfold zey;rw[if_pos hg]
theorem z3j{w:World}{A A2:Option Addr}{n c n2 c2:Nat}{g p:Int}{E:List Int}{L:List zbi}(h:Reads w w.heap.size 1 A n (zap .i64 E))(h2:Reads w w.heap.size 3 A2 n2 (recs zl3 L))(hn:n<=4611686018427387903):
 Calls Tryz.prog 49 #[Cv g p A n c,.slice A2 n2 c2] w (zak (.int .i64 (zey g p E L)) w):=by
 have l1:=h.lenI;have l2:=h2.lenC;have b0:New w (w.alloc (.cells #[.int .i64 g,.int .i64 p,.slice A n c] 59)):=(qq8 _ _).alloc (ql6 _) _;have B0:=qrv w 59 #[.int .i64 g,.int .i64 p,.slice A n c];obtain⟨x0,x1,x2⟩:=zar B0;have R1:=qrf (fun W=>zvx g W);have R2:=qrf (fun W=>zvx p W);by_cases hg:1<=g/\g<=65536/\1<=p/\p<=65536/\E.length=L.length
 ·rw[decide_eq_true (show 1<=g/\g<=65536 by omega)] at R1
  rw[decide_eq_true (show 1<=p/\p<=65536 by omega)] at R2;have K1:=qrf (fun hh=>z8k hg hh);have K2:=qrf (fun(i:Nat) (hi:i<n) hh=>z3i hg (i:=i) (by omega) hh);have hll:n2=n:=by omega
  have HL:=qrf l1;subst hll;generalize zey g p E L=O at*;have r1:=qsg h b0;have r2:=qsg h2 b0;clear hg B0 h h2 l1 l2;go_enter Tryz.func49,Tryz.ntmps49
  go_wp2_with (first
   |(go_at_call 84;(with_reducible refine(R1.out _).mono ?_);rintro e w1 ⟨rfl,rfl⟩)
   |(go_at_call 84;(with_reducible refine(R2.out _).mono ?_);rintro e w1 ⟨rfl,rfl⟩))
  clear x0 x1 x2 R1 R2;obtain⟨W0,hW0⟩:∃W,W=w.alloc (.cells #[.int .i64 g,.int .i64 p,.slice A n2 c] 59):=⟨_,rfl⟩;rw[<-hW0] at b0 r1 r2⊢;clear hW0;go_loopw [28] (fun i wr=>∃k:Nat,i= .int .i64 (k:Int)/\k<=n2/\W0=wr/\Hid (∀j,j<k->zvw (L.getD j ([],0,false)).2.1 (E.getD j 0))) (fun i _=>n2-(intOf i).toNat)
  case atStart=>exact⟨0,rfl,by omega,rfl,qrf (fun j hj=>by omega)⟩
  case round=>
   obtain⟨k,rfl,hk,rfl,H⟩:=hrel;by_cases hlt:k<n2
   ·obtain⟨ad,rfl,hb,hc⟩:=r1.int hlt
    obtain⟨ad2,rfl,hb2,hc0,hc1,hc2⟩:=r2.colT hlt;have K2:=qrf (K2.out k hlt);have N:=qrf (show zvw (L.getD k ([],0,false)).2.1 (E.getD k 0)-> ∀j,j<k+1->zvw (L.getD j ([],0,false)).2.1 (E.getD j 0) from fun hh j hj=>by
     by_cases e:j=k
     ·subst e;exact hh
     ·exact H.out j (by omega))
    generalize(L.getD k ([],0,false)).2.1=t at*;generalize E.getD k 0=e at*;generalize(L.getD k ([],0,false)).2.2=x3 at*;generalize(L.getD k ([],0,false)).1=x4 at*;have hiz:(k:Int)<(n2:Int):=by omega
    have F:=qrf (fun W=>zlk t e W);by_cases he:e= -1
    ·have N2:=qrf (N.out (.inl he))
     subst he;go_wp2
     go_roundw
     case rel=>exact⟨k+1,by go_num,by omega,trivial,N2⟩
     case measure=>simp[intOf];omega
    ·have e1:(e != -1)=true:=by simpa using he
     cases hf:fitsV t e
     ·have K3:=qrf (K2.out (fun hh=>by rcases hh with hh|hh;exact he hh;rw[hf] at hh;cases hh))
      rw[hf] at F;clear hf he;go_wp2_with (go_at_call 85;(with_reducible refine(F.out _).mono ?_);rintro e w1 ⟨rfl,rfl⟩)
      go_ret
      exact⟨by rw[K3.out];rfl,b0⟩
     ·have N2:=qrf (N.out (.inr hf))
      rw[hf] at F;clear hf he;go_wp2_with (go_at_call 85;(with_reducible refine(F.out _).mono ?_);rintro e w1 ⟨rfl,rfl⟩)
      go_roundw
      case rel=>exact⟨k+1,by go_num,by omega,trivial,N2⟩
      case measure=>simp[intOf];omega
   ·have K3:=qrf (K1.out (fun i hi=>H.out i (by have:=HL.out;omega)))
    go_wp2
    go_ret
    exact⟨by rw[K3.out];rfl,b0⟩
 ·have K:=qrf (z8l hg)
  generalize zey g p E L=O at*;by_cases h1:1<=g/\g<=65536;all_goals try(rw[decide_eq_true h1] at R1)
  all_goals try(rw[decide_eq_false h1] at R1)
  all_goals try(by_cases h2:1<=p/\p<=65536)
  all_goals try(rw[decide_eq_true h2] at R2)
  all_goals try(rw[decide_eq_false h2] at R2)
  all_goals try(have d2:((n:Int) != (n2:Int))=true:=by simp;omega)
  all_goals
   clear hg B0 l1 l2 h1;go_enter Tryz.func49,Tryz.ntmps49
   go_wp2_with (first
    |(go_at_call 84;(with_reducible refine(R1.out _).mono ?_);rintro e w1 ⟨rfl,rfl⟩)
    |(go_at_call 84;(with_reducible refine(R2.out _).mono ?_);rintro e w1 ⟨rfl,rfl⟩))
   go_ret
   exact⟨by rw[K.out];rfl,b0⟩
theorem elP:ElT Tryz.prog 108 111 (.agg #[.int .i64 0,.int .i64 0]) 2 16:=⟨by kernel_rfl,by kernel_rfl,rfl,by omega⟩
def z8t(l:List (Int × Int))(w:World)(e:Ending)(w':World):Prop:=∃A n c,e= .returned (.slice A n c)/\w'.ownsRow w.heap.size 111 2 (.slice A n c) n (zdu l)/\New w w'
theorem z3p(l:List (Int × Int))(p:Int × Int):zdu (l++[p])=zdu l++[.int .i64 p.1,.int .i64 p.2]:=by simp[zdu]
theorem z07(f t s:Int)(h1: -9223372036854775808<=f)(h2:t<=9223372036854775807)(h3:s<=9223372036854775807)(w:World):
 Calls Tryz.prog 50 #[.int .i64 f,.int .i64 t,.int .i64 s] w (z8t (zd5 f t s) w):=by
 by_cases hg:f<0\/t<=f\/65536<t\/s<1
 ·rw[zvv hg]
  by_cases g1:f<0;all_goals try(have d1:decide (f<0)=false:=by simpa using g1)
  all_goals try(by_cases g2:t<=f)
  all_goals try(have d2:decide (t<=f)=false:=by simpa using g2)
  all_goals try(by_cases g3:65536<t)
  all_goals try(have d3:decide (65536<t)=false:=by simpa using g3)
  all_goals try(have g4:s<1:=by omega)
  all_goals
   clear hg;go_enter Tryz.func50,Tryz.ntmps50
   go_wp2
   go_ret
   exact⟨_,_,_,rfl,zdx,qrz _⟩
 ·obtain⟨f,rfl⟩:=qn1 (show 0<=f by omega)
  obtain⟨t,rfl⟩:=qn1 (show 0<=t by omega);obtain⟨s,rfl⟩:=qn1 (show 0<=s by omega);have k1:f<t:=by omega
  have k2:t<=65536:=by omega
  have k3:0<s:=by omega
  have k4:s<=9223372036854775807:=by omega
  rw[z02 k1 k2 k3];have d1:decide ((f:Int)<0)=false:=by simp
  have d2:decide (t<=f)=false:=by simp;omega
  have d3:decide ((65536:Int)<(t:Int))=false:=by simp;omega
  have d4:decide ((s:Int)<1)=false:=by simp;omega
  have hN:=z00 (f:=f) (t:=t) k3;clear hg h1 h2 h3;go_enter Tryz.func50,Tryz.ntmps50
  go_wp2
  go_loopw [7,8] (fun v i wr=>∃(k:Nat) (A:Option Addr) (c:Nat),k<=zh8 f t s/\i= .int .i64 ((atN f t s k:Nat):Int)/\v= .slice A k c/\wr.ownsRow w.heap.size 111 2 (.slice A k c) k (zdu ((zgw f t s).take k))/\New w wr) (fun _ i _=>t-(intOf i).toNat)
  case atStart=>exact⟨0,none,0,by omega,by congr 1;unfold atN;simp;omega,rfl,zdx,qrz _⟩
  case round=>
   obtain⟨k,A,c,hk,rfl,rfl,o,b⟩:=hrel;have L:=zgx (f:=f) (t:=t) k3 k;by_cases hlt:k<zh8 f t s
   ·obtain⟨e1,e2,e3⟩:=z01 (L.1 hlt)
    have T:=qrf (zpr hlt);have E3:=qrf e3;have hp:atN f t s k<t:=by have:=L.1 hlt;omega
    clear L e1 e3;have HE2:=qrf e2;clear e2;generalize atN f t s k=p at*;generalize hq:atN f t s (k+1)=q at*;have HQ:=qrf hq;have e2:=HE2.out;have z0:=b.size;have hk6:k<=65536:=by omega
    by_cases hm:t-p<s;all_goals
     first
     |(have m2:(p:Int)+((t-p:Nat):Int)=(q:Int):=by have:=HE2.out;omega)
     |(have m2:(p:Int)+(s:Int)=(q:Int):=by have:=HE2.out;omega)
     have mq:p<q/\q<=t:=by have:=HE2.out;omega
     have M2:=qrf m2;clear m2
     go_wp2_with (refine zdy elP rfl (.tmp 36) (.tmp 40) rfl (W:=w) (B:=w.heap.size) (base:=w.heap.size) (n:=k) o rfl rfl b (ql6 _) z0 rfl (by simp[Value.oneCell']) (by omega) (by simp only[maxLen];omega) ?_
                  intro A' c' w' _ _ o' g' b' _ _)
     go_roundw
     case rel=>
      have e2:=HE2.out;refine⟨k+1,A',c',by omega,by rw[HQ.out];congr 1<;> omega,rfl,?_,b'⟩;rw[T.out,z3p,E3.out];first
       |(rw[show(p:Int)+((t:Int)-(p:Int))=(q:Int) by omega] at o';exact o')
       |(rw[show(p:Int)+min (s:Int) ((t:Int)-(p:Int))=(q:Int) by omega] at o';exact o')
       |(rw[show(p:Int)+(s:Int)=(q:Int) by omega] at o';exact o')
     case measure=>simp[intOf];omega
   ·have hk2:k=zh8 f t s:=by omega
    have hp:atN f t s k=t:=by
     have: ¬f+k*s<t:=fun hh=>hlt (L.2 hh)
     unfold atN;omega
    rw[hp] at*;have HK:=qrf hk2;have HO:=qrf o;clear hk2 L hp o;go_wp2
    go_ret
    exact⟨_,_,_,rfl,by have o:=HO.out;rw[HK.out,qm0 (by rw[zgb];omega)] at o;rw[HK.out];exact o,b⟩
end Go.Proofs.Y
namespace Go.Hm
open Go
theorem z8y(b:Bool):decide (boolN b=1)=b:=by cases b<;> decide
def z8z(s:List Nat)(p q:Nat × St):zbi × St:=((s,(p.1:Int),decide (q.1=1)),if 1<q.1 then none else q.2)
theorem z1a(S:St):zt4 S=z8z (ze6 ((lenS 100 S).1:Int) (lenS 100 S).2).1 (zcn (ze6 ((lenS 100 S).1:Int) (lenS 100 S).2).2) (zcn (zcn (ze6 ((lenS 100 S).1:Int) (lenS 100 S).2).2).2):=rfl
theorem qdo(c:zbi)(r:List Nat)(h1:c.1.length<=100)(h2:0<=c.2.1):zt4 (some (z3o c++r))=(c,some r):=by
 obtain⟨nm,t,u⟩:=c;simp only at h1 h2;obtain⟨t,rfl⟩:=qn1 h2;have e0:z3o (nm,(t:Int),u)++r=vp nm.length++(nm++(t::boolN u::r)):=by simp[z3o]
 have e1:=zea nm.length (nm++(t::boolN u::r)) (m:=100) (by omega) (by omega);rw[z1a,e0,e1];simp only;rw[zo5];have e2:zcn (some (t::boolN u::r))=(t,some (boolN u::r)):=rfl;have e3:zcn (some (boolN u::r))=(boolN u,some r):=rfl;simp only[e2,e3];unfold z8z;simp only;rw[if_neg (by cases u<;> decide),z8y]
theorem zwd:∀(l:List zbi) (r:List Nat),(∀c∈l,c.1.length<=100/\0<=c.2.1)->ze0 l.length (some (zkl l++r))=(l,some r)
 | [],r,_=>rfl
 |c::l,r,h=>by
  have hc:=h c (by simp);have e:zkl (c::l)++r=z3o c++(zkl l++r):=by simp[zkl]
  rw[e,qm9,ze0,qdo c _ hc.1 hc.2,zwd l r (fun x hx=>h x (by simp[hx]))]
theorem qdp(l:List zbi)(r:List Nat)(h:zc7 l=0):getC (some (vp l.length++zkl l++r))=(l,some r):=by obtain⟨h1,h2,_⟩:=(zez l).1 h;unfold getC;rw[qmi,zea l.length (zkl l++r) (m:=64) (by omega) (by omega)];simp only;rw[zwd l r (fun c hc=>⟨(h2 c hc).2.1,(h2 c hc).2.2.1⟩)];rw[if_neg (by simp[h])]
theorem zr5{S:St}{b:Nat}{r:List Nat}(h:zcn S=(b,some r)):S=some (b::r):=by
 unfold zcn at h;split at h
 ·simp only[qlk,qll] at h
  rw[h.1,h.2]
 ·simp at h
theorem z80{S:St}{c:zbi}{r:List Nat}(hS:S.ok)(h:zt4 S=(c,some r)):S=some (z3o c++r):=by
 rw[z1a] at h;rcases zdq 100 S hS with h0|⟨N,r1,h0,hN,_,h1⟩
 ·rw[h0] at h
  simp[z2s,zmh,z8z] at h
 ·rw[h1] at h
  simp only at h;rcases zfi (N:Int) (some r1) with h2|⟨l,hl,_,h3,h2⟩
  ·rw[h2] at h
   simp[zmh,z8z] at h
  ·rw[h2] at h
   injection hl with hl;subst hl;simp only[qmt] at h;generalize hb1:zcn (some (r1.drop N))=B1 at*;obtain⟨t,S3⟩:=B1;simp only at h;generalize hb2:zcn S3=B2 at*;obtain⟨u,S4⟩:=B2;unfold z8z at h;simp only[qlk] at h;obtain⟨hc,hr⟩:=h;split at hr
   ·cases hr
   ·rename_i hu
    subst hr;have e2:=zr5 hb2;subst e2;have e1:=zr5 hb1;injection e1 with e1;rw[h0];subst hc;have hlen:(r1.take N).length=N:=by rw[ql2];omega
    have hbu:boolN (decide (u=1))=u:=by
     have:u=0\/u=1:=by omega
     rcases this with rfl|rfl<;> rfl
    unfold z3o;simp only[hlen,qmt,hbu];rw[qmi,qmi];congr 2
    rw[show [t,u]++r=r1.drop N by rw[e1];rfl,qoz]
theorem zr6:∀(n:Nat) {S:St} {l:List zbi} {r:List Nat},S.ok->ze0 n S=(l,some r)->S=some (zkl l++r)
 |0,S,l,r,_,h=>by
  simp only[ze0,qlk] at h;obtain⟨rfl,rfl⟩:=h;rfl
 |n+1,S,l,r,hS,h=>by
  rw[ze0] at h;have hok:=zyt hS;generalize hc:zt4 S=R at*;obtain⟨c,S1⟩:=R;simp only at h hok;generalize hd:ze0 n S1=R2 at*;obtain⟨l2,S2⟩:=R2;simp only[qlk] at h;obtain⟨rfl,rfl⟩:=h;have e:=zr6 n hok hd;subst e;rw[z80 hS hc];simp[zkl]
theorem zhq{S:St}{l:List zbi}{r:List Nat}(hS:S.ok)(h:getC S=(l,some r)):zc7 l=0/\S=some (vp l.length++zkl l++r):=by
 unfold getC at h;rcases zdq 64 S hS with h0|⟨N,r1,h0,hN,_,h1⟩
 ·rw[h0] at h
  simp[ze0] at h
 ·rw[h1] at h
  simp only at h;split at h
  ·simp at h
  ·rename_i hn
   have hok:St.ok (some r1):=qsq fun x hx=>hS _ h0 x (by simp[hx])
   have e:=zr6 N hok h;injection e with e;have hl:l.length=N:=by rw[<-zlu N (some r1),h]
   rw[h] at hn;refine⟨?_,?_⟩
   ·by_cases hk:zc7 l=0
    ·exact hk
    ·exact absurd (.inr hk) hn
   ·rw[h0,hl,e,qmi]
theorem z81{S:St}{l:List zbi}(h:getC S=(l,none)):l=[]:=by
 unfold getC at h;split at h
 ·simp at h;exact h
 ·rename_i hn
  rw[h] at hn;simp at hn
theorem z82(n:Nat):∀x∈vp n,x<256:=by
 induction n using Nat.strongRecOn with
 |_ n ih=>
  intro x hx;by_cases hn:n<128
  ·rw[zgd hn] at hx
   simp at hx;omega
  ·rw[zge hn,qnu] at hx
   rcases hx with rfl|hx
   ·omega
   ·exact ih (n/128) (by omega) x hx
theorem z83(l:List zbi)(h:∀x∈l,(∀z∈x.1,z<256)/\0<=x.2.1/\x.2.1<=3):∀x∈vp l.length++zkl l,x<256:=by
 intro x hx;rcases qnd.1 hx with hx|hx
 ·exact z82 _ x hx
 ·unfold zkl at hx
  obtain⟨y,hy,hx⟩:=qov.1 hx;obtain⟨h1,h2,h3⟩:=h y hy;unfold z3o at hx;simp only[qnd,qnu,qpt,or_false] at hx;rcases hx with(hx|hx)|hx|hx
  ·exact z82 _ x hx
  ·exact h1 x hx
  ·omega
  ·subst hx;cases y.2.2<;> decide
open Go Go.RowKit
theorem IsStat.near{t:Int}{l:List zab}{s:zdl}(h:IsStat t l s)(hl:∀c∈l,near c):near s.2.2.1/\near s.2.2.2:=by
 cases hh:s.2.1 with
 |false=>
  obtain⟨e1,e2⟩:=h.none hh;rw[e1,e2];exact⟨qi8,qi8⟩
 |true=>exact⟨hl _ (h.least hh).1.1,hl _ (h.most hh).1.1⟩
end Go.Hm
namespace Go.Proofs.Y
open Go.RowKit Go.Hm
def qef(t:Int)(L:List zab)(w:World)(e:Ending)(w':World):Prop:=∃s,e= .returned (zcp s)/\IsStat t L s/\New w w'
theorem qjn{w:World}{t:Int}{A:Option Addr}{n c:Nat}{L:List zab}(h:Reads w w.heap.size 5 A n (recs za4 L))(hL:∀y∈L,near y)(hn:n<=100000):
 Calls Tryz.prog 109 #[.int .i64 t,.slice A n c] w (qef t L w):=by
 obtain rfl:=h.lenCell;have HR:=qrf h;have HN:=qrf hL;clear h hL;have B0:Blk ((w.alloc (.cells (zcj zb7).toArray 133)).alloc (.cells (zcj zb7).toArray 133)) w.heap.size 133 (zcj zb7).toArray:=(qrv _ _ _).alloc _;have B1:Blk ((w.alloc (.cells (zcj zb7).toArray 133)).alloc (.cells (zcj zb7).toArray 133)) (w.heap.size+1) 133 (zcj zb7).toArray:=by have:=qrv (w.alloc (.cells (zcj zb7).toArray 133)) 133 (zcj zb7).toArray;simpa using this
 have hb0:=zx4 w (.cells (zcj zb7).toArray 133) (.cells (zcj zb7).toArray 133);have HB0:=qrf B0;have HB1:=qrf B1;have Hb0:=qrf hb0;clear B0 B1 hb0;go_enter Tryz.func109,Tryz.ntmps109
 go_wp2_with fail
 go_loopw [10] (fun i wr=>∃(k:Nat) (s:zdl),k<=L.length/\i= .int .i64 (k:Int)/\Blk wr (w.heap.size+1) 133 (zcj s).toArray/\Blk wr w.heap.size 133 (zcj zb7).toArray/\New w wr/\Hid (IsStat t (L.take k) s)) (fun i _=>L.length-(intOf i).toNat)
 case atStart=>exact⟨0,zb7,ql7 _,rfl,HB1.out,HB0.out,Hb0.out,qrf (zrv t)⟩
 case round=>
  obtain⟨k,s,hk,rfl,B1,B0,hW,hs⟩:=hrel;clear HB0 HB1 Hb0;by_cases hlt:k<L.length
  ·obtain⟨ad,rfl,hb,d0,d1,d2,d3,d4⟩:=(qsg HR.out hW).cell5 hlt
   have hst:=hs.out;have htk:=zae L k (false,0,[],0,0) hlt;have hnr:=hst.near (fun c hc=>HN.out c (qmu hc));have hnl:=hst.nulls;have hnl2:=ziz (L.take k);rw[ql2] at hnl2;have hy:near (L.getD k (false,0,[],0,0)):=HN.out _ (by rw[qnp,qlx hlt];exact qml hlt);have hone:=zrw t (L.getD k (false,0,[],0,0));have hnx:=hst.merge hone;rw[<-htk] at hnx;have hnr2:=hone.near (fun c hc=>by rw[qne.1 hc];exact hy);have hno:=hone.nulls;have hno2:=ziz [L.getD k (false,0,[],0,0)];rw[qp7] at hno2;have M:=fun(W:World)=>z77 (w:=W) (t:=t) hnr.1 hnr.2 hnr2.1 hnr2.2 (by omega) (by omega)
   clear htk hy hone hnl hnl2 hno hno2 hnr hnr2 hst hs;generalize L.getD k (false,0,[],0,0)=y at*;obtain⟨y0,y1,y2,y3,y4⟩:=y;dsimp only at d0 d1 d2 d3 d4;obtain⟨V1,hV⟩:∃V,V=zcp (zkb (y0,y1,y2,y3,y4)):=⟨_,rfl⟩;have S1:Hid (∀W,Calls Tryz.prog 130 #[.agg #[.bool y0,.int .i64 y1,.string (zai y2),.int .i64 y3,.int .i64 y4]] W (zak V1 W)):=qrf fun W=>by rw[hV];exact z3c (y0,y1,y2,y3,y4)
   rw[<-hV] at M;generalize zne t s (zkb (y0,y1,y2,y3,y4))=s2 at*;obtain⟨n,b,⟨p1,p2,p3,p4,p5⟩,⟨q1,q2,q3,q4,q5⟩⟩:=s;obtain⟨n',b',⟨p1',p2',p3',p4',p5'⟩,⟨q1',q2',q3',q4',q5'⟩⟩:=s2;have M1:Hid (∀W,Calls Tryz.prog 129 #[.int .i64 t,.agg #[.int .i64 n,.bool b,.bool p1,.int .i64 p2,.string (zai p3),.int .i64 p4,.int .i64 p5,.bool q1,.int .i64 q2,.string (zai q3),.int .i64 q4,.int .i64 q5],V1] W
    (zak (.agg #[.int .i64 n',.bool b',.bool p1',.int .i64 p2',.string (zai p3'),.int .i64 p4',.int .i64 p5',.bool q1',.int .i64 q2',.string (zai q3'),.int .i64 q4',.int .i64 q5']) W)):=qrf M
   clear M hV;have HNX:=qrf hnx;clear hnx;have hsz:=hW.size;have F:Hid (∀W,New (wr.alloc (.cells #[.bool y0,.int .i64 y1,.string (zai y2),.int .i64 y3,.int .i64 y4] 75)) W->Blk W (w.heap.size+1) 133 #[.int .i64 n,.bool b,.bool p1,.int .i64 p2,.string (zai p3),.int .i64 p4,.int .i64 p5,.bool q1,.int .i64 q2,.string (zai q3),.int .i64 q4,.int .i64 q5]
    /\Blk W w.heap.size 133 (zcj zb7).toArray/\New w W/\Blk W wr.heap.size 75 #[.bool y0,.int .i64 y1,.string (zai y2),.int .i64 y3,.int .i64 y4]):=qrf fun W hN=>
    ⟨(B1.alloc _).below hN (by have:=B1.lt;simp;omega),(B0.alloc _).below hN (by have:=B0.lt;simp;omega),qr0 hW (qr0 ((qq8 _ _).alloc (ql6 _) _) hN),(qrv _ _ _).below hN (by simp)⟩
   clear B0 B1;go_wp2_with fail
   refine zcf New 5 [(1,0),(0,1),(0,2),(2,3),(2,4),(2,5)] qrz qr0 (by kernel_rfl) (by kernel_rfl) (by kernel_rfl) (by kernel_rfl) ?_;have hU:=qr1 (wr.alloc (.cells #[.bool y0,.int .i64 y1,.string (zai y2),.int .i64 y3,.int .i64 y4] 75));repeat(first
    |(refine zbl rfl rfl (fun K hK=>?_);go_simp
      (with_reducible refine(S1.out _).mono ?_);rintro e w6 ⟨rfl,b6⟩
      refine hK _ _ (.inr (.inr b6)) ?_;clear hK;replace hU:=qr0 hU b6)
    |(refine zbl rfl rfl (fun K hK=>?_);go_simp
      (with_reducible refine(M1.out _).mono ?_);rintro e w7 ⟨rfl,b7⟩
      refine hK _ _ (.inr (.inr b7)) ?_;clear hK;replace hU:=qr0 hU b7)
    |(refine zbl rfl rfl (fun K hK=>?_)
      obtain⟨B1,B0,hl,-⟩:=F.out _ hU;refine z68 133 (.tmp 5) (.tmp 18) rfl (w.heap.size+1) _ rfl rfl B1 (by kernel_rfl) (by simp) (by simp[Value.oneCell']) ?_;intro W5 B1 hlow hfar;replace B0:=hfar _ _ _ (by omega) B0;replace hl:=hlow _ _ hl (by omega);refine hK _ _ (.inr (.inl rfl)) ?_;clear hK hlow hfar)
    |(refine zb2 rfl rfl (v:=?_) (fun W=>?_) ?_;rotate_left;(go_simp<;> with_reducible rfl);simp only[Act.put,qoi,qn8,qoj])
    |(refine zco rfl rfl (v:=?_) (fun W hQ=>?_) ?_;rotate_left;(obtain⟨B1,-,-,BY⟩:=F.out W (qr0 hU hQ);obtain⟨x0,x1,x2,x3,x4,x5,x6,x7,x8,x9,x10,x11⟩:=zbh B1;obtain⟨z0,z1,z2,z3,z4⟩:=zc4 BY;clear B1 BY;go_simp<;> with_reducible rfl);simp only[Act.put,qoi,qn8,qoj]))
   refine zfd ?_;go_wp2_with fail
   go_roundw
   case rel=>exact⟨k+1,(n',b',(p1',p2',p3',p4',p5'),(q1',q2',q3',q4',q5')),by omega,by go_num,B1,B0,hl,HNX⟩
   case measure=>simp[intOf];omega
  ·obtain rfl:k=L.length:=by omega
   have hs2:=hs.out;rw[qp1] at hs2;have HS:=qrf hs2;clear hs hs2;obtain⟨n,b,⟨p1,p2,p3,p4,p5⟩,⟨q1,q2,q3,q4,q5⟩⟩:=s;obtain⟨x0,x1,x2,x3,x4,x5,x6,x7,x8,x9,x10,x11⟩:=zbh B1
   go_wp2_with (refine zh5 rfl 133 (.tmp 4) (.tmp 20) rfl w.heap.size _ rfl rfl B0 (by kernel_rfl) (by simp[zcj,zb7,za4]) (by simp[Value.oneCell']) ?_
                intro W5 BR hlow hfar;have hl:=hlow _ _ hW (ql6 _);clear hfar hlow;obtain⟨s0,s1,s2,s3,s4,s5,s6,s7,s8,s9,s10,s11⟩:=zbh BR)
   exact bodyPost_ret (v:=zcp (n,b,(p1,p2,p3,p4,p5),(q1,q2,q3,q4,q5))) (by simp[results,Tryz.results109,go_sem,s0,s1,s2,s3,s4,s5,s6,s7,s8,s9,s10,s11,zcp,zcj,za4]) rfl ⟨_,rfl,HS.out,hl⟩
end Go.Proofs.Y
