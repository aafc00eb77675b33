/- Merged. -/
import Derived.Lib.AppendZeros
import Derived.Test.YtbahbnbpmfgimaaGreatDoorBun13
set_option maxHeartbeats 2000000
namespace Go.Proofs.Y
open Go.RowKit Go.Hm
def CurS(w:World)(g:Nat)(S:St):Prop:=Cur w g (S.getD []) S.isNone
section
variable{w w':World}{g:Nat}{S:St}
theorem CurS.lt(h:CurS w g S):g<w.heap.size:=Cur.lt h
theorem CurS.below(h:CurS w g S)(hb:Below w.heap.size w w'):CurS w' g S:=Cur.below h hb
theorem CurS.keep{g':Nat}{t:TypeId}{cs:Array Value}(h:CurS w g S)(hg:w.grownBy w' (some g'))(hT:Blk w g' t cs)(hne:g≠g')(ht:5≠t):CurS w' g S:=Cur.keep h hg hT hne ht
theorem CurS.blk(h:CurS w g S):∃cs,Blk w g 180 cs:=Cur.blk h
theorem CurS.push{e:TypeId}{base:Nat}{v:Value}{xs:List Value}(h:CurS w g S)(o:Own w base e v xs)(hg:w.grownBy w' v.ownBlock)(he1:e≠180)(he2:5≠e):CurS w' g S:=by
 cases hv:v.ownBlock with
 |none=>
  rw[hv] at hg;exact h.below ((Turns.of_none (T:=[]) hg).new (by simp))
 |some g'=>
  obtain⟨cs,hB⟩:=o.row g' hv;rw[hv] at hg;obtain⟨cs2,hC⟩:=h.blk;exact h.keep hg hB (fun e'=>by subst e';exact Blk.ne_ hB hC he1 rfl) he2
theorem CurS.ok(h:CurS w g S):S.ok:=by intro l e;subst e;exact Cur.lt8 h
theorem CurS.of{l:List Nat}(h:Cur w g l false):CurS w g (some l):=h
theorem CurS.len(h:CurS w g S):(S.getD []).length<=9223372036854775807:=by have:=Cur.len h;unfold maxLen at this;omega
end
def z7n(e0:Ending)(g:Nat)(S:St)(w:World)(e:Ending)(w':World):Prop:=e=e0/\CurS w' g S/\w.grownBy w' (some g)
theorem zo1{w:World}{g:Nat}{S:St}(h:CurS w g S):Calls Tryz.prog 116 #[.pointer (some ⟨g,0,none⟩)] w (z7n (.returned (.tuple #[])) g none w):=zht h
theorem qfq{w:World}{g:Nat}{S:St}(h:CurS w g S):Calls Tryz.prog 98 #[.pointer (some ⟨g,0,none⟩)] w (zsv S.isNone w):=zj7 h
theorem zla{w:World}{g:Nat}{S:St}(h:CurS w g S):Calls Tryz.prog 100 #[.pointer (some ⟨g,0,none⟩)] w (zsv (qcu S) w):=by
 have:=qg9 h;have e:qcu S=(!S.isNone&&(S.getD []).isEmpty):=by
  cases S with
  |none=>rfl
  |some l=>cases l<;> simp[qcu]
 rw[e];exact this
theorem qlb{w:World}{g:Nat}{S:St}(h:CurS w g S):Calls Tryz.prog 168 #[.pointer (some ⟨g,0,none⟩)] w (zsu (S.getD []) w):=qci h
theorem zis{w:World}{g:Nat}{S:St}(h:CurS w g S):Calls Tryz.prog 137 #[.pointer (some ⟨g,0,none⟩)] w (z7n (.returned (.int .u8 ((zcf S).1:Int))) g (zcf S).2 w):=by
 cases S with
 |none=>exact znm h (.inl rfl)
 |some l=>
  cases l with
  |nil=>exact znm h (.inr (by simp))
  |cons b r=>exact z0h h
def qlc(x:List Nat)(g:Nat)(S:St)(w:World)(e:Ending)(w':World):Prop:=
 ∃A n c,e= .returned (.slice A n c)/\n=x.length/\Own w' w.heap.size 5 (.slice A n c) (zan .u8 x)/\CurS w' g S/\w.grownBy w' (some g)
theorem zo2{w:World}{g:Nat}{n:Int}{S:St}(h:CurS w g S)(h0: -9223372036854775808<=n)(h1:n<=140737488355328):Calls Tryz.prog 136 #[.pointer (some ⟨g,0,none⟩),.int .i64 n] w (qlc (zeq n S).1 g (zeq n S).2 w):=by
 rcases ze4 n S with hc|⟨l,rfl,h2,h3,hc⟩
 ·rw[hc]
  have hb:S.isNone=true\/n<0\/((S.getD []).length:Int)<n:=by
   unfold zeq at hc;cases S with
   |none=>exact .inl rfl
   |some l=>
    simp only at hc;split at hc
    ·simp at hc
    ·rename_i hh
     simp only[qob];omega
  refine(qcm h hb h0 (by omega)).mono ?_;rintro e w' ⟨rfl,k1,k2⟩;exact⟨none,0,0,rfl,rfl,Own.nil_,k1,k2⟩
 ·rw[hc]
  obtain⟨m,rfl⟩:=qon h2;simp only[qng];have hm:m<=l.length:=by omega
  refine(z6w (l:=l) (n:=m) h hm (by omega)).mono ?_;rintro e w' ⟨A,c,rfl,k1,k2,k3⟩;exact⟨A,m,c,rfl,by rw[qmq];omega,k1,k2,k3⟩
theorem z0q{w:World}{g:Nat}{S:St}(h:CurS w g S):Calls Tryz.prog 117 #[.pointer (some ⟨g,0,none⟩)] w (z7n (.returned (.int .u64 ((zql S).1:Int))) g (zql S).2 w):=by
 rcases hc:zql S with⟨v,T⟩;have hok:=h.ok;cases S with
 |none=>
  simp only[zql,qmi] at hc;obtain⟨rfl,rfl⟩:=hc;exact z7m h (.inl rfl)
 |some l=>
  simp only[zql] at hc;split at hc
  ·rename_i N r hg
   obtain⟨h1,h2⟩:=zx7 (hok l rfl) hg;simp only[qmi] at hc;obtain⟨rfl,rfl⟩:=hc;subst h1;exact zyh h h2
  ·rename_i hg
   simp only[qmi] at hc;obtain⟨rfl,rfl⟩:=hc;exact z7m h (.inr (qhe hg))
theorem zdt{w:World}{g:Nat}{m:Int}{S:St}(h:CurS w g S)(hm0: -9223372036854775808<=m)(hm:m<=9223372036854775807):Calls Tryz.prog 97 #[.pointer (some ⟨g,0,none⟩),.int .i64 m] w (z7n (.returned (.int .i64 ((lenS m S).1:Int))) g (lenS m S).2 w):=by
 have hok:=h.ok;by_cases hg:∃N r,S=some (vp N++r)/\(N:Int)<=m
 ·obtain⟨N,r,rfl,hN⟩:=hg
  rw[zds N r hN hm];exact qhq h hN hm
 ·have e:lenS m S=(0,none):=by
   rcases zdf m S hok with h1|⟨N,r,h1,h2,_,_⟩
   ·exact h1
   ·exact absurd ⟨N,r,h1,h2⟩ hg
  rw[e];refine qjr h ?_ hm0 hm;cases S with
  |none=>exact .inl rfl
  |some l=>
   refine .inr fun N r hl=>?_
   simp only[qob] at hl;subst hl;rcases Int.lt_or_le m N with h1|h1
   ·exact h1
   ·exact absurd ⟨N,r,rfl,h1⟩ hg
end Go.Proofs.Y
namespace Go.Hm
open Go Go.RowKit
theorem zwe{P:Program}{w:World}{ops:Array Oper}{rest:List Oper}{o:Oper}{a:Act}{Q:Exit->Act->World->Prop}{t e tn:TypeId}{z:Value}{bytes:Nat}{kn:IntKind}(E:ElT P t e z 1 bytes)(hgd:o.guard=none)(s x:Operand)
 (ho:o.op= .call {callee:= .builtin .append,args:= #[s,x],argTypes:= #[t,tn]})(htn:P.underlying tn=some (.int kn))(hz1:z.oneCell'=true)(hs:a.eval s= .slice none 0 0)(n:Nat)(hx:a.eval x= .int .i64 (n:Int))(h0:0<n)(hn:n*bytes<=140737488355328)(hm:n<=maxLen)
 (h:∀w' cap,n<=cap->cap<=maxLen->w'.ownsRow w.heap.size e 1 (.slice (some ⟨w.heap.size,0,none⟩) 0 cap) 0 []->Below w.heap.size w w'->wpList P ops Q rest (a.put o.dst (.slice (some ⟨w.heap.size,0,none⟩) n cap)) w'):
 wpList P ops Q (o::rest) a w:=by
 obtain⟨i,hi,hz0,hs1,hb1⟩:=info_parts E.hi;have hzc:z.cells= #[z]:=by
  revert hz1;unfold Value.oneCell' Value.cells
  cases z<;> simp
 have hsm:n<=9223372036854775807:=by simp only[maxLen] at hm;omega
 refine Lib.wpList_append_run w hgd s x t tn ho _ _ hs hx _ _ (Lib.run_append_nil_zeros w t tn o.type e i z .i64 kn E.ht htn hi hz0 n h0 (by omega) (by omega) (by rw[hb1];omega)) ?_;refine h _ _ (grownCap_ge w n 0 e) (grownCap_le_maxLen w n 0 e hm) ⟨rfl,.inr ⟨w.heap.size,_,_,rfl,qmt _,heap_alloc_new w.drew _,qmu _,grownCap_le_maxLen w n 0 e hm,?_,by simp⟩⟩ ⟨rfl,rfl,rfl,by simp,fun k hk=>heap_alloc_old w.drew _ hk⟩;have:=grownCap_ge w n 0 e;simp only[Array.size_append,size_zeroCells,hzc];simp;omega
open Go Go.RowKit
abbrev ziy:=Option Addr × Nat × List Nat
def zie(d:ziy):List Value:=[.slice d.1 d.2.2.length d.2.1]
theorem z1i(d:ziy):(zie d).length=1:=rfl
def BytIn(w:World)(d:ziy):Prop:=Reads w w.heap.size 1 d.1 d.2.2.length (zan .u8 d.2.2)
theorem BytIn.later{w w':World}{d:ziy}(h:BytIn w d)(hb:New w w'):BytIn w' d:=Reads.later h hb
def zc5(D:List ziy):List Nat:=D.flatMap fun d=>d.2.2
theorem z37(D:List ziy)(d:ziy):zc5 (D++[d])=zc5 D++d.2.2:=by simp[zc5]
theorem zr5{D:List ziy}{k:Nat}(hk:k<D.length):zc5 (D.take (k+1))=zc5 (D.take k)++(D.getD k (none,0,[])).2.2:=by rw[zad _ k (none,0,[]) hk,z37]
theorem zlr(D:List ziy)(k:Nat):(zc5 (D.take k)).length<=(zc5 D).length:=by
 have e:zc5 D=zc5 (D.take k)++zc5 (D.drop k):=by unfold zc5;rw[<-qp8,qpl]
 rw[e,qni];omega
theorem z9b{w:World}{B:Nat}{A:Option Addr}{n:Nat}{D:List ziy}(h:Reads w B 1 A n (recs zie D)){k:Nat}(hk:k<D.length):
 ∃ad,A=some ad/\ad.block<B/\w.cell? (ad.add k)=some (.slice (D.getD k (none,0,[])).1 (D.getD k (none,0,[])).2.2.length (D.getD k (none,0,[])).2.1):=by
 have hn:n=D.length:=by have:=h.1;rw[zau (sz:=1) (fun _=>rfl)] at this;omega
 obtain⟨ad,u,e,hb,hu,hc⟩:=h.at_ (k:=k) (by omega);have:=zog (f:=zie) (sz:=1) (fun _=>rfl) D (none,0,[]) k 0 hk (by omega);rw[qm0,qp4] at this;rw[this] at hu;obtain rfl:=qmh hu;exact⟨ad,e,hb,hc⟩
end Go.Hm
namespace Go.Proofs.Y
open Go.RowKit Go.Hm
theorem ql6:Tryz.prog.underlying 3=some (.int .i64):=by kernel_rfl
theorem z9c{w:World}{n:Nat}(hn:n<=140737488351232):
 Calls Tryz.prog 92 #[.slice none 0 0,.int .i64 (n:Int)] w (fun e w'=>∃A c,e= .returned (.slice A 0 c)/\w'.ownsRow w.heap.size 5 1 (.slice A 0 c) 0 []/\New w w'):=by
 by_cases h0:n=0
 ·subst h0
  go_enter Tryz.func92,Tryz.ntmps92
  go_wp2_with fail
  go_ret
  exact⟨none,0,rfl,World.ownsRow_nil _ _ _ _,New.refl _⟩
 ·have h1: ¬((n:Int)<0):=by omega
  have h2:(0:Int)<(n:Int):=by omega
  have h3:wrap64 ((n:Int)-0)=(n:Int):=by unfold wrap64;omega
  have h4:wrap64 (n:Int)=(n:Int):=by unfold wrap64;omega
  go_enter Tryz.func92,Tryz.ntmps92
  go_wp2_with (refine zwe elB rfl (.tmp 20) (.tmp 21) rfl ql6 rfl rfl n rfl (by omega) (by omega) (by simp only[maxLen];omega) ?_
               intro w1 cap hc1 hc2 o1 b1)
  go_ret
  exact⟨_,cap,rfl,o1,b1⟩
open Go.RowKit Go.Hm
theorem z4e(a b:List Nat)(ha:∀x∈a,x<256)(hb:∀x∈b,x<256)(hla:a.length<=9223372036854775806)(hlb:b.length<=9223372036854775806)(w:World):
 Calls Tryz.prog 201 #[.string (zae a),.string (zae b)] w (DrewPost (.int .i64 (shr a b)) w):=by
 have z1:=zbt a;have z2:=zbt b;go_enter Tryz.func201,Tryz.ntmps201
 go_wp2
 go_loopw [5] (fun n wr=>∃k m:Nat,n= .int .i64 (k:Int)/\k<=a.length/\k<=b.length/\a.take k=b.take k/\wr=w.drewN m) (fun n _=>a.length-(intOf n).toNat)
 case atStart=>exact⟨0,0,rfl,by omega,by omega,rfl,rfl⟩
 case round=>
  obtain⟨k,m,rfl,h1,h2,h3,rfl⟩:=hrel;have S0:=qfr a b k h1 h2 h3;have H3:=Hz h3;clear h3;by_cases ka:k=a.length
  ·have S:=Hz (S0 (.inl ka))
   have d1:decide (k<a.length)=false:=by simp;omega
   clear ka S0;go_wp2
   go_quiet (fail)
   go_wp2
   go_ret
   exact⟨by rw[S.out];rfl,_,zod _ _ _⟩
  ·by_cases kb:k=b.length
   ·have S:=Hz (S0 (.inr (.inl kb)))
    have d1:decide (k<a.length)=true:=by simp;omega
    have d2:decide (k<b.length)=false:=by simp;omega
    clear ka kb S0;go_wp2
    go_quiet (fail)
    go_wp2
    go_ret
    exact⟨by rw[S.out];rfl,_,zod _ _ _⟩
   ·have i1:=z5r qfj a ha k (by omega)
    have i2:=z5r qfj b hb k (by omega);have d1:decide (k<a.length)=true:=by simp;omega
    have d2:decide (k<b.length)=true:=by simp;omega
    have t1:=zad a k 0 (by omega);have t2:=zad b k 0 (by omega);by_cases e:a.getD k 0=b.getD k 0
    ·have H4:=Hz (show a.take (k+1)=b.take (k+1) by rw[t1,t2,H3.out,e])
     rw[e] at i1;clear t1 t2 e S0;generalize b.getD k 0=y at*;go_wp2
     go_quiet (fail)
     go_wp2
     go_roundw
     case rel=>exact⟨k+1,_,by go_num,by omega,by omega,H4.out,rfl⟩
     case measure=>simp[intOf];omega
    ·have S:=Hz (S0 (.inr (.inr e)))
     have d3:(((a.getD k 0:Nat):Int)==((b.getD k 0:Nat):Int))=false:=by rw[beq_eq_false_iff_ne];omega
     clear t1 t2 e S0;generalize a.getD k 0=x at*;generalize b.getD k 0=y at*;go_wp2
     go_quiet (fail)
     go_wp2
     go_ret
     exact⟨by rw[S.out];rfl,_,zod _ _ _⟩
theorem z9k{w:World}{A:Option Addr}{n c:Nat}{L:List (List Nat)}(h:Reads w w.heap.size 1 A n (zq8 L))(hL:∀s∈L,s.length<=140737488351232)(hn:n<=9223372036854775806):
 Calls Tryz.prog 200 #[.slice A n c] w (zdm (.bool (qbh L)) w):=by
 obtain rfl:=h.lenT;by_cases h0:65536<L.length
 ·have F:=Hz (qdk h0)
  go_enter Tryz.func200,Tryz.ntmps200
  go_wp2
  go_ret
  exact⟨by rw[F.out];rfl,rfl⟩
 ·have d0:decide (65536<(L.length:Int))=false:=by simp;omega
  go_enter Tryz.func200,Tryz.ntmps200
  go_wp2
  go_loop [3,11] (fun a i=>∃k q:Nat,k<=L.length/\i= .int .i64 (k:Int)/\a= .int .i64 (q:Int)/\q<=16777216/\Hid (q=zuf (L.take k)/\ ∀s∈L.take k,s.length<=65536)) (fun _ i=>L.length-(intOf i).toNat)
  case atStart=>exact⟨0,0,by omega,rfl,rfl,by omega,Hz ⟨rfl,by simp⟩⟩
  case round=>
   obtain⟨k,q,hk,rfl,rfl,hq,H⟩:=hrel;by_cases hlt:k<L.length
   ·obtain⟨ad,rfl,hb,hcell⟩:=h.str hlt
    have hs:=zoc hL hlt;have T:=zad L k [] hlt;have F1:=Hz (qdl hlt);have F2:=Hz (qdm (l:=L) (k:=k+1));rw[T] at F2;have HT:=Hz T;clear T;generalize L.getD k []=s at*;have z:=zbt s;generalize hls:s.length=ls at*;have HL:=Hz hls;clear hls;by_cases h1:65536<ls
    ·have F:=Hz (F1.out h1)
     clear F1 F2;go_wp2
     go_ret
     exact⟨by rw[F.out];rfl,rfl⟩
    ·have d1:decide (65536<(ls:Int))=false:=by simp;omega
     by_cases h2:16777216<q+ls
     ·have F:=Hz (F2.out (by rw[zvf,<-H.out.1,HL.out];exact h2))
      clear F1 F2;go_wp2
      go_ret
      exact⟨by rw[F.out];rfl,rfl⟩
     ·have d2:decide (16777216<(q:Int)+(ls:Int))=false:=by simp;omega
      go_wp2
      go_round
      case rel=>exact⟨k+1,q+ls,by omega,by go_num,by go_num,by omega,Hz ⟨by rw[HT.out,zvf,<-H.out.1,HL.out],fun x hx=>by
       rw[HT.out,qny,qnz] at hx;rcases hx with hx|rfl
       ·exact H.out.2 x hx
       ·rw[HL.out];omega⟩⟩
      case measure=>simp[intOf];omega
   ·obtain rfl:k=L.length:=by omega
    have F:=Hz (qdn (l:=L) (by omega) (by have:=H.out.2;rwa[qql] at this) (by have:=H.out.1;rw[qql] at this;omega));go_wp2
    go_ret
    exact⟨by rw[F.out];rfl,rfl⟩
theorem z9l{w:World}{A:Option Addr}{n c:Nat}{L:List (List Nat)}(h:Reads w w.heap.size 1 A n (zq8 L))(h8:∀s∈L,∀x∈s,x<256)(hf:qbh L=true):
 Calls Tryz.prog 182 #[.slice A n c] w (OptB (some (zyr [] L)) w):=by
 obtain rfl:=h.lenT;obtain⟨hn,hl,hsum⟩:=(zjf L).1 hf;have F:=Hz (z9k (c:=c) h (fun s hs=>by have:=hl s hs;omega) (by omega));rw[hf] at F;have HSUM:=Hz hsum;have HF:=Hz hf;clear hf hsum;go_enter Tryz.func182,Tryz.ntmps182
 go_wp2_with (go_at_call 200;refine F.out.mono ?_;rintro e w1 ⟨rfl,rfl⟩)
 go_loopw [4,5,14] (fun v a i wr=>∃(k:Nat) (A:Option Addr) (m c:Nat),i= .int .i64 (k:Int)/\k<=L.length/\a= .string (zae (zqw [] (L.take k)))/\v= .slice A m c/\Own wr w.heap.size 5 (.slice A m c) (zan .u8 (zyr [] (L.take k)))/\Below w.heap.size w wr) (fun _ _ i _=>L.length-(intOf i).toNat)
 case atStart=>exact⟨0,_,_,_,rfl,by omega,rfl,rfl,Own.nil_,Below.refl _ _⟩
 case round=>
  obtain⟨k,A5,m5,c5,rfl,hk,rfl,rfl,o5,b5⟩:=hrel;have z5:=b5.size;by_cases hlt:k<L.length
  ·obtain⟨ad,rfl,hb,hcell⟩:=(h.below b5).str hlt
   have q5:=o5.len;rw[zaa] at q5;have q6:=z0y [] (L.take k) (fun s hs=>hl s (qnh hs));have q7:=zve L k;have q8:=HSUM.out;rw[<-q5,qmq] at q6;have qm:m5<=20*65536+16777216:=by omega
   have T:=Hz (zad L k [] hlt);have a8:=zvg (Q:=fun s=>∀x∈s,x<256) (a:=[]) (L.take k) (by simp) (fun s hs=>h8 s (qnh hs));have al:=zvg (Q:=fun s=>s.length<=65536) (a:=[]) (L.take k) (by simp) (fun s hs=>hl s (qnh hs));have s8:=zoc (Q:=fun s=>∀x∈s,x<256) h8 hlt;have sl:=zoc (Q:=fun s=>s.length<=65536) hl hlt;have SN:=Hz (z73 [] (L.getD k []) (L.take k));have LS:=Hz (z3j [] (L.getD k []) (L.take k));clear q5 q6 q7 q8;generalize L.getD k []=s at*;generalize zqw [] (L.take k)=a at*;have k1:=zo7 a s;have k2:=zit a s;have z1:=zbt s;have SH:=Hz (z4e a s a8 s8 (by omega) (by omega) wr);have FP:=Hz (show fpiece a s=vp (shr a s)++vp (s.length-shr a s)++s.drop (shr a s) from rfl);have i3:=qbo qfj s (shr a s) k2;have d8:∀x∈s.drop (shr a s),x<256:=fun x hx=>s8 x (qpa hx)
   have dl:(s.drop (shr a s)).length<=65536:=by rw[qmp];omega
   have v1:=zap (n:=shr a s) (by omega);have v2:=zap (n:=s.length-shr a s) (by omega);have hq:(s.length:Int)-(shr a s:Int)=((s.length-shr a s:Nat):Int):=by omega
   generalize shr a s=j at*;generalize s.length-j=p at*;generalize s.drop j=r at*;have V1:=Hz v1;have V2:=Hz v2;have DL:=Hz dl;clear v1 v2 dl;go_wp2_with (first
    |(go_at_call 201;refine SH.out.mono ?_;intro e w6 hh;obtain⟨rfl,b6⟩:=hh.new;clear hh
      have b06:=zg0 b5 b6 (qmt _);have o6:=o5.later b6;have P6:=Hz (zc1 none 0 0 [] j w6 Reads.none_ (by omega) (by omega)))
    |(go_at_call 111;(with_reducible refine P6.out.mono ?_);rintro e w7 ⟨A7,n7,c7,rfl,k7,b7⟩
      rw[qnk] at k7;have b07:=zg0 b06 b7 (qmt _);have o7:=o6.later b7;have q7:n7<=10:=by have:=k7.len;rw[zaa] at this;have:=V1.out;omega
      have r7:=k7.reads)
    |(refine zam elB rfl (.tmp 21) (.tmp 24) rfl (W:=w) (B:=w.heap.size) o7 r7 rfl rfl b07 (qmt _) (by have:=b07.size;omega) (by omega) (by simp only[maxLen];omega) ?_
      intro A8 c8 w8 _ _ o8 _ b08 _;have P8:=Hz (zc1 none 0 0 [] p w8 Reads.none_ (by omega) (by omega)))
    |(go_at_call 111;(with_reducible refine P8.out.mono ?_);rintro e w9 ⟨A9,n9,c9,rfl,k9,b9⟩
      rw[qnk] at k9;have b09:=zg0 b08 b9 (qmt _);have o9:=o8.later b9;have q9:n9<=10:=by have:=k9.len;rw[zaa] at this;have:=V2.out;omega
      have r9:=k9.reads)
    |(refine zam elB rfl (.tmp 26) (.tmp 32) rfl (W:=w) (B:=w.heap.size) o9 r9 rfl rfl b09 (qmt _) (by have:=b09.size;omega) (by omega) (by simp only[maxLen];omega) ?_
      intro A10 c10 w10 _ _ o10 _ b010 _)
    |(refine zd6 elB qfj rfl (.tmp 34) (.tmp 37) rfl (W:=w) (B:=w.heap.size) o10 d8 rfl rfl b010 (qmt _) (by have:=b010.size;omega) (by have:=DL.out;omega) ?_
      intro A11 c11 w11 _ _ o11 _ b011))
   go_roundw
   case rel=>exact⟨k+1,_,_,_,by go_num,by omega,by rw[T.out,LS.out],rfl,by rw[T.out,SN.out,FP.out,<-qm5,<-qm5];exact o11,b011⟩
   case measure=>simp[intOf];omega
  ·obtain rfl:k=L.length:=by omega
   rw[qql] at o5;go_wp2
   go_ret2
   exact⟨_,_,_,rfl,o5,b5⟩
theorem qel{w:World}{A:Option Addr}{n c:Nat}{L:List (List Nat)}(h:Reads w w.heap.size 1 A n (zq8 L))(h8:∀s∈L,∀x∈s,x<256)(hL:∀s∈L,s.length<=140737488351232)(hn:n<=9223372036854775806):
 Calls Tryz.prog 182 #[.slice A n c] w (OptB (qfs L) w):=by
 unfold qfs;by_cases hf:qbh L=true
 ·rw[if_pos hf]
  exact z9l h h8 hf
 ·rw[if_neg hf]
  have F:=Hz (z9k (c:=c) h hL hn);rw[qqv.2 hf] at F;clear hf;go_enter Tryz.func182,Tryz.ntmps182
  go_wp2_with (go_at_call 200;refine F.out.mono ?_;rintro e w1 ⟨rfl,rfl⟩)
  go_ret2
  exact⟨rfl,Below.refl _ _⟩
end Go.Proofs.Y
namespace Go.Hm
open Go Go.RowKit
theorem qf3{w:World}{g:Nat}{ty:TypeId}{x y a b:Value}(h:Blk w g ty #[x,y]):Blk ((w.setCell ⟨g,0,none⟩ a).setCell ⟨g,1,none⟩ b) g ty #[a,b]:=by simpa using((h.set_ 0 a).set_ 1 b)
theorem zpw{g i:Nat}(u:Value)(w:World):Far g w (w.setCell ⟨g,i,none⟩ u):=
 ⟨rfl,rfl,rfl,by simp[World.setCell],fun k _ hne=>Below.heap_setCell _ _ _ _ (by rintro rfl;exact hne rfl)⟩
theorem z1l{g:Nat}(a b:Value)(w:World):Far g w ((w.setCell ⟨g,0,none⟩ a).setCell ⟨g,1,none⟩ b):=Far.trans (zpw a w) (zpw b _)
end Go.Hm
namespace Go.Proofs.Y
open Go.RowKit Go.Hm
set_option maxRecDepth 100000 in
theorem qka{w:World}{x y:Int}{a b:Nat}(h:z3k x y a b)(hx: -9223372036854775808<=x/\x<=9223372036854775807)(hy: -9223372036854775808<=y/\y<=9223372036854775807):
 Calls Tryz.prog 212 #[.complex .f64 a b] w (zal (.agg #[.int .i64 x,.int .i64 y]) w):=by
 have f1:=fun w:World=>run_convert_float_int (P:=Tryz.prog) w 264 3 .f64 .i64 a _ (by kernel_rfl) (by kernel_rfl) (zyu h.1 hx)
 have f2:=fun w:World=>run_convert_float_int (P:=Tryz.prog) w 264 3 .f64 .i64 b _ (by kernel_rfl) (by kernel_rfl) (zyu h.2 hy)
 have b0:New w (w.alloc (.cells #[.int .i64 x,.int .i64 y] 73)):=(Below.refl _ _).alloc (qmt _) _;obtain⟨s0,s1⟩:=zbz (Blk.new w 73 #[.int .i64 x,.int .i64 y]);clear h hx hy;go_enter Tryz.func212,Tryz.ntmps212
 go_wp2
 exact bodyPost_ret (v:= .agg #[.int .i64 x,.int .i64 y]) (by simp[results,Tryz.results212,go_sem,s0,s1]) rfl ⟨rfl,b0⟩
set_option maxRecDepth 100000 in
theorem qem{w:World}{x y u v:Int}(hx: -2097152<=x/\x<=2097152)(hy: -2097152<=y/\y<=2097152)(hu: -2097152<=u/\u<=2097152)(hv: -2097152<=v/\v<=2097152):
 Calls Tryz.prog 208 #[.agg #[.int .i64 x,.int .i64 y],.agg #[.int .i64 u,.int .i64 v]] w (zal (.agg #[.int .i64 (x-u),.int .i64 (y-v)]) w):=by
 obtain⟨W0,hW0⟩:∃W,W=((w.alloc (.cells #[.int .i64 x,.int .i64 y] 73)).alloc (.cells #[.int .i64 u,.int .i64 v] 73)).alloc (.cells #[.int .i64 0,.int .i64 0] 73):=⟨_,rfl⟩;have b0:New w W0:=by rw[hW0];exact(((Below.refl _ _).alloc (qmt _) _).alloc (by simp) _).alloc (by simp;omega) _
 have e1:(w.alloc (.cells #[.int .i64 x,.int .i64 y] 73)).heap.size=w.heap.size+1:=by simp
 have e2:((w.alloc (.cells #[.int .i64 x,.int .i64 y] 73)).alloc (.cells #[.int .i64 u,.int .i64 v] 73)).heap.size=w.heap.size+1+1:=by simp
 have A0:Blk W0 w.heap.size 73 #[.int .i64 x,.int .i64 y]:=by rw[hW0];exact((Blk.new _ _ _).alloc _).alloc _
 have B0:Blk W0 (w.heap.size+1) 73 #[.int .i64 u,.int .i64 v]:=by rw[hW0,<-e1];exact(Blk.new _ _ _).alloc _
 have C0:Blk W0 (w.heap.size+1+1) 73 #[.int .i64 0,.int .i64 0]:=by rw[hW0,<-e2];exact Blk.new _ _ _
 have F:=Hz (fun(W:World) (hW:Far (w.heap.size+1+1) W0 W)=>qo8 (zbz (A0.grown hW (by simp;omega))) (zbz (B0.grown hW (by simp))));have HC:=Hz C0;have HW:=Hz hW0;have HB:=Hz b0;have P1:=Hz (fun(W:World)=>zl6 (w:=W) (x:=x) (y:=y) (by omega) (by omega));have P2:=Hz (fun(W:World)=>zl6 (w:=W) (x:=u) (y:=v) (by omega) (by omega));have P3:=Hz (fun(W:World) (a b c d:Nat) (h1:z3k x y a b) (h2:z3k u v c d)=>show∃re im,cSumBits .sub .f64 a b c d=some (re,im)/\ ∀W:World,Calls Tryz.prog 212 #[.complex .f64 re im] W (zal (.agg #[.int .i64 (x-u),.int .i64 (y-v)]) W) by obtain⟨re,im,k1,k2⟩:=qdq h1 h2 (by omega) (by omega);exact⟨re,im,k1,fun W=>qka k2 (by omega) (by omega)⟩)
 generalize x-u=rx at*;generalize y-v=ry at*;clear A0 B0 C0 hW0 b0 e1 e2 hx hy hu hv;go_enter Tryz.func208,Tryz.ntmps208
 go_wp2_with fail
 rw[<-HW.out];refine zax (Far (w.heap.size+1+1)) [(true,0),(true,2),(false,1),(false,3),(true,4),(false,5),(false,6)]
  (Far.refl _) Far.trans (by kernel_rfl) (by kernel_rfl) (by kernel_rfl) (by kernel_rfl) ?_
 have hN:=New.drew W0;iterate 2 (
  refine zar rfl rfl (v:=?_) (fun W hW=>?_) ?_;rotate_left
  ·obtain⟨⟨x0,x1⟩,⟨y0,y1⟩⟩:=F.out W (Far.trans (Far.of_new hN) hW)
   go_simp<;> with_reducible rfl
  simp only[Act.put,qo6,qou,qo7])
 refine zba rfl rfl (fun K hK=>?_);go_simp
 (with_reducible refine(P1.out _).mono ?_)
 rintro e w1 ⟨a,b,rfl,hr1,c1⟩;refine hK _ _ (Far.of_new c1) ?_;clear hK;replace hN:=New.trans hN c1;refine zba rfl rfl (fun K hK=>?_);go_simp
 (with_reducible refine(P2.out _).mono ?_)
 rintro e w2 ⟨c,d,rfl,hr2,c2⟩;refine hK _ _ (Far.of_new c2) ?_;clear hK;replace hN:=New.trans hN c2;obtain⟨re,im,k1,k2⟩:=P3.out w2 a b c d hr1 hr2;have K2:=Hz k2;have m:=fun w:World=>run_complex_sum (P:=Tryz.prog) w .sub (.inr rfl) 262 .f64 a b c d re im k1
 clear k1 k2 hr1 hr2 P1 P2 P3;refine zar rfl rfl (v:=?_) (fun W hW=>?_) ?_;rotate_left
 ·go_simp<;> with_reducible rfl
 simp only[Act.put,qo6,qou,qo7];clear m;refine zba rfl rfl (fun K hK=>?_);go_simp
 (with_reducible refine(K2.out _).mono ?_)
 rintro e w3 ⟨rfl,c3⟩;refine hK _ _ (Far.of_new c3) ?_;clear hK;replace hN:=New.trans hN c3;have C3:=HC.out.below hN HC.out.lt;obtain⟨z0,z1⟩:=zbz C3;have f0:=C3.frozen 0;have f1:=C3.frozen 1;have S3:=Hz (qf3 C3 (a:= .int .i64 rx) (b:= .int .i64 ry));have hF:=z1l (g:=w.heap.size+1+1) (.int .i64 rx) (.int .i64 ry) w3;clear C3;refine zba rfl rfl (fun K hK=>?_);go_simp
 refine hK _ _ hF ?_;clear hK z0 z1 f0 f1;refine zdh ?_;obtain⟨s0,s1⟩:=zbz S3.out;have bE:=New.far HB.out (Far.trans (Far.of_new hN) hF) (by omega);clear hF S3;go_wp2
 exact bodyPost_ret (v:= .agg #[.int .i64 rx,.int .i64 ry]) (by simp[results,Tryz.results208,go_sem,s0,s1]) rfl ⟨rfl,bE⟩
open Go.RowKit Go.Hm
def Rd(w:World)(gr gc:Nat)(a:List Nat)(room:Int):Prop:=Blk w gr 261 #[.pointer (some ⟨gc,0,none⟩),.string (zae a),.int .i64 room]
theorem Rd.cells{w:World}{gr gc:Nat}{a:List Nat}{room:Int}(h:Rd w gr gc a room):w.cell? ⟨gr,0,none⟩=some (.pointer (some ⟨gc,0,none⟩))/\w.cell? ⟨gr,1,none⟩=some (.string (zae a))/\w.cell? ⟨gr,2,none⟩=some (.int .i64 room):=
 ⟨by rw[Blk.cell h 0];rfl,by rw[Blk.cell h 1];rfl,by rw[Blk.cell h 2];rfl⟩
theorem Rd.far{w w':World}{gr gc:Nat}{a:List Nat}{room:Int}(h:Rd w gr gc a room)(hW:Far gc w w')(hne:gr≠gc):Rd w' gr gc a room:=Blk.grown h hW (by simpa using hne)
theorem Rd.below{w w':World}{gr gc:Nat}{a:List Nat}{room:Int}(h:Rd w gr gc a room)(hW:New w w'):Rd w' gr gc a room:=Blk.below h hW (Blk.lt h)
end Go.Proofs.Y
set_option maxRecDepth 100000
namespace Go.Hm
structure TabIn(w:World)(Ac:Option Addr)(cc:Nat)(L:List zbb)(Ad:Option Addr)(D:List zex):Prop where
 cols:Reads w w.heap.size 3 Ac L.length (recs zly L)
 fine:∀x∈L,(∀z∈x.1,z<256)/\x.1.length<=140737488351232
 cap:L.length<=cc
 few:L.length<=4611686018427387903
 data:Reads w w.heap.size 1 Ad D.length (recs zk9 D)
 few2:D.length<=4611686018427387903
 within:DataIn w w.heap.size D
theorem TabIn.later{w w':World}{Ac:Option Addr}{cc:Nat}{L:List zbb}{Ad:Option Addr}{D:List zex}(h:TabIn w Ac cc L Ad D)(hb:New w w'):TabIn w' Ac cc L Ad D:=
 ⟨Reads.later h.cols hb,h.fine,h.cap,h.few,Reads.later h.data hb,h.few2,h.within.later hb⟩
end Go.Hm
namespace Go.Proofs.Y
open Go.RowKit Go.Hm Go.WideShapes Go.ChangeShapes
section
variable{H:Type}{enc:TypeId × Value->H}{W:World}{base:Nat}{v:Value}{d:DataW H}{ps:List MemPlace}
end
end Go.Proofs.Y
namespace Go.Hm
open Go Go.RowKit
inductive Ev where
 |among (lo hi:Nat)
 |beside (lo hi:Nat)
 |node
def evs(f t lo hi:Nat):List Ev:=
 if lo=hi\/(f<=lo/\hi<=t) then [.among lo hi]
 else if min hi t<=max lo f then [.beside lo hi]
 else if _h:hi-lo<2 then []
 else evs f t lo (lo+zbf (hi-lo))++(evs f t (lo+zbf (hi-lo)) hi++[.node])
termination_by hi-lo
decreasing_by
 ·have:=zd5 (n:=hi-lo) (by omega)
  omega
 ·have:=zd5 (n:=hi-lo) (by omega)
  omega
theorem zgh{f t lo hi:Nat}(h:lo=hi\/(f<=lo/\hi<=t)):evs f t lo hi=[.among lo hi]:=by rw[evs,if_pos h]
theorem zei{f t lo hi:Nat}(h: ¬(lo=hi\/(f<=lo/\hi<=t)))(h2:min hi t<=max lo f):evs f t lo hi=[.beside lo hi]:=by rw[evs,if_neg h,if_pos h2]
theorem zgv{f t lo hi:Nat}(hl:lo<=hi)(h: ¬(lo=hi\/(f<=lo/\hi<=t)))(h2: ¬min hi t<=max lo f):evs f t lo hi=evs f t lo (lo+zbf (hi-lo))++(evs f t (lo+zbf (hi-lo)) hi++[.node]):=by rw[evs,if_neg h,if_neg h2,dif_neg (by omega)]
theorem zmn{f t:Nat}{C:Nat->Nat->Prop}
 (h1:∀lo hi,lo<=hi->(lo=hi\/(f<=lo/\hi<=t))->C lo hi)
 (h2:∀lo hi,lo<hi-> ¬(lo=hi\/(f<=lo/\hi<=t))->min hi t<=max lo f->C lo hi)
 (h3:∀lo hi k,2<=hi-lo-> ¬(lo=hi\/(f<=lo/\hi<=t))-> ¬min hi t<=max lo f->k=zbf (hi-lo)->1<=k->k<hi-lo->C lo (lo+k)->C (lo+k) hi->C lo hi):∀lo hi,lo<=hi->C lo hi:=by
 intro lo hi;induction hn:hi-lo using Nat.strongRecOn generalizing lo hi with
 |_ n ih=>
  intro hl;by_cases a:lo=hi\/(f<=lo/\hi<=t)
  ·exact h1 lo hi hl a
  by_cases b:min hi t<=max lo f
  ·exact h2 lo hi (by omega) a b
  have hs:=zd5 (n:=hi-lo) (by omega);exact h3 lo hi _ (by omega) a b rfl hs.1 hs.2.1 (ih _ (by omega) lo _ rfl (by omega)) (ih _ (by omega) _ hi rfl (by omega))
def zh3:Ev->Bool
 | .beside _ _=>true
 |_=>false
def cnt(es:List Ev):Nat:=es.countP zh3
theorem zgi(a b:List Ev):cnt (a++b)=cnt a+cnt b:=List.countP_append
theorem z17{f t lo hi:Nat}(hl:lo<=hi)(h: ¬(lo=hi\/(f<=lo/\hi<=t)))(h2: ¬min hi t<=max lo f):cnt (evs f t lo hi)=cnt (evs f t lo (lo+zbf (hi-lo)))+cnt (evs f t (lo+zbf (hi-lo)) hi):=by rw[zgv hl h h2,zgi,zgi];simp[cnt,zh3]
theorem qf9{f t:Nat}:∀lo hi,lo<=hi->cnt (evs f t lo hi)<=hi-lo:=by
 refine zmn (f:=f) (t:=t) ?_ ?_ ?_
 ·intro lo hi _ h
  rw[zgh h];simp[cnt,zh3]
 ·intro lo hi _ h h2
  rw[zei h h2];simp[cnt,zh3];omega
 ·intro lo hi k hn h h2 hk k1 k2 i1 i2
  rw[z17 (by omega) h h2,<-hk];omega
theorem zzq{a b:List Ev}(h:a <+: b):cnt a<=cnt b:=by obtain⟨c,rfl⟩:=h;rw[zgi];omega
end Go.Hm
