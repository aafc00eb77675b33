/- Merged. -/
import Derived.Test.YtbahbnbpmfgimaaGreatDoorBun24
import Derived.Test.YtbahbnbpmfgimaaGreatDoorBun40
set_option maxHeartbeats 8000000
namespace Go.Proofs.Y
open Go.RowKit Go.Hm
theorem OptCX.u{o:Option (List zab)}{w w':World}{e:Ending}(h:OptCX o w e w'):∃v,e= .returned (.tuple #[v,.bool o.isSome])/\New w w'/\ ∀l,o=some l-> ∃A n c,v= .slice A n c/\w'.ownsRow w.heap.size 75 5 (.slice A n c) n (recs za0 l):=by
 cases o with
 |none=>obtain⟨⟨v,rfl⟩,h2⟩:=h;exact⟨v,rfl,h2,fun b hb=>by cases hb⟩
 |some l=>obtain⟨A,n,c,rfl,h2,h3⟩:=h;exact⟨_,rfl,h3,fun b hb=>by injection hb with hb;subst hb;exact⟨_,_,_,rfl,h2⟩⟩
theorem OptCX.of{o:Option (List zab)}{w w':World}{v:Value}(h1:New w w')(h2:∀l,o=some l-> ∃A n c,v= .slice A n c/\w'.ownsRow w.heap.size 75 5 (.slice A n c) n (recs za0 l)):OptCX o w (.returned (.tuple #[v,.bool o.isSome])) w':=by
 cases o with
 |none=>exact⟨⟨v,rfl⟩,h1⟩
 |some l=>obtain⟨A,n,c,rfl,h3⟩:=h2 l rfl;exact⟨A,n,c,rfl,h3,h1⟩
def DecVPost(t e:Int)(b:List Nat)(n:Int)(w:World)(en:Ending)(w':World):Prop:=
 New w w'/\((fitsV t e=false/\en= .returned (.tuple #[.slice none 0 0,.int .i64 3]))\/
  (fitsV t e=true/\IsVal t e b n none/\en= .returned (.tuple #[.slice none 0 0,.int .i64 2]))\/
  (fitsV t e=true/\ ∃l A m c,IsVal t e b n (some l)/\en= .returned (.tuple #[.slice A m c,.int .i64 0])/\w'.ownsRow w.heap.size 75 5 (.slice A m c) m (recs za0 l)))
open Go.RowKit Go.Hm
theorem qkd(t:Int):fitsV t 0=decide (0<=t/\t<=3):=by unfold fitsV;rw[decide_eq_decide];omega
def ckE(t:Int)(nu:Bool)(e:Int)(l:List zab):Int:=
 if¬(0<=t/\t<=3)\/(e≠ -1/\fitsV t e=false) then 3 else if 65536<l.length then 4 else if(l.all fun c=>zaf c t nu)=true then 0 else 1
theorem qke(t:Int)(nu:Bool)(e:Int)(l:List zab):pgE t nu e l=if ckE t nu e l=0 then(match zfp t (encOf t e l) (zdv l) with
 |some d=>(0,(encOf t e l).toNat::(vp l.length++((if nu=true then zcx l else [])++d)))
 |none=>(1,[])) else(ckE t nu e l,[]):=by
 unfold pgE ckE;split
 ·simp
 ·split
  ·simp
  ·split
   ·rw[if_pos rfl]
    all_goals(generalize zfp t (encOf t e l) (zdv l)=Z;cases Z<;> rfl)
   ·simp
theorem z4o{w:World}{t:Int}:Calls Tryz.prog 141 #[.int .i64 t] w (zdm (.bool (decide (0<=t/\t<=3))) w):=by
 have F:=Hz (zlf t 0 w);rw[qkd] at F;generalize decide (0<=t/\t<=3)=K at*;go_enter Tryz.func141,Tryz.ntmps141
 go_wp2_with fail
 refine F.out.mono ?_;rintro e W0 ⟨rfl,rfl⟩;go_wp2_with fail
 go_ret
 exact⟨rfl,rfl⟩
set_option maxRecDepth 100000 in
theorem z4p{w:World}{cn:List Nat}{t:Int}{nu:Bool}{e:Int}{A:Option Addr}{n c:Nat}{L:List zab}(h:Reads w w.heap.size 5 A n (recs za0 L))(hL:∀y∈L,y.2.2.1.length<=140737488351232)(hn:n<=4611686018427387903):
 Calls Tryz.prog 125 #[.agg #[.string (zae cn),.int .i64 t,.bool nu],.int .i64 e,.slice A n c] w (zal (.int .i64 (ckE t nu e L)) w):=by
 obtain rfl:=h.lenCell;have HR:=Hz h;have HL:=Hz hL;clear h hL;have KN:=Hz (fun W=>z4o (w:=W) (t:=t));have F:=Hz (fun W=>zlf t e W);obtain⟨M,hM⟩:∃M,M=ckE t nu e L:=⟨_,rfl⟩;rw[<-hM];unfold ckE at hM;have n1:New w (w.alloc (.cells #[.string (zae cn),.int .i64 t,.bool nu] 71)):=(Below.refl _ _).alloc (qmt _) _;have g1:Blk (w.alloc (.cells #[.string (zae cn),.int .i64 t,.bool nu] 71)) w.heap.size 71 #[.string (zae cn),.int .i64 t,.bool nu]:=Blk.new _ _ _;obtain⟨c0,c1,c2⟩:=zao g1;have N1:=Hz n1;have G1:=Hz g1;clear n1 g1;by_cases hk:0<=t/\t<=3
 ·rw[decide_eq_true hk] at KN
  by_cases he:e= -1
  ·subst he
   rw[if_neg (by rintro(q|q);exact q hk;exact q.1 rfl)] at hM;have HM:=Hz hM;clear hM hk F;go_enter Tryz.func125,Tryz.ntmps125
   go_wp2_with fail
   refine(KN.out _).mono ?_;rintro e W0 ⟨rfl,rfl⟩;clear KN;by_cases hbig:65536<L.length
   ·have hx:M=4:=by rw[HM.out,if_pos hbig]
    subst hx;have i2:(65536:Int)<(L.length:Int):=by omega
    go_wp2_with fail
    go_ret
    exact⟨rfl,N1.out⟩
   ·have hx:=HM.out
    rw[if_neg hbig] at hx;replace HM:=Hz hx;have i2:(L.length:Int)<=65536:=by omega
    have hs:L.length<=65536:=by omega
    clear hx hbig;go_wp2_with fail
    go_loopw [29] (fun i wr=>∃k:Nat,k<=L.length/\i= .int .i64 (k:Int)/\New (w.alloc (.cells #[.string (zae cn),.int .i64 t,.bool nu] 71)) wr/\Hid (∀c∈L.take k,zaf c t nu=true)) (fun i _=>L.length-(intOf i).toNat)
    case atStart=>exact⟨0,qmu _,rfl,New.refl _,Hz (by simp)⟩
    case round=>
     clear c0 c1 c2;obtain⟨k,hk,rfl,hW,hr⟩:=hrel;by_cases hlt:k<L.length
     ·obtain⟨ad,rfl,hb,d0,d1,d2,d3,d4⟩:=(Reads.later HR.out (New.trans N1.out hW)).cell5 hlt
      have htk:=zad L k (false,0,[],0,0) hlt;have hmem:=zd9 (false,0,[],0,0) hlt;have hy:=HL.out _ hmem;have R1:=fun(W:World)=>zf0 (w:=W) (b:=(L.getD k (false,0,[],0,0)).1) (n:=(L.getD k (false,0,[],0,0)).2.1) (s:=(L.getD k (false,0,[],0,0)).2.2.1) (x:=(L.getD k (false,0,[],0,0)).2.2.2.1) (y:=(L.getD k (false,0,[],0,0)).2.2.2.2) (cn:=cn) (t:=t) (nu:=nu) hy
      have hno:zaf (L.getD k (false,0,[],0,0)) t nu=false->M=1:=fun e=>by rw[HM.out,if_neg];intro e2;have:=(qo4.1 e2) _ hmem;rw[e] at this;cases this
      have hyes:zaf (L.getD k (false,0,[],0,0)) t nu=true-> ∀c∈L.take (k+1),zaf c t nu=true:=fun e c hc=>by
       rw[htk] at hc;rcases qny.1 hc with hc|hc
       ·exact hr.out c hc
       ·rw[qnz.1 hc];exact e
      clear htk hmem hy hr;generalize L.getD k (false,0,[],0,0)=y at*;obtain⟨y0,y1,y2,y3,y4⟩:=y;dsimp only at R1 d0 d1 d2 d3 d4;generalize zaf (y0,y1,y2,y3,y4) t nu=m at*;have R1:Hid (∀W,Calls Tryz.prog 83 #[.agg #[.bool y0,.int .i64 y1,.string (zae y2),.int .i64 y3,.int .i64 y4],.agg #[.string (zae cn),.int .i64 t,.bool nu]] W (zal (.bool m) W)):=Hz R1;have hno:=Hz hno;have hyes:=Hz hyes;have ha:New wr (wr.alloc (.cells #[.bool y0,.int .i64 y1,.string (zae y2),.int .i64 y3,.int .i64 y4] 75)):=(Below.refl _ _).alloc (qmt _) _;have G2:=(G1.out.below hW G1.out.lt).below ha (G1.out.below hW G1.out.lt).lt;obtain⟨c0,c1,c2⟩:=zao G2;clear G2;have i3:(k:Int)<(L.length:Int):=by omega
      go_wp2_with fail
      refine(R1.out _).mono ?_;rintro e w1 ⟨rfl,b1⟩;have hl:=New.trans (New.trans hW ha) b1;clear c0 c1 c2;cases m with
      |false=>
       have hm:=hno.out (by trivial);have HM2:=Hz hm;clear hno hyes hm;go_wp2_with fail
       go_ret
       rw[HM2.out];exact⟨rfl,New.trans N1.out hl⟩
      |true=>
       have hm:=Hz (hyes.out (by trivial));clear hno hyes;go_wp2_with fail
       go_roundw
       case rel=>exact⟨k+1,by omega,by go_num,hl,hm⟩
       case measure=>simp[intOf];omega
     ·obtain rfl:k=L.length:=by omega
      have hx:M=0:=by rw[HM.out,if_pos];exact qo4.2 (by simpa using hr.out)
      subst hx;go_wp2_with fail
      go_ret
      exact⟨rfl,New.trans N1.out hW⟩
  ·have i1:(e== -1)=false:=by simpa using he
   cases hf:fitsV t e with
   |false=>
    rw[if_pos (.inr ⟨he,hf⟩)] at hM;subst hM;rw[hf] at F;have HE:=Hz he;clear he hf hk;go_enter Tryz.func125,Tryz.ntmps125
    go_wp2_with fail
    refine(KN.out _).mono ?_;rintro e W0 ⟨rfl,rfl⟩;clear KN;go_wp2_with fail
    refine(F.out _).mono ?_;rintro e W0 ⟨rfl,rfl⟩;clear F;go_wp2_with fail
    go_ret
    exact⟨rfl,N1.out⟩
   |true=>
    rw[if_neg (by rintro(q|q);exact q hk;rw[hf] at q;cases q.2)] at hM;have HM:=Hz hM;rw[hf] at F;have HE:=Hz he;clear hM hk he hf;go_enter Tryz.func125,Tryz.ntmps125
    go_wp2_with fail
    refine(KN.out _).mono ?_;rintro e W0 ⟨rfl,rfl⟩;clear KN;go_wp2_with fail
    refine(F.out _).mono ?_;rintro e W0 ⟨rfl,rfl⟩;clear F;by_cases hbig:65536<L.length
    ·have hx:M=4:=by rw[HM.out,if_pos hbig]
     subst hx;have i2:(65536:Int)<(L.length:Int):=by omega
     go_wp2_with fail
     go_ret
     exact⟨rfl,N1.out⟩
    ·have hx:=HM.out
     rw[if_neg hbig] at hx;replace HM:=Hz hx;have i2:(L.length:Int)<=65536:=by omega
     have hs:L.length<=65536:=by omega
     clear hx hbig;go_wp2_with fail
     go_loopw [29] (fun i wr=>∃k:Nat,k<=L.length/\i= .int .i64 (k:Int)/\New (w.alloc (.cells #[.string (zae cn),.int .i64 t,.bool nu] 71)) wr/\Hid (∀c∈L.take k,zaf c t nu=true)) (fun i _=>L.length-(intOf i).toNat)
     case atStart=>exact⟨0,qmu _,rfl,New.refl _,Hz (by simp)⟩
     case round=>
      clear c0 c1 c2;obtain⟨k,hk,rfl,hW,hr⟩:=hrel;by_cases hlt:k<L.length
      ·obtain⟨ad,rfl,hb,d0,d1,d2,d3,d4⟩:=(Reads.later HR.out (New.trans N1.out hW)).cell5 hlt
       have htk:=zad L k (false,0,[],0,0) hlt;have hmem:=zd9 (false,0,[],0,0) hlt;have hy:=HL.out _ hmem;have R1:=fun(W:World)=>zf0 (w:=W) (b:=(L.getD k (false,0,[],0,0)).1) (n:=(L.getD k (false,0,[],0,0)).2.1) (s:=(L.getD k (false,0,[],0,0)).2.2.1) (x:=(L.getD k (false,0,[],0,0)).2.2.2.1) (y:=(L.getD k (false,0,[],0,0)).2.2.2.2) (cn:=cn) (t:=t) (nu:=nu) hy
       have hno:zaf (L.getD k (false,0,[],0,0)) t nu=false->M=1:=fun e=>by rw[HM.out,if_neg];intro e2;have:=(qo4.1 e2) _ hmem;rw[e] at this;cases this
       have hyes:zaf (L.getD k (false,0,[],0,0)) t nu=true-> ∀c∈L.take (k+1),zaf c t nu=true:=fun e c hc=>by
        rw[htk] at hc;rcases qny.1 hc with hc|hc
        ·exact hr.out c hc
        ·rw[qnz.1 hc];exact e
       clear htk hmem hy hr;generalize L.getD k (false,0,[],0,0)=y at*;obtain⟨y0,y1,y2,y3,y4⟩:=y;dsimp only at R1 d0 d1 d2 d3 d4;generalize zaf (y0,y1,y2,y3,y4) t nu=m at*;have R1:Hid (∀W,Calls Tryz.prog 83 #[.agg #[.bool y0,.int .i64 y1,.string (zae y2),.int .i64 y3,.int .i64 y4],.agg #[.string (zae cn),.int .i64 t,.bool nu]] W (zal (.bool m) W)):=Hz R1;have hno:=Hz hno;have hyes:=Hz hyes;have ha:New wr (wr.alloc (.cells #[.bool y0,.int .i64 y1,.string (zae y2),.int .i64 y3,.int .i64 y4] 75)):=(Below.refl _ _).alloc (qmt _) _;have G2:=(G1.out.below hW G1.out.lt).below ha (G1.out.below hW G1.out.lt).lt;obtain⟨c0,c1,c2⟩:=zao G2;clear G2;have i3:(k:Int)<(L.length:Int):=by omega
       go_wp2_with fail
       refine(R1.out _).mono ?_;rintro e w1 ⟨rfl,b1⟩;have hl:=New.trans (New.trans hW ha) b1;clear c0 c1 c2;cases m with
       |false=>
        have hm:=hno.out (by trivial);have HM2:=Hz hm;clear hno hyes hm;go_wp2_with fail
        go_ret
        rw[HM2.out];exact⟨rfl,New.trans N1.out hl⟩
       |true=>
        have hm:=Hz (hyes.out (by trivial));clear hno hyes;go_wp2_with fail
        go_roundw
        case rel=>exact⟨k+1,by omega,by go_num,hl,hm⟩
        case measure=>simp[intOf];omega
      ·obtain rfl:k=L.length:=by omega
       have hx:M=0:=by rw[HM.out,if_pos];exact qo4.2 (by simpa using hr.out)
       subst hx;go_wp2_with fail
       go_ret
       exact⟨rfl,New.trans N1.out hW⟩
 ·rw[decide_eq_false hk] at KN
  rw[if_pos (.inl hk)] at hM;subst hM;have HK:=Hz hk;clear hk F;go_enter Tryz.func125,Tryz.ntmps125
  go_wp2_with fail
  refine(KN.out _).mono ?_;rintro e W0 ⟨rfl,rfl⟩;clear KN;go_wp2_with fail
  go_ret
  exact⟨rfl,N1.out⟩
open Go.RowKit Go.Hm
theorem DecVPost.u{t e:Int}{b:List Nat}{n:Int}{w w':World}{en:Ending}(h:DecVPost t e b n w en w'):
 ∃v k,en= .returned (.tuple #[v,.int .i64 k])/\New w w'/\((k≠0/\(fitsV t e=true->IsVal t e b n none))\/(k=0/\fitsV t e=true/\ ∃l A m c,v= .slice A m c/\IsVal t e b n (some l)/\w'.ownsRow w.heap.size 75 5 (.slice A m c) m (recs za0 l))):=by
 obtain⟨hb,h⟩:=h;rcases h with⟨h1,rfl⟩|⟨h1,h2,rfl⟩|⟨h1,l,A,m,c,h2,rfl,h3⟩
 ·exact⟨_,_,rfl,hb,.inl ⟨by omega,fun q=>by rw[h1] at q;cases q⟩⟩
 ·exact⟨_,_,rfl,hb,.inl ⟨by omega,fun _=>h2⟩⟩
 ·exact⟨_,_,rfl,hb,.inr ⟨rfl,h1,l,A,m,c,rfl,h2,h3⟩⟩
open Go.RowKit Go.Hm
def SheOk(t:Int)(nu:Bool)(p:za6)(b:List Nat)(l:List zab):Prop:=IsPg t nu b (some l)/\(b.length:Int)=p.1/\(l.length:Int)=p.2.1/\IsStat t l p.2.2
theorem zr7{c:zab}{t:Int}{nu:Bool}(h:zaf c t nu=true):zaf c t true=true:=by
 cases nu with
 |false=>exact z8t true h
 |true=>exact h
open Go.RowKit Go.Hm
theorem SheOk.uniq{t:Int}{nu:Bool}{p:za6}{b:List Nat}{l m:List zab}(h:SheOk t nu p b l)(k:SheOk t nu p b m):l=m:=by have:=h.1.uniq k.1;injection this
open Go.RowKit Go.Hm
theorem qlj{t:Int}{nu:Bool}{e:Int}{l:List zab}(h:ckE t nu e l=0):(0<=t/\t<=3)/\l.length<=65536/\(∀c∈l,zaf c t nu=true)/\fitsV t (encOf t e l)=true:=by
 unfold ckE at h;split at h
 ·omega
 ·rename_i h1
  split at h
  ·omega
  ·rename_i h2
   split at h
   ·rename_i h3
    rw[qo4] at h3;have ht:0<=t/\t<=3:=by
     by_cases q:0<=t/\t<=3
     ·exact q
     ·exact absurd (.inl q) h1
    refine⟨ht,by omega,h3,?_⟩;unfold encOf;split
    ·exact(zvu (z8u ht (by omega) h3)).1
    ·rename_i he
     cases hf:fitsV t e with
     |true=>rfl
     |false=>exact absurd (.inr ⟨he,hf⟩) h1
   ·omega
theorem z4w{l:List zab}(h:∀y∈l,CellFine y):∀y∈zdv l,CellFine y:=fun y hy=>h y (by unfold zdv at hy;exact(qrf.1 hy).1)
set_option maxRecDepth 100000 in
theorem zzp{w:World}{cn:List Nat}{t:Int}{nu:Bool}{e:Int}{A:Option Addr}{n c:Nat}{L:List zab}(h:Reads w w.heap.size 5 A n (recs za0 L))(hL:∀y∈L,CellFine y)(hn:n<=4611686018427387903):
 Calls Tryz.prog 108 #[.agg #[.string (zae cn),.int .i64 t,.bool nu],.int .i64 e,.slice A n c] w (zjn (pgE t nu e L) w):=by
 obtain rfl:=h.lenCell;have n1:New w (w.alloc (.cells #[.string (zae cn),.int .i64 t,.bool nu] 71)):=(Below.refl _ _).alloc (qmt _) _;have g1:Blk (w.alloc (.cells #[.string (zae cn),.int .i64 t,.bool nu] 71)) w.heap.size 71 #[.string (zae cn),.int .i64 t,.bool nu]:=Blk.new _ _ _;have HD:Hid (∀y∈L,zaq y):=Hz (fun y hy=>zlc (hL y hy));have CK:=Hz (z4p (cn:=cn) (t:=t) (nu:=nu) (e:=e) (c:=c) (Reads.later h n1) (fun y hy=>(hL y hy).1.1) hn);have HP:=Hz (qke t nu e L);have HX:=Hz (fun k b=>zzg (t:=t) (nu:=nu) (e:=e) (l:=L) (b:=b) (k:=k) HD.out);have H0:=Hz (@qlj t nu e L);have HR:=Hz (Reads.later h n1);have HF:=Hz hL;have HE:Hid (encOf t e L=if e= -1 then bestV t (zdv L) else e):=Hz rfl;generalize hX:pgE t nu e L=X at*;generalize ckE t nu e L=M at*;generalize encOf t e L=E at*;have N1:=Hz n1;have G1:=Hz g1;obtain⟨c0,c1,c2⟩:=zao g1;clear h hL g1 n1 hX;go_enter Tryz.func108,Tryz.ntmps108
 go_wp2_with fail
 refine CK.out.mono ?_;rintro e W1 ⟨rfl,b1⟩;clear CK c0 c1 c2;by_cases hm:M=0
 ·subst hm
  obtain⟨ht,hl6,hr,hf⟩:=H0.out rfl;have hp:=HP.out;rw[if_pos rfl] at hp;replace HP:=Hz hp;clear hp H0;have hfe:=(ztm hf).1;obtain⟨q,rfl⟩:=qon hfe.1;have hvl:=ztq L;have SP:=Hz (zq1 (c:=c) (Reads.later HR.out b1) hl6);have VE:Hid (zze t (q:Int) (zdv L)=match zfp t (q:Int) (zdv L) with|some d=>(0,d)|none=>(1,[])):=Hz (by unfold zze;rw[if_pos hf];generalize zfp t (q:Int) (zdv L)=Z;cases Z<;> rfl);have VL:Hid (∀d,zfp t (q:Int) (zdv L)=some d->d.length<=100000000000):=Hz (fun d hd=>z1o (zpf HD.out) hd);have HVF:=Hz (z4w HF.out);have HS:=Hz (zr6 hl6);have HVL:=Hz (zap (n:=L.length) (by omega));have hq4:q<=4:=by omega
  clear hr hf hfe ht;go_wp2_with fail
  refine SP.out.mono ?_;rintro e W2 ⟨A1,m1,k1,A2,m2,k2,rfl,o1,o2,b2⟩;clear SP;have R2:=Hz (Reads.of_own o2);have b12:=New.trans b1 b2;obtain⟨c0,c1,c2⟩:=zao (G1.out.below b12 G1.out.lt);have hm2:m2<=65536:=by have:=R2.out.lenCell;omega
  by_cases he:e= -1
  ·subst he
   have hE:=HE.out;rw[if_pos rfl] at hE;have B:=Hz (z9r (t:=t) (c:=k2) R2.out HVF.out hm2);rw[<-hE] at B;clear hE;go_wp2_with fail
   refine B.out.mono ?_;rintro e W3 ⟨rfl,b3⟩;clear B;have V:=Hz (zke (t:=t) (e:=(q:Int)) (c:=k2) (Reads.later R2.out b3) HVF.out hm2);have b13:=New.trans b12 b3;clear c0 c1 c2;obtain⟨c0,c1,c2⟩:=zao (G1.out.below b13 G1.out.lt);obtain rfl:m1=(zcx L).length:=by simpa[zan] using o1.len
   have R1:=Hz (BytIn.later (show BytIn W2 (A1,k1,zcx L) from o1.reads) b3);generalize zfp t (q:Int) (zdv L)=Y at*;generalize zze t (q:Int) (zdv L)=Z at*;go_wp2_with fail
   refine V.out.mono ?_;rintro e W4 ⟨A3,m3,k3,rfl,o3,b4⟩;clear V;have b14:=New.trans b13 b4;clear c0 c1 c2;obtain⟨c0,c1,c2⟩:=zao (G1.out.below b14 G1.out.lt);cases Y with
   |none=>
    have hz:Z=(1,[]):=VE.out;have hx:X=(1,[]):=HP.out;subst hz hx;go_wp2_with fail
    go_ret2
    exact⟨none,0,0,rfl,Own.nil_,New.trans N1.out b14⟩
   |some d=>
    have hz:Z=(0,d):=VE.out;have hx:X=(0,q::(vp L.length++((if nu=true then zcx L else [])++d))):=HP.out;subst hz;have hdl:=VL.out d rfl;obtain rfl:m3=d.length:=by simpa[zan] using o3.len
    have R3:=Hz (show BytIn W4 (A3,k3,d) from o3.reads);have R1b:=Hz (BytIn.later R1.out b4);obtain⟨c3,hc3⟩:∃c3:Value,c3= .int .u8 (q:Int):=⟨_,rfl⟩;have iw:IntKind.u8.wrap (q:Int)=(q:Int):=by rw[IntKind.wrap_u8];omega
    have n5:New W4 (W4.alloc (.cells #[.int .u8 (q:Int)] 5)):=(Below.refl _ _).alloc (qmt _) _;have R5:Hid (BytIn (W4.alloc (.cells #[.int .u8 (q:Int)] 5)) (some ⟨W4.heap.size,0,none⟩,1,[q])):=Hz (Reads.litV _ _ _ 1 _ rfl rfl);have P:=Hz (zc1 none 0 0 [] L.length (W4.alloc (.cells #[.int .u8 (q:Int)] 5)) Reads.none_ (by omega) (by omega));have iz:IntKind.u64.wrap (L.length:Int)=(L.length:Int):=by rw[IntKind.wrap_u64];omega
    clear hc3 c3;cases nu with
    |false=>
     go_wp2_with fail
     refine P.out.mono ?_;rintro e W5 ⟨A5,m5,k5,rfl,o5,b5⟩;clear P;rw[qnk] at o5;obtain rfl:m5=(vp L.length).length:=by simpa[zan] using o5.len
     have R6:=Hz (show BytIn W5 (A5,k5,vp L.length) from o5.reads);have n6:New W5 (W5.alloc (.cells #[.slice (some ⟨W4.heap.size,0,none⟩) 1 1,.slice A5 (vp L.length).length k5,.slice none 0 0,.slice A3 d.length k3] 24)):=(Below.refl _ _).alloc (qmt _) _;have hfd:zc5 [(some ⟨W4.heap.size,0,none⟩,1,[q]),(A5,k5,vp L.length),(none,0,[]),(A3,k3,d)]=q::(vp L.length++d):=by simp[zc5]
     have C:=Hz (zge (w:=W5.alloc (.cells #[.slice (some ⟨W4.heap.size,0,none⟩) 1 1,.slice A5 (vp L.length).length k5,.slice none 0 0,.slice A3 d.length k3] 24)) (c:=4) (D:=[(some ⟨W4.heap.size,0,none⟩,1,[q]),(A5,k5,vp L.length),(none,0,[]),(A3,k3,d)]) (Reads.litV _ _ _ 4 _ rfl rfl) (by
      intro x hx;rcases qof.1 hx with rfl|hx
      ·exact BytIn.later R5.out (New.trans b5 n6)
      rcases qof.1 hx with rfl|hx
      ·exact BytIn.later R6.out n6
      rcases qof.1 hx with rfl|hx
      ·exact Reads.none_
      obtain rfl:=qnz.1 hx;exact BytIn.later R3.out (New.trans n5 (New.trans b5 n6))) (by omega) (by rw[hfd];have:=HVL.out;simp only[qnu,qni];omega))
     rw[hfd] at C;have HC:Hid (X=(0,q::(vp L.length++d))):=Hz (hx.trans (by simp));clear hx hfd;generalize vp L.length=vL at*;go_wp2_with fail
     refine C.out.mono ?_;rintro e W6 ⟨A6,m6,k6,rfl,o6,b6⟩;clear C;go_wp2_with fail
     go_ret2
     rw[HC.out];exact⟨A6,m6,k6,rfl,o6.base_le (by have:=N1.out.size;have:=b14.size;have:=n5.size;have:=b5.size;have:=n6.size;omega),New.trans N1.out (New.trans b14 (New.trans n5 (New.trans b5 (New.trans n6 b6))))⟩
    |true=>
     go_wp2_with fail
     refine P.out.mono ?_;rintro e W5 ⟨A5,m5,k5,rfl,o5,b5⟩;clear P;rw[qnk] at o5;obtain rfl:m5=(vp L.length).length:=by simpa[zan] using o5.len
     have R6:=Hz (show BytIn W5 (A5,k5,vp L.length) from o5.reads);have n6:New W5 (W5.alloc (.cells #[.slice (some ⟨W4.heap.size,0,none⟩) 1 1,.slice A5 (vp L.length).length k5,.slice A1 (zcx L).length k1,.slice A3 d.length k3] 24)):=(Below.refl _ _).alloc (qmt _) _;have hfd:zc5 [(some ⟨W4.heap.size,0,none⟩,1,[q]),(A5,k5,vp L.length),(A1,k1,zcx L),(A3,k3,d)]=q::(vp L.length++(zcx L++d)):=by simp[zc5]
     have C:=Hz (zge (w:=W5.alloc (.cells #[.slice (some ⟨W4.heap.size,0,none⟩) 1 1,.slice A5 (vp L.length).length k5,.slice A1 (zcx L).length k1,.slice A3 d.length k3] 24)) (c:=4) (D:=[(some ⟨W4.heap.size,0,none⟩,1,[q]),(A5,k5,vp L.length),(A1,k1,zcx L),(A3,k3,d)]) (Reads.litV _ _ _ 4 _ rfl rfl) (by
      intro x hx;rcases qof.1 hx with rfl|hx
      ·exact BytIn.later R5.out (New.trans b5 n6)
      rcases qof.1 hx with rfl|hx
      ·exact BytIn.later R6.out n6
      rcases qof.1 hx with rfl|hx
      ·exact BytIn.later R1b.out (New.trans n5 (New.trans b5 n6))
      obtain rfl:=qnz.1 hx;exact BytIn.later R3.out (New.trans n5 (New.trans b5 n6))) (by omega) (by rw[hfd];have:=HVL.out;have:=HS.out;simp only[qnu,qni];omega))
     rw[hfd] at C;have HC:Hid (X=(0,q::(vp L.length++(zcx L++d)))):=Hz (hx.trans (by simp));clear hx hfd;generalize vp L.length=vL at*;generalize zcx L=sL at*;go_wp2_with fail
     refine C.out.mono ?_;rintro e W6 ⟨A6,m6,k6,rfl,o6,b6⟩;clear C;go_wp2_with fail
     go_ret2
     rw[HC.out];exact⟨A6,m6,k6,rfl,o6.base_le (by have:=N1.out.size;have:=b14.size;have:=n5.size;have:=b5.size;have:=n6.size;omega),New.trans N1.out (New.trans b14 (New.trans n5 (New.trans b5 (New.trans n6 b6))))⟩
  ·have hE:=HE.out
   rw[if_neg he] at hE;subst hE;have i1:((q:Int)== -1)=false:=beq_eq_false_iff_ne.2 (by omega);have b3:New W2 W2:=New.refl _;clear he;have V:=Hz (zke (t:=t) (e:=(q:Int)) (c:=k2) (Reads.later R2.out b3) HVF.out hm2);have b13:=New.trans b12 b3;clear c0 c1 c2;obtain⟨c0,c1,c2⟩:=zao (G1.out.below b13 G1.out.lt);obtain rfl:m1=(zcx L).length:=by simpa[zan] using o1.len
   have R1:=Hz (BytIn.later (show BytIn W2 (A1,k1,zcx L) from o1.reads) b3);generalize zfp t (q:Int) (zdv L)=Y at*;generalize zze t (q:Int) (zdv L)=Z at*;go_wp2_with fail
   refine V.out.mono ?_;rintro e W4 ⟨A3,m3,k3,rfl,o3,b4⟩;clear V;have b14:=New.trans b13 b4;clear c0 c1 c2;obtain⟨c0,c1,c2⟩:=zao (G1.out.below b14 G1.out.lt);cases Y with
   |none=>
    have hz:Z=(1,[]):=VE.out;have hx:X=(1,[]):=HP.out;subst hz hx;go_wp2_with fail
    go_ret2
    exact⟨none,0,0,rfl,Own.nil_,New.trans N1.out b14⟩
   |some d=>
    have hz:Z=(0,d):=VE.out;have hx:X=(0,q::(vp L.length++((if nu=true then zcx L else [])++d))):=HP.out;subst hz;have hdl:=VL.out d rfl;obtain rfl:m3=d.length:=by simpa[zan] using o3.len
    have R3:=Hz (show BytIn W4 (A3,k3,d) from o3.reads);have R1b:=Hz (BytIn.later R1.out b4);obtain⟨c3,hc3⟩:∃c3:Value,c3= .int .u8 (q:Int):=⟨_,rfl⟩;have iw:IntKind.u8.wrap (q:Int)=(q:Int):=by rw[IntKind.wrap_u8];omega
    have n5:New W4 (W4.alloc (.cells #[.int .u8 (q:Int)] 5)):=(Below.refl _ _).alloc (qmt _) _;have R5:Hid (BytIn (W4.alloc (.cells #[.int .u8 (q:Int)] 5)) (some ⟨W4.heap.size,0,none⟩,1,[q])):=Hz (Reads.litV _ _ _ 1 _ rfl rfl);have P:=Hz (zc1 none 0 0 [] L.length (W4.alloc (.cells #[.int .u8 (q:Int)] 5)) Reads.none_ (by omega) (by omega));have iz:IntKind.u64.wrap (L.length:Int)=(L.length:Int):=by rw[IntKind.wrap_u64];omega
    clear hc3 c3;cases nu with
    |false=>
     go_wp2_with fail
     refine P.out.mono ?_;rintro e W5 ⟨A5,m5,k5,rfl,o5,b5⟩;clear P;rw[qnk] at o5;obtain rfl:m5=(vp L.length).length:=by simpa[zan] using o5.len
     have R6:=Hz (show BytIn W5 (A5,k5,vp L.length) from o5.reads);have n6:New W5 (W5.alloc (.cells #[.slice (some ⟨W4.heap.size,0,none⟩) 1 1,.slice A5 (vp L.length).length k5,.slice none 0 0,.slice A3 d.length k3] 24)):=(Below.refl _ _).alloc (qmt _) _;have hfd:zc5 [(some ⟨W4.heap.size,0,none⟩,1,[q]),(A5,k5,vp L.length),(none,0,[]),(A3,k3,d)]=q::(vp L.length++d):=by simp[zc5]
     have C:=Hz (zge (w:=W5.alloc (.cells #[.slice (some ⟨W4.heap.size,0,none⟩) 1 1,.slice A5 (vp L.length).length k5,.slice none 0 0,.slice A3 d.length k3] 24)) (c:=4) (D:=[(some ⟨W4.heap.size,0,none⟩,1,[q]),(A5,k5,vp L.length),(none,0,[]),(A3,k3,d)]) (Reads.litV _ _ _ 4 _ rfl rfl) (by
      intro x hx;rcases qof.1 hx with rfl|hx
      ·exact BytIn.later R5.out (New.trans b5 n6)
      rcases qof.1 hx with rfl|hx
      ·exact BytIn.later R6.out n6
      rcases qof.1 hx with rfl|hx
      ·exact Reads.none_
      obtain rfl:=qnz.1 hx;exact BytIn.later R3.out (New.trans n5 (New.trans b5 n6))) (by omega) (by rw[hfd];have:=HVL.out;simp only[qnu,qni];omega))
     rw[hfd] at C;have HC:Hid (X=(0,q::(vp L.length++d))):=Hz (hx.trans (by simp));clear hx hfd;generalize vp L.length=vL at*;go_wp2_with fail
     refine C.out.mono ?_;rintro e W6 ⟨A6,m6,k6,rfl,o6,b6⟩;clear C;go_wp2_with fail
     go_ret2
     rw[HC.out];exact⟨A6,m6,k6,rfl,o6.base_le (by have:=N1.out.size;have:=b14.size;have:=n5.size;have:=b5.size;have:=n6.size;omega),New.trans N1.out (New.trans b14 (New.trans n5 (New.trans b5 (New.trans n6 b6))))⟩
    |true=>
     go_wp2_with fail
     refine P.out.mono ?_;rintro e W5 ⟨A5,m5,k5,rfl,o5,b5⟩;clear P;rw[qnk] at o5;obtain rfl:m5=(vp L.length).length:=by simpa[zan] using o5.len
     have R6:=Hz (show BytIn W5 (A5,k5,vp L.length) from o5.reads);have n6:New W5 (W5.alloc (.cells #[.slice (some ⟨W4.heap.size,0,none⟩) 1 1,.slice A5 (vp L.length).length k5,.slice A1 (zcx L).length k1,.slice A3 d.length k3] 24)):=(Below.refl _ _).alloc (qmt _) _;have hfd:zc5 [(some ⟨W4.heap.size,0,none⟩,1,[q]),(A5,k5,vp L.length),(A1,k1,zcx L),(A3,k3,d)]=q::(vp L.length++(zcx L++d)):=by simp[zc5]
     have C:=Hz (zge (w:=W5.alloc (.cells #[.slice (some ⟨W4.heap.size,0,none⟩) 1 1,.slice A5 (vp L.length).length k5,.slice A1 (zcx L).length k1,.slice A3 d.length k3] 24)) (c:=4) (D:=[(some ⟨W4.heap.size,0,none⟩,1,[q]),(A5,k5,vp L.length),(A1,k1,zcx L),(A3,k3,d)]) (Reads.litV _ _ _ 4 _ rfl rfl) (by
      intro x hx;rcases qof.1 hx with rfl|hx
      ·exact BytIn.later R5.out (New.trans b5 n6)
      rcases qof.1 hx with rfl|hx
      ·exact BytIn.later R6.out n6
      rcases qof.1 hx with rfl|hx
      ·exact BytIn.later R1b.out (New.trans n5 (New.trans b5 n6))
      obtain rfl:=qnz.1 hx;exact BytIn.later R3.out (New.trans n5 (New.trans b5 n6))) (by omega) (by rw[hfd];have:=HVL.out;have:=HS.out;simp only[qnu,qni];omega))
     rw[hfd] at C;have HC:Hid (X=(0,q::(vp L.length++(zcx L++d)))):=Hz (hx.trans (by simp));clear hx hfd;generalize vp L.length=vL at*;generalize zcx L=sL at*;go_wp2_with fail
     refine C.out.mono ?_;rintro e W6 ⟨A6,m6,k6,rfl,o6,b6⟩;clear C;go_wp2_with fail
     go_ret2
     rw[HC.out];exact⟨A6,m6,k6,rfl,o6.base_le (by have:=N1.out.size;have:=b14.size;have:=n5.size;have:=b5.size;have:=n6.size;omega),New.trans N1.out (New.trans b14 (New.trans n5 (New.trans b5 (New.trans n6 b6))))⟩
 ·have hp:=HP.out
  rw[if_neg hm] at hp;subst hp;have i1:(M==0)=false:=by simpa using hm
  clear hm;go_wp2_with fail
  go_ret2
  exact⟨none,0,0,rfl,Own.nil_,New.trans N1.out b1⟩
end Go.Proofs.Y
