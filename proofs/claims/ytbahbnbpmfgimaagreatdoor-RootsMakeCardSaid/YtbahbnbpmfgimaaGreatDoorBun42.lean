import Derived.Test.YtbahbnbpmfgimaaGreatDoorBun29
import Derived.Test.YtbahbnbpmfgimaaGreatDoorBun40
set_option maxHeartbeats 8000000
set_option maxRecDepth 100000
namespace Go.Proofs.Y
open Go.RowKit Go.Hm
theorem OptCX.u{o:Option (List zab)}{w w':World}{e:Ending}(h:OptCX o w e w'):∃v,e= .returned (.tuple #[v,.bool o.isSome])/\New w w'/\ ∀l,o=some l-> ∃A n c,v= .slice A n c/\w'.ownsRow w.heap.size 75 5 (.slice A n c) n (recs za4 l):=by
 cases o with
 |none=>obtain⟨⟨v,rfl⟩,h2⟩:=h;exact⟨v,rfl,h2,fun b hb=>by cases hb⟩
 |some l=>obtain⟨A,n,c,rfl,h2,h3⟩:=h;exact⟨_,rfl,h3,fun b hb=>by injection hb with hb;subst hb;exact⟨_,_,_,rfl,h2⟩⟩
theorem OptCX.of{o:Option (List zab)}{w w':World}{v:Value}(h1:New w w')(h2:∀l,o=some l-> ∃A n c,v= .slice A n c/\w'.ownsRow w.heap.size 75 5 (.slice A n c) n (recs za4 l)):OptCX o w (.returned (.tuple #[v,.bool o.isSome])) w':=by
 cases o with
 |none=>exact⟨⟨v,rfl⟩,h1⟩
 |some l=>obtain⟨A,n,c,rfl,h3⟩:=h2 l rfl;exact⟨A,n,c,rfl,h3,h1⟩
def DecVPost(t e:Int)(b:List Nat)(n:Int)(w:World)(en:Ending)(w':World):Prop:=
 New w w'/\((fitsV t e=false/\en= .returned (.tuple #[.slice none 0 0,.int .i64 3]))\/
  (fitsV t e=true/\IsVal t e b n none/\en= .returned (.tuple #[.slice none 0 0,.int .i64 2]))\/
  (fitsV t e=true/\ ∃l A m c,IsVal t e b n (some l)/\en= .returned (.tuple #[.slice A m c,.int .i64 0])/\w'.ownsRow w.heap.size 75 5 (.slice A m c) m (recs za4 l)))
theorem qjk(t:Int):fitsV t 0=decide (0<=t/\t<=3):=by unfold fitsV;rw[decide_eq_decide];omega
def ckE(t:Int)(nu:Bool)(e:Int)(l:List zab):Int:=
 if¬(0<=t/\t<=3)\/(e≠ -1/\fitsV t e=false) then 3 else if 65536<l.length then 4 else if(l.all fun c=>zam c t nu)=true then 0 else 1
theorem qjl(t:Int)(nu:Bool)(e:Int)(l:List zab):pgE t nu e l=if ckE t nu e l=0 then(match zf1 t (encOf t e l) (zed l) with
 |some d=>(0,(encOf t e l).toNat::(vp l.length++((if nu=true then zc6 l else [])++d)))
 |none=>(1,[])) else(ckE t nu e l,[]):=by
 unfold pgE ckE;split
 ·simp
 ·split
  ·simp
  ·split
   ·rw[if_pos rfl]
    all_goals(generalize zf1 t (encOf t e l) (zed l)=Z;cases Z<;> rfl)
   ·simp
theorem z4h{w:World}{t:Int}:Calls Tryz.prog 141 #[.int .i64 t] w (zcv (.bool (decide (0<=t/\t<=3))) w):=by
 have F:=qrf (zlk t 0 w);rw[qjk] at F;generalize decide (0<=t/\t<=3)=K at*;go_enter Tryz.func141,Tryz.ntmps141
 go_wp2_with fail
 refine F.out.mono ?_;rintro e W0 ⟨rfl,rfl⟩;go_wp2_with fail
 go_ret
 exact⟨rfl,rfl⟩
theorem z4i{w:World}{cn:List Nat}{t:Int}{nu:Bool}{e:Int}{A:Option Addr}{n c:Nat}{L:List zab}(h:Reads w w.heap.size 5 A n (recs za4 L))(hL:∀y∈L,y.2.2.1.length<=140737488351232)(hn:n<=4611686018427387903):
 Calls Tryz.prog 125 #[.agg #[.string (zai cn),.int .i64 t,.bool nu],.int .i64 e,.slice A n c] w (zak (.int .i64 (ckE t nu e L)) w):=by
 obtain rfl:=h.lenCell;have HR:=qrf h;have HL:=qrf hL;clear h hL;have KN:=qrf (fun W=>z4h (w:=W) (t:=t));have F:=qrf (fun W=>zlk t e W);obtain⟨M,hM⟩:∃M,M=ckE t nu e L:=⟨_,rfl⟩;rw[<-hM];unfold ckE at hM;have n1:New w (w.alloc (.cells #[.string (zai cn),.int .i64 t,.bool nu] 71)):=(qq8 _ _).alloc (ql6 _) _;have g1:Blk (w.alloc (.cells #[.string (zai cn),.int .i64 t,.bool nu] 71)) w.heap.size 71 #[.string (zai cn),.int .i64 t,.bool nu]:=qrv _ _ _;obtain⟨c0,c1,c2⟩:=zar g1;have N1:=qrf n1;have G1:=qrf g1;clear n1 g1;by_cases hk:0<=t/\t<=3
 ·rw[decide_eq_true hk] at KN
  by_cases he:e= -1
  ·subst he
   rw[if_neg (by rintro(q|q);exact q hk;exact q.1 rfl)] at hM;have HM:=qrf hM;clear hM hk F;go_enter Tryz.func125,Tryz.ntmps125
   go_wp2_with fail
   refine(KN.out _).mono ?_;rintro e W0 ⟨rfl,rfl⟩;clear KN;by_cases hbig:65536<L.length
   ·have hx:M=4:=by rw[HM.out,if_pos hbig]
    subst hx;have i2:(65536:Int)<(L.length:Int):=by omega
    go_wp2_with fail
    go_ret
    exact⟨rfl,N1.out⟩
   ·have hx:=HM.out
    rw[if_neg hbig] at hx;replace HM:=qrf hx;have i2:(L.length:Int)<=65536:=by omega
    have hs:L.length<=65536:=by omega
    clear hx hbig;go_wp2_with fail
    go_loopw [29] (fun i wr=>∃k:Nat,k<=L.length/\i= .int .i64 (k:Int)/\New (w.alloc (.cells #[.string (zai cn),.int .i64 t,.bool nu] 71)) wr/\Hid (∀c∈L.take k,zam c t nu=true)) (fun i _=>L.length-(intOf i).toNat)
    case atStart=>exact⟨0,ql7 _,rfl,qrz _,qrf (by simp)⟩
    case round=>
     clear c0 c1 c2;obtain⟨k,hk,rfl,hW,hr⟩:=hrel;by_cases hlt:k<L.length
     ·obtain⟨ad,rfl,hb,d0,d1,d2,d3,d4⟩:=(qsg HR.out (qr0 N1.out hW)).cell5 hlt
      have htk:=zae L k (false,0,[],0,0) hlt;have hmem:=zd4 (false,0,[],0,0) hlt;have hy:=HL.out _ hmem;have R1:=fun(W:World)=>zga (w:=W) (b:=(L.getD k (false,0,[],0,0)).1) (n:=(L.getD k (false,0,[],0,0)).2.1) (s:=(L.getD k (false,0,[],0,0)).2.2.1) (x:=(L.getD k (false,0,[],0,0)).2.2.2.1) (y:=(L.getD k (false,0,[],0,0)).2.2.2.2) (cn:=cn) (t:=t) (nu:=nu) hy
      have hno:zam (L.getD k (false,0,[],0,0)) t nu=false->M=1:=fun e=>by rw[HM.out,if_neg];intro e2;have:=(qog.1 e2) _ hmem;rw[e] at this;cases this
      have hyes:zam (L.getD k (false,0,[],0,0)) t nu=true-> ∀c∈L.take (k+1),zam c t nu=true:=fun e c hc=>by
       rw[htk] at hc;rcases qnd.1 hc with hc|hc
       ·exact hr.out c hc
       ·rw[qne.1 hc];exact e
      clear htk hmem hy hr;generalize L.getD k (false,0,[],0,0)=y at*;obtain⟨y0,y1,y2,y3,y4⟩:=y;dsimp only at R1 d0 d1 d2 d3 d4;generalize zam (y0,y1,y2,y3,y4) t nu=m at*;have R1:Hid (∀W,Calls Tryz.prog 83 #[.agg #[.bool y0,.int .i64 y1,.string (zai y2),.int .i64 y3,.int .i64 y4],.agg #[.string (zai cn),.int .i64 t,.bool nu]] W (zak (.bool m) W)):=qrf R1;have hno:=qrf hno;have hyes:=qrf hyes;have ha:New wr (wr.alloc (.cells #[.bool y0,.int .i64 y1,.string (zai y2),.int .i64 y3,.int .i64 y4] 75)):=(qq8 _ _).alloc (ql6 _) _;have G2:=(G1.out.below hW G1.out.lt).below ha (G1.out.below hW G1.out.lt).lt;obtain⟨c0,c1,c2⟩:=zar G2;clear G2;have i3:(k:Int)<(L.length:Int):=by omega
      go_wp2_with fail
      refine(R1.out _).mono ?_;rintro e w1 ⟨rfl,b1⟩;have hl:=qr0 (qr0 hW ha) b1;clear c0 c1 c2;cases m with
      |false=>
       have hm:=hno.out (by trivial);have HM2:=qrf hm;clear hno hyes hm;go_wp2_with fail
       go_ret
       rw[HM2.out];exact⟨rfl,qr0 N1.out hl⟩
      |true=>
       have hm:=qrf (hyes.out (by trivial));clear hno hyes;go_wp2_with fail
       go_roundw
       case rel=>exact⟨k+1,by omega,by go_num,hl,hm⟩
       case measure=>simp[intOf];omega
     ·obtain rfl:k=L.length:=by omega
      have hx:M=0:=by rw[HM.out,if_pos];exact qog.2 (by simpa using hr.out)
      subst hx;go_wp2_with fail
      go_ret
      exact⟨rfl,qr0 N1.out hW⟩
  ·have i1:(e== -1)=false:=by simpa using he
   cases hf:fitsV t e with
   |false=>
    rw[if_pos (.inr ⟨he,hf⟩)] at hM;subst hM;rw[hf] at F;have HE:=qrf he;clear he hf hk;go_enter Tryz.func125,Tryz.ntmps125
    go_wp2_with fail
    refine(KN.out _).mono ?_;rintro e W0 ⟨rfl,rfl⟩;clear KN;go_wp2_with fail
    refine(F.out _).mono ?_;rintro e W0 ⟨rfl,rfl⟩;clear F;go_wp2_with fail
    go_ret
    exact⟨rfl,N1.out⟩
   |true=>
    rw[if_neg (by rintro(q|q);exact q hk;rw[hf] at q;cases q.2)] at hM;have HM:=qrf hM;rw[hf] at F;have HE:=qrf he;clear hM hk he hf;go_enter Tryz.func125,Tryz.ntmps125
    go_wp2_with fail
    refine(KN.out _).mono ?_;rintro e W0 ⟨rfl,rfl⟩;clear KN;go_wp2_with fail
    refine(F.out _).mono ?_;rintro e W0 ⟨rfl,rfl⟩;clear F;by_cases hbig:65536<L.length
    ·have hx:M=4:=by rw[HM.out,if_pos hbig]
     subst hx;have i2:(65536:Int)<(L.length:Int):=by omega
     go_wp2_with fail
     go_ret
     exact⟨rfl,N1.out⟩
    ·have hx:=HM.out
     rw[if_neg hbig] at hx;replace HM:=qrf hx;have i2:(L.length:Int)<=65536:=by omega
     have hs:L.length<=65536:=by omega
     clear hx hbig;go_wp2_with fail
     go_loopw [29] (fun i wr=>∃k:Nat,k<=L.length/\i= .int .i64 (k:Int)/\New (w.alloc (.cells #[.string (zai cn),.int .i64 t,.bool nu] 71)) wr/\Hid (∀c∈L.take k,zam c t nu=true)) (fun i _=>L.length-(intOf i).toNat)
     case atStart=>exact⟨0,ql7 _,rfl,qrz _,qrf (by simp)⟩
     case round=>
      clear c0 c1 c2;obtain⟨k,hk,rfl,hW,hr⟩:=hrel;by_cases hlt:k<L.length
      ·obtain⟨ad,rfl,hb,d0,d1,d2,d3,d4⟩:=(qsg HR.out (qr0 N1.out hW)).cell5 hlt
       have htk:=zae L k (false,0,[],0,0) hlt;have hmem:=zd4 (false,0,[],0,0) hlt;have hy:=HL.out _ hmem;have R1:=fun(W:World)=>zga (w:=W) (b:=(L.getD k (false,0,[],0,0)).1) (n:=(L.getD k (false,0,[],0,0)).2.1) (s:=(L.getD k (false,0,[],0,0)).2.2.1) (x:=(L.getD k (false,0,[],0,0)).2.2.2.1) (y:=(L.getD k (false,0,[],0,0)).2.2.2.2) (cn:=cn) (t:=t) (nu:=nu) hy
       have hno:zam (L.getD k (false,0,[],0,0)) t nu=false->M=1:=fun e=>by rw[HM.out,if_neg];intro e2;have:=(qog.1 e2) _ hmem;rw[e] at this;cases this
       have hyes:zam (L.getD k (false,0,[],0,0)) t nu=true-> ∀c∈L.take (k+1),zam c t nu=true:=fun e c hc=>by
        rw[htk] at hc;rcases qnd.1 hc with hc|hc
        ·exact hr.out c hc
        ·rw[qne.1 hc];exact e
       clear htk hmem hy hr;generalize L.getD k (false,0,[],0,0)=y at*;obtain⟨y0,y1,y2,y3,y4⟩:=y;dsimp only at R1 d0 d1 d2 d3 d4;generalize zam (y0,y1,y2,y3,y4) t nu=m at*;have R1:Hid (∀W,Calls Tryz.prog 83 #[.agg #[.bool y0,.int .i64 y1,.string (zai y2),.int .i64 y3,.int .i64 y4],.agg #[.string (zai cn),.int .i64 t,.bool nu]] W (zak (.bool m) W)):=qrf R1;have hno:=qrf hno;have hyes:=qrf hyes;have ha:New wr (wr.alloc (.cells #[.bool y0,.int .i64 y1,.string (zai y2),.int .i64 y3,.int .i64 y4] 75)):=(qq8 _ _).alloc (ql6 _) _;have G2:=(G1.out.below hW G1.out.lt).below ha (G1.out.below hW G1.out.lt).lt;obtain⟨c0,c1,c2⟩:=zar G2;clear G2;have i3:(k:Int)<(L.length:Int):=by omega
       go_wp2_with fail
       refine(R1.out _).mono ?_;rintro e w1 ⟨rfl,b1⟩;have hl:=qr0 (qr0 hW ha) b1;clear c0 c1 c2;cases m with
       |false=>
        have hm:=hno.out (by trivial);have HM2:=qrf hm;clear hno hyes hm;go_wp2_with fail
        go_ret
        rw[HM2.out];exact⟨rfl,qr0 N1.out hl⟩
       |true=>
        have hm:=qrf (hyes.out (by trivial));clear hno hyes;go_wp2_with fail
        go_roundw
        case rel=>exact⟨k+1,by omega,by go_num,hl,hm⟩
        case measure=>simp[intOf];omega
      ·obtain rfl:k=L.length:=by omega
       have hx:M=0:=by rw[HM.out,if_pos];exact qog.2 (by simpa using hr.out)
       subst hx;go_wp2_with fail
       go_ret
       exact⟨rfl,qr0 N1.out hW⟩
 ·rw[decide_eq_false hk] at KN
  rw[if_pos (.inl hk)] at hM;subst hM;have HK:=qrf hk;clear hk F;go_enter Tryz.func125,Tryz.ntmps125
  go_wp2_with fail
  refine(KN.out _).mono ?_;rintro e W0 ⟨rfl,rfl⟩;clear KN;go_wp2_with fail
  go_ret
  exact⟨rfl,N1.out⟩
theorem DecVPost.u{t e:Int}{b:List Nat}{n:Int}{w w':World}{en:Ending}(h:DecVPost t e b n w en w'):
 ∃v k,en= .returned (.tuple #[v,.int .i64 k])/\New w w'/\((k≠0/\(fitsV t e=true->IsVal t e b n none))\/(k=0/\fitsV t e=true/\ ∃l A m c,v= .slice A m c/\IsVal t e b n (some l)/\w'.ownsRow w.heap.size 75 5 (.slice A m c) m (recs za4 l))):=by
 obtain⟨hb,h⟩:=h;rcases h with⟨h1,rfl⟩|⟨h1,h2,rfl⟩|⟨h1,l,A,m,c,h2,rfl,h3⟩
 ·exact⟨_,_,rfl,hb,.inl ⟨by omega,fun q=>by rw[h1] at q;cases q⟩⟩
 ·exact⟨_,_,rfl,hb,.inl ⟨by omega,fun _=>h2⟩⟩
 ·exact⟨_,_,rfl,hb,.inr ⟨rfl,h1,l,A,m,c,rfl,h2,h3⟩⟩
def SheOk(t:Int)(nu:Bool)(p:zbc)(b:List Nat)(l:List zab):Prop:=IsPg t nu b (some l)/\(b.length:Int)=p.1/\(l.length:Int)=p.2.1/\IsStat t l p.2.2
theorem zsg{c:zab}{t:Int}{nu:Bool}(h:zam c t nu=true):zam c t true=true:=by
 cases nu with
 |false=>exact z8o true h
 |true=>exact h
theorem SheOk.uniq{t:Int}{nu:Bool}{p:zbc}{b:List Nat}{l m:List zab}(h:SheOk t nu p b l)(k:SheOk t nu p b m):l=m:=by have:=h.1.uniq k.1;injection this
theorem qkq{t:Int}{nu:Bool}{e:Int}{l:List zab}(h:ckE t nu e l=0):(0<=t/\t<=3)/\l.length<=65536/\(∀c∈l,zam c t nu=true)/\fitsV t (encOf t e l)=true:=by
 unfold ckE at h;split at h
 ·omega
 ·rename_i h1
  split at h
  ·omega
  ·rename_i h2
   split at h
   ·rename_i h3
    rw[qog] at h3;have ht:0<=t/\t<=3:=by
     by_cases q:0<=t/\t<=3
     ·exact q
     ·exact absurd (.inl q) h1
    refine⟨ht,by omega,h3,?_⟩;unfold encOf;split
    ·exact(zvz (z8p ht (by omega) h3)).1
    ·rename_i he
     cases hf:fitsV t e with
     |true=>rfl
     |false=>exact absurd (.inr ⟨he,hf⟩) h1
   ·omega
theorem z4m{l:List zab}(h:∀y∈l,CellFine y):∀y∈zed l,CellFine y:=fun y hy=>h y (by unfold zed at hy;exact(qqv.1 hy).1)
theorem zzg{w:World}{cn:List Nat}{t:Int}{nu:Bool}{e:Int}{A:Option Addr}{n c:Nat}{L:List zab}(h:Reads w w.heap.size 5 A n (recs za4 L))(hL:∀y∈L,CellFine y)(hn:n<=4611686018427387903):
 Calls Tryz.prog 108 #[.agg #[.string (zai cn),.int .i64 t,.bool nu],.int .i64 e,.slice A n c] w (zjt (pgE t nu e L) w):=by
 obtain rfl:=h.lenCell;have n1:New w (w.alloc (.cells #[.string (zai cn),.int .i64 t,.bool nu] 71)):=(qq8 _ _).alloc (ql6 _) _;have g1:Blk (w.alloc (.cells #[.string (zai cn),.int .i64 t,.bool nu] 71)) w.heap.size 71 #[.string (zai cn),.int .i64 t,.bool nu]:=qrv _ _ _;have HD:Hid (∀y∈L,zat y):=qrf (fun y hy=>zlh (hL y hy));have CK:=qrf (z4i (cn:=cn) (t:=t) (nu:=nu) (e:=e) (c:=c) (qsg h n1) (fun y hy=>(hL y hy).1.1) hn);have HP:=qrf (qjl t nu e L);have HX:=qrf (fun k b=>zzb (t:=t) (nu:=nu) (e:=e) (l:=L) (b:=b) (k:=k) HD.out);have H0:=qrf (@qkq t nu e L);have HR:=qrf (qsg h n1);have HF:=qrf hL;have HE:Hid (encOf t e L=if e= -1 then bestV t (zed L) else e):=qrf rfl;generalize hX:pgE t nu e L=X at*;generalize ckE t nu e L=M at*;generalize encOf t e L=E at*;have N1:=qrf n1;have G1:=qrf g1;obtain⟨c0,c1,c2⟩:=zar g1;clear h hL g1 n1 hX;go_enter Tryz.func108,Tryz.ntmps108
 go_wp2_with fail
 refine CK.out.mono ?_;rintro e W1 ⟨rfl,b1⟩;clear CK c0 c1 c2;by_cases hm:M=0
 ·subst hm
  obtain⟨ht,hl6,hr,hf⟩:=H0.out rfl;have hp:=HP.out;rw[if_pos rfl] at hp;replace HP:=qrf hp;clear hp H0;have hfe:=(ztt hf).1;obtain⟨q,rfl⟩:=qn1 hfe.1;have hvl:=ztx L;have SP:=qrf (zra (c:=c) (qsg HR.out b1) hl6);have VE:Hid (zy9 t (q:Int) (zed L)=match zf1 t (q:Int) (zed L) with|some d=>(0,d)|none=>(1,[])):=qrf (by unfold zy9;rw[if_pos hf];generalize zf1 t (q:Int) (zed L)=Z;cases Z<;> rfl);have VL:Hid (∀d,zf1 t (q:Int) (zed L)=some d->d.length<=100000000000):=qrf (fun d hd=>z1m (zpt HD.out) hd);have HVF:=qrf (z4m HF.out);have HS:=qrf (zsf hl6);have HVL:=qrf (zas (n:=L.length) (by omega));have hq4:q<=4:=by omega
  clear hr hf hfe ht;go_wp2_with fail
  refine SP.out.mono ?_;rintro e W2 ⟨A1,m1,k1,A2,m2,k2,rfl,o1,o2,b2⟩;clear SP;have R2:=qrf (qrt o2);have b12:=qr0 b1 b2;obtain⟨c0,c1,c2⟩:=zar (G1.out.below b12 G1.out.lt);have hm2:m2<=65536:=by have:=R2.out.lenCell;omega
  by_cases he:e= -1
  ·subst he
   have hE:=HE.out;rw[if_pos rfl] at hE;have B:=qrf (z9s (t:=t) (c:=k2) R2.out HVF.out hm2);rw[<-hE] at B;clear hE;go_wp2_with fail
   refine B.out.mono ?_;rintro e W3 ⟨rfl,b3⟩;clear B;have V:=qrf (zkh (t:=t) (e:=(q:Int)) (c:=k2) (qsg R2.out b3) HVF.out hm2);have b13:=qr0 b12 b3;clear c0 c1 c2;obtain⟨c0,c1,c2⟩:=zar (G1.out.below b13 G1.out.lt);obtain rfl:m1=(zc6 L).length:=by simpa[zah] using o1.len
   have R1:=qrf (qso (show BytIn W2 (A1,k1,zc6 L) from o1.reads) b3);generalize zf1 t (q:Int) (zed L)=Y at*;generalize zy9 t (q:Int) (zed L)=Z at*;go_wp2_with fail
   refine V.out.mono ?_;rintro e W4 ⟨A3,m3,k3,rfl,o3,b4⟩;clear V;have b14:=qr0 b13 b4;clear c0 c1 c2;obtain⟨c0,c1,c2⟩:=zar (G1.out.below b14 G1.out.lt);cases Y with
   |none=>
    have hz:Z=(1,[]):=VE.out;have hx:X=(1,[]):=HP.out;subst hz hx;go_wp2_with fail
    go_ret2
    exact⟨none,0,0,rfl,qru,qr0 N1.out b14⟩
   |some d=>
    have hz:Z=(0,d):=VE.out;have hx:X=(0,q::(vp L.length++((if nu=true then zc6 L else [])++d))):=HP.out;subst hz;have hdl:=VL.out d rfl;obtain rfl:m3=d.length:=by simpa[zah] using o3.len
    have R3:=qrf (show BytIn W4 (A3,k3,d) from o3.reads);have R1b:=qrf (qso R1.out b4);obtain⟨c3,hc3⟩:∃c3:Value,c3= .int .u8 (q:Int):=⟨_,rfl⟩;have iw:IntKind.u8.wrap (q:Int)=(q:Int):=by rw[qrg];omega
    have n5:New W4 (W4.alloc (.cells #[.int .u8 (q:Int)] 5)):=(qq8 _ _).alloc (ql6 _) _;have R5:Hid (BytIn (W4.alloc (.cells #[.int .u8 (q:Int)] 5)) (some ⟨W4.heap.size,0,none⟩,1,[q])):=qrf (qsf _ _ _ 1 _ rfl rfl);have P:=qrf (zc9 none 0 0 [] L.length (W4.alloc (.cells #[.int .u8 (q:Int)] 5)) qrs (by omega) (by omega));have iz:IntKind.u64.wrap (L.length:Int)=(L.length:Int):=by rw[qrj];omega
    clear hc3 c3;cases nu with
    |false=>
     go_wp2_with fail
     refine P.out.mono ?_;rintro e W5 ⟨A5,m5,k5,rfl,o5,b5⟩;clear P;rw[qmx] at o5;obtain rfl:m5=(vp L.length).length:=by simpa[zah] using o5.len
     have R6:=qrf (show BytIn W5 (A5,k5,vp L.length) from o5.reads);have n6:New W5 (W5.alloc (.cells #[.slice (some ⟨W4.heap.size,0,none⟩) 1 1,.slice A5 (vp L.length).length k5,.slice none 0 0,.slice A3 d.length k3] 24)):=(qq8 _ _).alloc (ql6 _) _;have hfd:zdd [(some ⟨W4.heap.size,0,none⟩,1,[q]),(A5,k5,vp L.length),(none,0,[]),(A3,k3,d)]=q::(vp L.length++d):=by simp[zdd]
     have C:=qrf (zgm (w:=W5.alloc (.cells #[.slice (some ⟨W4.heap.size,0,none⟩) 1 1,.slice A5 (vp L.length).length k5,.slice none 0 0,.slice A3 d.length k3] 24)) (c:=4) (D:=[(some ⟨W4.heap.size,0,none⟩,1,[q]),(A5,k5,vp L.length),(none,0,[]),(A3,k3,d)]) (qsf _ _ _ 4 _ rfl rfl) (by
      intro x hx;rcases qnu.1 hx with rfl|hx
      ·exact qso R5.out (qr0 b5 n6)
      rcases qnu.1 hx with rfl|hx
      ·exact qso R6.out n6
      rcases qnu.1 hx with rfl|hx
      ·exact qrs
      obtain rfl:=qne.1 hx;exact qso R3.out (qr0 n5 (qr0 b5 n6))) (by omega) (by rw[hfd];have:=HVL.out;simp only[qm9,qmv];omega))
     rw[hfd] at C;have HC:Hid (X=(0,q::(vp L.length++d))):=qrf (hx.trans (by simp));clear hx hfd;generalize vp L.length=vL at*;go_wp2_with fail
     refine C.out.mono ?_;rintro e W6 ⟨A6,m6,k6,rfl,o6,b6⟩;clear C;go_wp2_with fail
     go_ret2
     rw[HC.out];exact⟨A6,m6,k6,rfl,o6.base_le (by have:=N1.out.size;have:=b14.size;have:=n5.size;have:=b5.size;have:=n6.size;omega),qr0 N1.out (qr0 b14 (qr0 n5 (qr0 b5 (qr0 n6 b6))))⟩
    |true=>
     go_wp2_with fail
     refine P.out.mono ?_;rintro e W5 ⟨A5,m5,k5,rfl,o5,b5⟩;clear P;rw[qmx] at o5;obtain rfl:m5=(vp L.length).length:=by simpa[zah] using o5.len
     have R6:=qrf (show BytIn W5 (A5,k5,vp L.length) from o5.reads);have n6:New W5 (W5.alloc (.cells #[.slice (some ⟨W4.heap.size,0,none⟩) 1 1,.slice A5 (vp L.length).length k5,.slice A1 (zc6 L).length k1,.slice A3 d.length k3] 24)):=(qq8 _ _).alloc (ql6 _) _;have hfd:zdd [(some ⟨W4.heap.size,0,none⟩,1,[q]),(A5,k5,vp L.length),(A1,k1,zc6 L),(A3,k3,d)]=q::(vp L.length++(zc6 L++d)):=by simp[zdd]
     have C:=qrf (zgm (w:=W5.alloc (.cells #[.slice (some ⟨W4.heap.size,0,none⟩) 1 1,.slice A5 (vp L.length).length k5,.slice A1 (zc6 L).length k1,.slice A3 d.length k3] 24)) (c:=4) (D:=[(some ⟨W4.heap.size,0,none⟩,1,[q]),(A5,k5,vp L.length),(A1,k1,zc6 L),(A3,k3,d)]) (qsf _ _ _ 4 _ rfl rfl) (by
      intro x hx;rcases qnu.1 hx with rfl|hx
      ·exact qso R5.out (qr0 b5 n6)
      rcases qnu.1 hx with rfl|hx
      ·exact qso R6.out n6
      rcases qnu.1 hx with rfl|hx
      ·exact qso R1b.out (qr0 n5 (qr0 b5 n6))
      obtain rfl:=qne.1 hx;exact qso R3.out (qr0 n5 (qr0 b5 n6))) (by omega) (by rw[hfd];have:=HVL.out;have:=HS.out;simp only[qm9,qmv];omega))
     rw[hfd] at C;have HC:Hid (X=(0,q::(vp L.length++(zc6 L++d)))):=qrf (hx.trans (by simp));clear hx hfd;generalize vp L.length=vL at*;generalize zc6 L=sL at*;go_wp2_with fail
     refine C.out.mono ?_;rintro e W6 ⟨A6,m6,k6,rfl,o6,b6⟩;clear C;go_wp2_with fail
     go_ret2
     rw[HC.out];exact⟨A6,m6,k6,rfl,o6.base_le (by have:=N1.out.size;have:=b14.size;have:=n5.size;have:=b5.size;have:=n6.size;omega),qr0 N1.out (qr0 b14 (qr0 n5 (qr0 b5 (qr0 n6 b6))))⟩
  ·have hE:=HE.out
   rw[if_neg he] at hE;subst hE;have i1:((q:Int)== -1)=false:=beq_eq_false_iff_ne.2 (by omega);have b3:New W2 W2:=qrz _;clear he;have V:=qrf (zkh (t:=t) (e:=(q:Int)) (c:=k2) (qsg R2.out b3) HVF.out hm2);have b13:=qr0 b12 b3;clear c0 c1 c2;obtain⟨c0,c1,c2⟩:=zar (G1.out.below b13 G1.out.lt);obtain rfl:m1=(zc6 L).length:=by simpa[zah] using o1.len
   have R1:=qrf (qso (show BytIn W2 (A1,k1,zc6 L) from o1.reads) b3);generalize zf1 t (q:Int) (zed L)=Y at*;generalize zy9 t (q:Int) (zed L)=Z at*;go_wp2_with fail
   refine V.out.mono ?_;rintro e W4 ⟨A3,m3,k3,rfl,o3,b4⟩;clear V;have b14:=qr0 b13 b4;clear c0 c1 c2;obtain⟨c0,c1,c2⟩:=zar (G1.out.below b14 G1.out.lt);cases Y with
   |none=>
    have hz:Z=(1,[]):=VE.out;have hx:X=(1,[]):=HP.out;subst hz hx;go_wp2_with fail
    go_ret2
    exact⟨none,0,0,rfl,qru,qr0 N1.out b14⟩
   |some d=>
    have hz:Z=(0,d):=VE.out;have hx:X=(0,q::(vp L.length++((if nu=true then zc6 L else [])++d))):=HP.out;subst hz;have hdl:=VL.out d rfl;obtain rfl:m3=d.length:=by simpa[zah] using o3.len
    have R3:=qrf (show BytIn W4 (A3,k3,d) from o3.reads);have R1b:=qrf (qso R1.out b4);obtain⟨c3,hc3⟩:∃c3:Value,c3= .int .u8 (q:Int):=⟨_,rfl⟩;have iw:IntKind.u8.wrap (q:Int)=(q:Int):=by rw[qrg];omega
    have n5:New W4 (W4.alloc (.cells #[.int .u8 (q:Int)] 5)):=(qq8 _ _).alloc (ql6 _) _;have R5:Hid (BytIn (W4.alloc (.cells #[.int .u8 (q:Int)] 5)) (some ⟨W4.heap.size,0,none⟩,1,[q])):=qrf (qsf _ _ _ 1 _ rfl rfl);have P:=qrf (zc9 none 0 0 [] L.length (W4.alloc (.cells #[.int .u8 (q:Int)] 5)) qrs (by omega) (by omega));have iz:IntKind.u64.wrap (L.length:Int)=(L.length:Int):=by rw[qrj];omega
    clear hc3 c3;cases nu with
    |false=>
     go_wp2_with fail
     refine P.out.mono ?_;rintro e W5 ⟨A5,m5,k5,rfl,o5,b5⟩;clear P;rw[qmx] at o5;obtain rfl:m5=(vp L.length).length:=by simpa[zah] using o5.len
     have R6:=qrf (show BytIn W5 (A5,k5,vp L.length) from o5.reads);have n6:New W5 (W5.alloc (.cells #[.slice (some ⟨W4.heap.size,0,none⟩) 1 1,.slice A5 (vp L.length).length k5,.slice none 0 0,.slice A3 d.length k3] 24)):=(qq8 _ _).alloc (ql6 _) _;have hfd:zdd [(some ⟨W4.heap.size,0,none⟩,1,[q]),(A5,k5,vp L.length),(none,0,[]),(A3,k3,d)]=q::(vp L.length++d):=by simp[zdd]
     have C:=qrf (zgm (w:=W5.alloc (.cells #[.slice (some ⟨W4.heap.size,0,none⟩) 1 1,.slice A5 (vp L.length).length k5,.slice none 0 0,.slice A3 d.length k3] 24)) (c:=4) (D:=[(some ⟨W4.heap.size,0,none⟩,1,[q]),(A5,k5,vp L.length),(none,0,[]),(A3,k3,d)]) (qsf _ _ _ 4 _ rfl rfl) (by
      intro x hx;rcases qnu.1 hx with rfl|hx
      ·exact qso R5.out (qr0 b5 n6)
      rcases qnu.1 hx with rfl|hx
      ·exact qso R6.out n6
      rcases qnu.1 hx with rfl|hx
      ·exact qrs
      obtain rfl:=qne.1 hx;exact qso R3.out (qr0 n5 (qr0 b5 n6))) (by omega) (by rw[hfd];have:=HVL.out;simp only[qm9,qmv];omega))
     rw[hfd] at C;have HC:Hid (X=(0,q::(vp L.length++d))):=qrf (hx.trans (by simp));clear hx hfd;generalize vp L.length=vL at*;go_wp2_with fail
     refine C.out.mono ?_;rintro e W6 ⟨A6,m6,k6,rfl,o6,b6⟩;clear C;go_wp2_with fail
     go_ret2
     rw[HC.out];exact⟨A6,m6,k6,rfl,o6.base_le (by have:=N1.out.size;have:=b14.size;have:=n5.size;have:=b5.size;have:=n6.size;omega),qr0 N1.out (qr0 b14 (qr0 n5 (qr0 b5 (qr0 n6 b6))))⟩
    |true=>
     go_wp2_with fail
     refine P.out.mono ?_;rintro e W5 ⟨A5,m5,k5,rfl,o5,b5⟩;clear P;rw[qmx] at o5;obtain rfl:m5=(vp L.length).length:=by simpa[zah] using o5.len
     have R6:=qrf (show BytIn W5 (A5,k5,vp L.length) from o5.reads);have n6:New W5 (W5.alloc (.cells #[.slice (some ⟨W4.heap.size,0,none⟩) 1 1,.slice A5 (vp L.length).length k5,.slice A1 (zc6 L).length k1,.slice A3 d.length k3] 24)):=(qq8 _ _).alloc (ql6 _) _;have hfd:zdd [(some ⟨W4.heap.size,0,none⟩,1,[q]),(A5,k5,vp L.length),(A1,k1,zc6 L),(A3,k3,d)]=q::(vp L.length++(zc6 L++d)):=by simp[zdd]
     have C:=qrf (zgm (w:=W5.alloc (.cells #[.slice (some ⟨W4.heap.size,0,none⟩) 1 1,.slice A5 (vp L.length).length k5,.slice A1 (zc6 L).length k1,.slice A3 d.length k3] 24)) (c:=4) (D:=[(some ⟨W4.heap.size,0,none⟩,1,[q]),(A5,k5,vp L.length),(A1,k1,zc6 L),(A3,k3,d)]) (qsf _ _ _ 4 _ rfl rfl) (by
      intro x hx;rcases qnu.1 hx with rfl|hx
      ·exact qso R5.out (qr0 b5 n6)
      rcases qnu.1 hx with rfl|hx
      ·exact qso R6.out n6
      rcases qnu.1 hx with rfl|hx
      ·exact qso R1b.out (qr0 n5 (qr0 b5 n6))
      obtain rfl:=qne.1 hx;exact qso R3.out (qr0 n5 (qr0 b5 n6))) (by omega) (by rw[hfd];have:=HVL.out;have:=HS.out;simp only[qm9,qmv];omega))
     rw[hfd] at C;have HC:Hid (X=(0,q::(vp L.length++(zc6 L++d)))):=qrf (hx.trans (by simp));clear hx hfd;generalize vp L.length=vL at*;generalize zc6 L=sL at*;go_wp2_with fail
     refine C.out.mono ?_;rintro e W6 ⟨A6,m6,k6,rfl,o6,b6⟩;clear C;go_wp2_with fail
     go_ret2
     rw[HC.out];exact⟨A6,m6,k6,rfl,o6.base_le (by have:=N1.out.size;have:=b14.size;have:=n5.size;have:=b5.size;have:=n6.size;omega),qr0 N1.out (qr0 b14 (qr0 n5 (qr0 b5 (qr0 n6 b6))))⟩
 ·have hp:=HP.out
  rw[if_neg hm] at hp;subst hp;have i1:(M==0)=false:=by simpa using hm
  clear hm;go_wp2_with fail
  go_ret2
  exact⟨none,0,0,rfl,qru,qr0 N1.out b1⟩
end Go.Proofs.Y
