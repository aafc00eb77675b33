/- Merged. -/
import Derived.Laws.EntriesVeiled
import Derived.Test.YtmgfkpnghlmheaaGreatBun23
import Derived.Test.YtmgfkpnghlmheaaGreatBun35
set_option maxHeartbeats 4000000
namespace Go.Proofs.Y
open Go.RowKit Go.Hm
def encOf(t e:Int)(l:List zab):Int:=if e= -1 then bestV t (zbz l) else e
def pgE(t:Int)(nu:Bool)(e:Int)(l:List zab):Int × List Nat:=
 if¬(0<=t/\t<=3)\/(e≠ -1/\fitsV t e=false) then(3,[])
 else if 65536<l.length then(4,[])
 else if(l.all fun c=>zac c t nu)=true then
  (match zdh t (encOf t e l) (zbz l) with
  |some d=>(0,(encOf t e l).toNat::(vp l.length++((if nu=true then zb3 l else [])++d)))
  |none=>(1,[]))
 else(1,[])
theorem zrc{l:List zab}{t:Int}{nu:Bool}(h:∀c∈l,zac c t nu=true):∀c∈zbz l,zac c t false=true:=fun c hc=>by
 unfold zbz at hc;rw[List.mem_filter] at hc;have h1:=h c hc.1;have h2:c.1=false:=by simpa using hc.2
 unfold zac at h1⊢;rw[h2] at h1⊢;exact h1
theorem zrd{c:zab}{t:Int}{nu:Bool}(h:zac c t nu=true)(hn:c.1=true):c=nullC/\nu=true:=by
 obtain⟨y0,y1,y2,y3,y4⟩:=c;dsimp only at hn;subst hn;have e:nu=true/\y1=0/\y2=[]/\y3=0/\y4=0:=by simpa[zac] using h
 obtain⟨e1,rfl,rfl,rfl,rfl⟩:=e;exact⟨rfl,e1⟩
theorem z2a{l:List zab}{t:Int}{nu:Bool}(h:∀c∈l,zac c t nu=true):l.map zu0=l:=by
 conv=>rhs;rw[<-List.map_id l]
 refine List.map_congr_left fun c hc=>?_
 unfold zu0;split
 ·rename_i hn
  exact(zrd (h c hc) hn).1.symm
 ·rfl
theorem zu2{c:zab}{t:Int}(nu:Bool)(h:zac c t false=true):zac c t nu=true:=by have h0:=zge h;unfold zac at h⊢;rw[h0] at h⊢;exact h
theorem zzu{l:List zab}{t:Int}(h:∀c∈l,zac c t false=true):zbz l=l:=by unfold zbz;rw[List.filter_eq_self];intro c hc;rw[zge (h c hc)];rfl
theorem zxi{l:List zab}{t:Int}{nu:Bool}(ht:0<=t/\t<=3)(hl:l.length<=65536)(h:∀c∈l,zac c t nu=true):zhs t (zbz l)=true:=
 plOk_iff.2 ⟨⟨ht.1,ht.2,Nat.le_trans (znj l) hl⟩,zrc h⟩
theorem zg7{t:Int}{nu:Bool}{e:Int}{l:List zab}{b:List Nat}(h:pgE t nu e l=(0,b)):
 (0<=t/\t<=3)/\l.length<=65536/\(∀c∈l,zac c t nu=true)/\fitsV t (encOf t e l)=true/\ ∃d,zdh t (encOf t e l) (zbz l)=some d/\b=(encOf t e l).toNat::(vp l.length++((if nu=true then zb3 l else [])++d)):=by
 unfold pgE at h;split at h
 ·injection h with h _
  omega
 ·rename_i h1
  split at h
  ·injection h with h _
   omega
  ·rename_i h2
   split at h
   ·rename_i h3
    rw[List.all_eq_true] at h3;have ht:0<=t/\t<=3:=by
     by_cases q:0<=t/\t<=3
     ·exact q
     ·exact absurd (.inl q) h1
    split at h
    ·rename_i d hd
     injection h with _ h;refine⟨ht,by omega,h3,?_,d,hd,h.symm⟩;unfold encOf;split
     ·exact(zov (zxi ht (by omega) h3)).1
     ·rename_i he
      cases hf:fitsV t e with
      |true=>rfl
      |false=>exact absurd (.inr ⟨he,hf⟩) h1
    ·injection h with h _
     omega
   ·injection h with h _
    omega
theorem qbt{t:Int}{nu:Bool}{e:Int}{l:List zab}{b:List Nat}(h:pgE t nu e l=(0,b)):pgE t nu (encOf t e l) l=(0,b):=by
 obtain⟨ht,hl,hr,hf,d,hd,hb⟩:=zg7 h;have hne:encOf t e l≠ -1:=by have:=(zf0 hf).1;omega
 have e2:encOf t (encOf t e l) l=encOf t e l:=by show(if encOf t e l= -1 then _ else _)=_;rw[if_neg hne]
 rw[pgE,if_neg (by rintro(q|⟨_,q⟩);exact q ht;rw[hf] at q;cases q),if_neg (by omega),if_pos (List.all_eq_true.2 hr),e2,hd,hb]
structure IsPg(t:Int)(nu:Bool)(b:List Nat)(o:Option (List zab)):Prop where
 sound:∀l,o=some l->(∃e,fitsV t e=true/\pgE t nu e l=(0,b))/\ ∀c∈l,zai c
 compl:∀l,(∀c∈l,zai c)->(∃e,fitsV t e=true/\pgE t nu e l=(0,b))->o=some l
theorem IsPg.uniq{t:Int}{nu:Bool}{b:List Nat}{o p:Option (List zab)}(h:IsPg t nu b o)(k:IsPg t nu b p):o=p:=by
 cases o with
 |some l=>obtain⟨a,c⟩:=h.sound l rfl;exact(k.compl l c a).symm
 |none=>
  cases p with
  |none=>rfl
  |some l=>obtain⟨a,c⟩:=k.sound l rfl;exact h.compl l c a
theorem ziq{l:List zab}(h:∀c∈l,zai c):∀c∈zbz l,zai c:=fun c hc=>h c (by unfold zbz at hc;exact(List.mem_filter.1 hc).1)
theorem z6n:zai nullC:=⟨⟨by simp[nullC],by simp[nullC]⟩,by simp[nullC]⟩
theorem zox(S:St):zbc S=(0,none)\/ ∃y r,S=some (y::r)/\zbc S=(y,some r):=by
 unfold zbc;split
 ·rename_i y r
  exact .inr ⟨y,r,rfl,rfl⟩
 ·exact .inl rfl
def qgq(t:Int)(e:Nat)(S:St)(ov:Option (List zab)):Option (List zab):=if S=none\/fitsV t (e:Int)=false then none else ov
theorem zk1{t:Int}{b x:List Nat}{e n:Nat}{S1 S2:St}{ov:Option (List zab)}(h8:∀x∈b,x<256)
 (k1:zbc (some b)=(e,S1))(k2:lenS 65536 S1=(n,S2))(k3:S2.getD []=x)(hv:fitsV t (e:Int)=true->IsVal t (e:Int) x (n:Int) ov):IsPg t false b (qgq t e S2 ov):=by
 constructor
 ·intro l hl
  unfold qgq at hl;split at hl
  ·cases hl
  ·rename_i hc
   have hf:fitsV t (e:Int)=true:=by
    cases q:fitsV t (e:Int) with
    |true=>rfl
    |false=>exact absurd (.inr q) hc
   have hS:S2≠none:=fun q=>hc (.inl q)
   obtain⟨v1,v2,v3⟩:=(hv hf).sound l hl;obtain⟨⟨t0,t1,hl6⟩,hr⟩:=plOk_iff.1 (zlw v2);have hne:(e:Int)≠ -1:=by omega
   refine⟨⟨(e:Int),hf,?_⟩,v3⟩;have e2:encOf t (e:Int) l=(e:Int):=by unfold encOf;rw[if_neg hne]
   rw[pgE,if_neg (by rintro(q|⟨_,q⟩);exact q ⟨t0,t1⟩;rw[hf] at q;cases q),if_neg (by omega),if_pos (List.all_eq_true.2 hr),e2,zzu hr,v2];dsimp only;rw[if_neg (by simp),List.nil_append,Int.toNat_natCast];congr 1
   rcases zox (some b) with q|⟨y,r,q1,q⟩
   ·rw[q] at k1
    injection k1 with _ k1;subst k1;rw[zgw] at k2;injection k2 with _ k2;exact absurd k2.symm hS
   ·rw[q] at k1
    injection k1 with k1 k1';subst k1 k1';injection q1 with q1;rcases zbq 65536 (some r) (St.ok_some fun z hz=>h8 z (by rw[q1];simp[hz])) with p|⟨N,r1,e1,p1,_,p⟩
    ·rw[p] at k2
     injection k2 with _ k2;exact absurd k2.symm hS
    ·rw[p] at k2
     injection k2 with k2 k2';subst k2 k2';injection e1 with e1;simp only[Option.getD_some] at k3;rw[q1,e1,k3,show l.length=N by omega]
 ·rintro l hd ⟨e',hf,hB⟩
  obtain⟨ht,hl6,hr,-,d,hd2,hb⟩:=zg7 hB;have hne:e'≠ -1:=by have:=(zf0 hf).1;omega
  have e2:encOf t e' l=e':=by unfold encOf;rw[if_neg hne]
  have hev:=zzu hr;rw[e2,hev] at hd2;rw[e2,if_neg (by simp),List.nil_append] at hb;rw[hb] at k1;simp only[zbc] at k1;injection k1 with k1 k1';subst k1 k1';rw[zb2 _ _ (by omega) (by omega)] at k2;injection k2 with k2 k2';subst k2 k2';simp only[Option.getD_some] at k3;subst k3;have h0:=(zf0 hf).1;have ee:((e'.toNat:Nat):Int)=e':=by omega
  unfold qgq;rw[ee] at hv⊢;rw[if_neg (by rintro(q|q);cases q;rw[hf] at q;cases q)];exact(hv hf).compl l hd rfl hd2
def qgr(t:Int)(e:Nat)(S:St)(U:Option (List Nat))(ov:Option (List zab)):Option (List zab):=if S=none\/fitsV t (e:Int)=false then none else match ov with|none=>none|some r=>zow U r
theorem zzv{t:Int}{b bits x:List Nat}{e n:Nat}{S1 S2 S3:St}{ov:Option (List zab)}(h8:∀x∈b,x<256)
 (k1:zbc (some b)=(e,S1))(k2:lenS 65536 S1=(n,S2))(k4:zbt (((n+7)/8:Nat):Int) S2=(bits,S3))(k3:S3.getD []=x)(hv:fitsV t (e:Int)=true->IsVal t (e:Int) x (zp8 (zbf bits 1 (n:Int))) ov):IsPg t true b (qgr t e S3 (zbf bits 1 (n:Int)) ov):=by
 constructor
 ·intro l hl
  unfold qgr at hl;split at hl
  ·cases hl
  ·rename_i hc
   have hf:fitsV t (e:Int)=true:=by
    cases q:fitsV t (e:Int) with
    |true=>rfl
    |false=>exact absurd (.inr q) hc
   have hS:S3≠none:=fun q=>hc (.inl q)
   cases ov with
   |none=>cases hl
   |some r=>
    dsimp only at hl;obtain⟨v1,v2,v3⟩:=(hv hf).sound r rfl;obtain⟨⟨t0,t1,hl6⟩,hr⟩:=plOk_iff.1 (zlw v2);cases hU:zbf bits 1 (n:Int) with
    |none=>rw[hU] at hl;cases hl
    |some m=>
     rw[hU] at hl;unfold zow at hl;dsimp only at hl;split at hl
     ·rename_i hsum
      have hbits8:∀z∈bits,z<256:=by
       intro z hz;rcases zca (((n+7)/8:Nat):Int) S2 with p|⟨l2,p1,_,_,p⟩
       ·rw[p] at k4
        injection k4 with k4 _;rw[<-k4] at hz;cases hz
       ·rw[p] at k4
        injection k4 with k4 _;rw[<-k4] at hz;have hz:=List.mem_of_mem_take hz;have hok2:St.ok S2:=by
         have:=za6 (m:=65536) (S:=S1) (by have:=zt7 (S:=some b) (St.ok_some h8);rw[k1] at this;exact this)
         rw[k2] at this;exact this
        exact hok2 l2 p1 z hz
      obtain⟨u1,u2,u3,u4⟩:=zsy hbits8 hU;obtain⟨s1,s2,s3⟩:=zly m r l u3 hsum hl;have hz:l.map zu0=l:=by have:=zra l;rw[s1,s2,hl] at this;injection this with this;exact this.symm
      have hlen:l.length<=65536:=by omega
      have hbs:bits=zb3 l:=by have:=zrb hlen;rw[s1,u1] at this;injection this
      have hrl:∀c∈l,zac c t true=true:=by
       intro c hc;cases hn:c.1 with
       |true=>
        obtain⟨i,hi,rfl⟩:=List.getElem_of_mem hc;have h1:(l.map zu0)[i]'(by simpa using hi)=l[i]:=by simp only[hz]
        rw[List.getElem_map] at h1;unfold zu0 at h1;rw[hn] at h1;rw[<-h1];simp[zac,nullC]
       |false=>
        refine zu2 true (hr c ?_);rw[<-s2];unfold zbz;rw[List.mem_filter];exact⟨hc,by simp[hn]⟩
      have hdl:∀c∈l,zai c:=by
       intro c hc;cases hn:c.1 with
       |true=>
        rw[(zrd (hrl c hc) hn).1];exact z6n
       |false=>
        refine v3 c ?_;rw[<-s2];unfold zbz;rw[List.mem_filter];exact⟨hc,by simp[hn]⟩
      refine⟨⟨(e:Int),hf,?_⟩,hdl⟩;have hne:(e:Int)≠ -1:=by omega
      have e2:encOf t (e:Int) l=(e:Int):=by unfold encOf;rw[if_neg hne]
      rw[pgE,if_neg (by rintro(q|⟨_,q⟩);exact q ⟨t0,t1⟩;rw[hf] at q;cases q),if_neg (by omega),if_pos (List.all_eq_true.2 hrl),e2,s2,v2];dsimp only;rw[if_pos rfl,Int.toNat_natCast];congr 1
      rcases zox (some b) with q|⟨y,rr,q1,q⟩
      ·rw[q] at k1
       injection k1 with _ k1;subst k1;rw[zgw] at k2;injection k2 with _ k2;subst k2;rw[zdr] at k4;injection k4 with _ k4;exact absurd k4.symm hS
      ·rw[q] at k1
       injection k1 with k1 k1';subst k1 k1';injection q1 with q1;rcases zbq 65536 (some rr) (St.ok_some fun z hz=>h8 z (by rw[q1];simp[hz])) with p|⟨N,r1,e1,p1,_,p⟩
       ·rw[p] at k2
        injection k2 with _ k2;subst k2;rw[zdr] at k4;injection k4 with _ k4;exact absurd k4.symm hS
       ·rw[p] at k2
        injection k2 with k2 k2';subst k2 k2';injection e1 with e1;rcases zca (((N+7)/8:Nat):Int) (some r1) with p2|⟨l2,p3,_,p4,p2⟩
        ·rw[p2] at k4
         injection k4 with _ k4;exact absurd k4.symm hS
        ·rw[p2] at k4
         injection k4 with k4 k4';injection p3 with p3;subst p3;rw[<-k4'] at k3;simp only[Option.getD_some] at k3;rw[q1,e1,show l.length=N by omega,<-hbs,<-k4,<-k3];simp
     ·cases hl
 ·rintro l hd ⟨e',hf,hB⟩
  obtain⟨ht,hl6,hr,-,d,hd2,hb⟩:=zg7 hB;have hne:e'≠ -1:=by have:=(zf0 hf).1;omega
  have e2:encOf t e' l=e':=by unfold encOf;rw[if_neg hne]
  rw[e2] at hd2;rw[e2,if_pos rfl] at hb;rw[hb] at k1;simp only[zbc] at k1;injection k1 with k1 k1';subst k1 k1';rw[zb2 _ _ (by omega) (by omega)] at k2;injection k2 with k2 k2';subst k2 k2';have hsl:(zb3 l).length=(l.length+7)/8:=by unfold zb3;rw[zbg,zek,Nat.one_mul]
  have ht2:=zdf (zb3 l) d;rw[hsl] at ht2;rw[ht2] at k4;injection k4 with k4 k4';subst k4 k4';simp only[Option.getD_some] at k3;subst k3;rw[zu1 hl6] at hv⊢;have hcn:zp8 (some (zcb l))=((zbz l).length:Int):=by unfold zp8;dsimp only;rw[zzt]
  rw[hcn] at hv;have h0:=(zf0 hf).1;have ee:((e'.toNat:Nat):Int)=e':=by omega
  unfold qgr;rw[ee] at hv⊢;rw[if_neg (by rintro(q|q);cases q;rw[hf] at q;cases q),(hv hf).compl (zbz l) (ziq hd) rfl hd2];dsimp only;rw[joinO_eqP (zzt l),zra,z2a hr]
where
 joinO_eqP {m:List Nat} {r:List zab} (h:m.sum=r.length):zow (some m) r=zf1 m r:=by rw[zow];simp[h]
theorem qfz{t:Int}{nu:Bool}{b:List Nat}(h: ¬(0<=t/\t<=3)):IsPg t nu b none:=
 ⟨fun l e=>(by cases e),fun l _ ⟨_,_,hB⟩=>absurd (zg7 hB).1 h⟩
end Go.Proofs.Y
namespace Go.Hm
def headL_film:List Nat:=[72,89,80,79]
def tailL:List Nat:=[79,80,89,72]
def ownN(b:List Nat):Nat:=num ((b.drop (b.length-8)).take 4)
def zoy(b:List Nat):Option (List Nat):=
 if b.length<12\/b.take 4≠headL_film\/b.drop (b.length-4)≠tailL then none
 else if b.length-12<ownN b then none
 else some ((b.drop (b.length-8-ownN b)).take (ownN b))
theorem zzw{b s:List Nat}(h:zoy b=some s):s.length=ownN b/\ownN b+12<=b.length:=by
 unfold zoy at h;split at h
 ·cases h
 ·rename_i h1
  split at h
  ·cases h
  ·injection h with h
   subst h;rw[List.length_take,List.length_drop];omega
end Go.Hm
namespace Go.Proofs.Y
open Go.RowKit Go.Hm
def zxx:Nat->Nat
 |0=>120
 |1=>182
 |2=>184
 |3=>186
 |_=>188
def zxy:Nat->Nat
 |0=>181
 |1=>183
 |2=>185
 |3=>187
 |_=>189
def qig(q:Nat):Value:= .agg #[.func (.func (zxx q)) #[] #[],.func (.func (zxy q)) #[] #[]]
theorem qf4:Maps.Keyed Tryz.prog 3:=Maps.int_keyed (show Tryz.prog.underlying 3=some (.int .i64) by kernel_rfl)
theorem zxz:Tryz.prog.underlying 190=some (.map 3 189):=by kernel_rfl
theorem zh1(k:Nat)(h:k<=4):∃kl,keyOf Tryz.prog 3 (.int .i64 (k:Int))=some kl:=
 ⟨_,Maps.keyOf_int_mk (show Tryz.prog.underlying 3=some (.int .i64) by kernel_rfl) (by simp[Lit.wf,IntKind.min,IntKind.max,IntKind.signed,IntKind.bits];omega)⟩
theorem z2r(W:World):(Instr.makeMap 190 none).run Tryz.prog W= .ok (.map (some W.heap.size)) (W.alloc (.map #[] 0)):=by simp[Instr.makeMap,Result.andThen]
def qf5(w:World)(e:Ending)(w':World):Prop:=
 ∃b f,e= .returned (.map (some b))/\MapF_mapf Tryz.prog 3 qig w' b 5 f/\(∀k:Nat,k<=4->f (k:Int)=some k)/\New w w'
set_option maxRecDepth 100000 in
theorem zpj{w:World}:Calls Tryz.prog 160 #[] w (qf5 w):=by
 have hmm:=z2r;have b0:New w (w.alloc (.map #[] 0)):=(Below.refl _ _).alloc (Nat.le_refl _) _;have M0:=MapF_mapf.made (P:=Tryz.prog) (k:=3) (F:=qig) w;go_enter Tryz.func160,Tryz.ntmps160
 go_wp2_with (first
  |(refine zf2 rfl (.tmp 1) _ (.tmp 2) 190 rfl qf4 zxz M0 (by unfold maxLen;omega) (zh1 0 (by omega)) 0 rfl rfl rfl ?_
    intro w1 M1 g1)
  |(refine zf2 rfl (.tmp 1) _ (.tmp 3) 190 rfl qf4 zxz M1 (by unfold maxLen;omega) (zh1 1 (by omega)) 1 rfl rfl rfl ?_
    intro w2 M2 g2)
  |(refine zf2 rfl (.tmp 1) _ (.tmp 4) 190 rfl qf4 zxz M2 (by unfold maxLen;omega) (zh1 2 (by omega)) 2 rfl rfl rfl ?_
    intro w3 M3 g3)
  |(refine zf2 rfl (.tmp 1) _ (.tmp 5) 190 rfl qf4 zxz M3 (by unfold maxLen;omega) (zh1 3 (by omega)) 3 rfl rfl rfl ?_
    intro w4 M4 g4)
  |(refine zf2 rfl (.tmp 1) _ (.tmp 6) 190 rfl qf4 zxz M4 (by unfold maxLen;omega) (zh1 4 (by omega)) 4 rfl rfl rfl ?_
    intro w5 M5 g5))
 go_ret
 have gr:∀{wa wb:World},New w wa->wa.grownBy wb (some w.heap.size)->New w wb:=fun h g=>zax h g (Nat.le_refl _) (Nat.le_refl _)
 exact⟨_,_,rfl,M5,fun k hk=>by rcases(by omega:k=0\/k=1\/k=2\/k=3\/k=4) with rfl|rfl|rfl|rfl|rfl<;> rfl,gr (gr (gr (gr (gr b0 g1) g2) g3) g4) g5⟩
open Go.RowKit Go.Hm
theorem OptX.u{o:Option (List Nat)}{w w':World}{e:Ending}(h:OptX o w e w'):∃v,e= .returned (.tuple #[v,.bool o.isSome])/\New w w'/\ ∀b,o=some b-> ∃A n c,v= .slice A n c/\Go.Hm.Own w' w.heap.size 5 (.slice A n c) (za3 .u8 b):=by
 cases o with
 |none=>obtain⟨⟨v,rfl⟩,h2⟩:=h;exact⟨v,rfl,h2,fun b hb=>by cases hb⟩
 |some l=>obtain⟨A,n,c,rfl,h2,h3⟩:=h;exact⟨_,rfl,h3,fun b hb=>by injection hb with hb;subst hb;exact⟨_,_,_,rfl,h2⟩⟩
theorem OptX.of{o:Option (List Nat)}{w w':World}{v:Value}(h1:New w w')(h2:∀b,o=some b-> ∃A n c,v= .slice A n c/\Go.Hm.Own w' w.heap.size 5 (.slice A n c) (za3 .u8 b)):OptX o w (.returned (.tuple #[v,.bool o.isSome])) w':=by
 cases o with
 |none=>exact⟨⟨v,rfl⟩,h1⟩
 |some l=>obtain⟨A,n,c,rfl,h3⟩:=h2 l rfl;exact⟨A,n,c,rfl,h3,h1⟩
set_option maxRecDepth 100000 in
theorem zm4{w:World}{A:Option Addr}{n c:Nat}{L:List zab}(h:Reads w w.heap.size 5 A n (recs zam L))(hL:∀y∈L,zai y)(hn:n<=65536):
 Calls Tryz.prog 186 #[.int .i64 3,.slice A n c] w (OptX (zdh 3 3 L) w):=by
 obtain rfl:=h.lenCell;have RI:=Hz (zhd (t:=3) (c:=c) h hL (by omega));have PE:Hid (∀W,New w W->zhs 3 L=true->Calls Tryz.prog 212 #[.slice A L.length c] W (OptX (encPts L) W)):=
  Hz (fun W hW hp=>zm3 (Reads.later h hW) (plOk_iff.1 hp).2 hn)
 have hv:zdh 3 3 L=if zhs 3 L=true then encPts L else none:=by unfold zdh;simp
 obtain⟨X,hX⟩:∃X,X=zdh 3 3 L:=⟨_,rfl⟩;rw[<-hX];have HX:=Hz (hX.trans hv);clear hv hX h hL;generalize zhs 3 L=O at*;go_enter Tryz.func186,Tryz.ntmps186
 go_wp2_with fail
 refine RI.out.mono ?_;rintro e W0 ⟨rfl,b0⟩;clear RI;cases O with
 |false=>
  have hx:X=none:=by rw[HX.out];rfl
  subst hx;go_wp2
  go_ret2
  exact⟨⟨_,rfl⟩,b0⟩
 |true=>
  have hx:=HX.out;rw[if_pos rfl] at hx;subst hx;have P2:=Hz (PE.out W0 b0 rfl);clear HX PE;generalize encPts L=Y at*;go_wp2_with fail
  refine P2.out.mono ?_;rintro e W1 hpost;obtain⟨v,rfl,b1,ho⟩:=hpost.u;have HO:=Hz ho;clear ho hpost P2;generalize hs:Y.isSome=S at*;have HS:=Hz hs;clear hs;go_wp2_with fail
  go_ret2
  rw[<-HS.out];exact OptX.of (New.trans b0 b1) (fun b hb=>by obtain⟨A1,n1,c1,e1,o1⟩:=HO.out b hb;exact⟨A1,n1,c1,e1,o1.base_le b0.size⟩)
theorem qcf{w:World}{q:Nat}{t:Int}{A:Option Addr}{n c:Nat}{L:List zab}(hf:fitsV t (q:Int)=true)(h:Reads w w.heap.size 5 A n (recs zam L))(hL:∀y∈L,CellFine y)(hn:n<=65536):
 Calls Tryz.prog (zxx q) #[.int .i64 t,.slice A n c] w (OptX (zdh t (q:Int) L) w):=by
 have hq:=(zf0 hf).1;have hD:∀y∈L,zai y:=fun y hy=>zkw (hL y hy)
 rcases(by omega:q=0\/q=1\/q=2\/q=3\/q=4) with rfl|rfl|rfl|rfl|rfl
 ·have e:zdh t ((0:Nat):Int) L=plO t L:=by unfold zdh;simp
  rw[e];exact(zkq h hD (by omega)).mono fun _ _ p=>OptB.x p
 ·have e:zdh t ((1:Nat):Int) L=zg2 t L:=by unfold zdh;simp
  rw[e];exact(zxb h hL hn).mono fun _ _ p=>OptB.x p
 ·exact zqi h hD (by omega)
 ·have ht:t=0\/t=3:=by
   unfold fitsV at hf;rw[decide_eq_true_eq] at hf;omega
  rcases ht with rfl|rfl
  ·exact zqj h hD (by omega)
  ·exact zm4 h hD hn
 ·exact zpi h hD (by omega)
def zx1(t e:Int)(L:List zab):Int × List Nat:=if fitsV t e=true then(match zdh t e L with|some b=>(0,b)|none=>(1,[])) else(3,[])
def zgn(x:Int × List Nat)(w:World)(en:Ending)(w':World):Prop:=
 ∃A n c,en= .returned (.tuple #[.slice A n c,.int .i64 x.1])/\Go.Hm.Own w' w.heap.size 5 (.slice A n c) (za3 .u8 x.2)/\New w w'
noncomputable def qjc:Value:=match(Tryz.prog.info? 189).bind (·.zero) with|some v=>v|none=>undef
theorem z7o(w:World):(zeroValue 189).run Tryz.prog w= .ok qjc w:=by kernel_rfl
theorem z2v(i j:Nat)(w:World):(Instr.field 189 (.agg #[.func (.func i) #[] #[],.func (.func j) #[] #[]]) 0).run Tryz.prog w= .ok (.func (.func i) #[] #[]) w:=by kernel_rfl
theorem z2w(i j:Nat)(w:World):(Instr.field 189 (.agg #[.func (.func i) #[] #[],.func (.func j) #[] #[]]) 1).run Tryz.prog w= .ok (.func (.func j) #[] #[]) w:=by kernel_rfl
set_option maxRecDepth 100000 in
theorem zj9{w:World}{t e:Int}{A:Option Addr}{n c:Nat}{L:List zab}(h:Reads w w.heap.size 5 A n (recs zam L))(hL:∀y∈L,CellFine y)(hn:n<=65536):
 Calls Tryz.prog 136 #[.int .i64 t,.int .i64 e,.slice A n c] w (zgn (zx1 t e L) w):=by
 have F:=Hz (zim t e w);by_cases hf:fitsV t e=true
 ·have hq:=(zf0 hf).1
  obtain⟨q,rfl⟩:=Int.eq_ofNat_of_zero_le hq.1;have hq4:q<=4:=by omega
  have C:=Hz (@zpj w);have V:=Hz (fun(W:World) (hW:New w W)=>qcf (c:=c) hf (Reads.later h hW) hL hn);have hk:∀args w,(callFunc (zxx q) args).run Tryz.prog w= .ok (.enter (zxx q) args) w:=by intro args w;rcases(by omega:q=0\/q=1\/q=2\/q=3\/q=4) with rfl|rfl|rfl|rfl|rfl<;> simp only[zxx]<;> go_simp
  have HV:Hid (zx1 t (q:Int) L=match zdh t (q:Int) L with|some b=>(0,b)|none=>(1,[])):=Hz (by unfold zx1;rw[if_pos hf]);rw[hf] at F;generalize zdh t (q:Int) L=Y at*;generalize zx1 t (q:Int) L=X at*;clear hf h hL hq;go_enter Tryz.func136,Tryz.ntmps136
  go_wp2_with fail
  refine F.out.mono ?_;rintro e W0 ⟨rfl,rfl⟩;clear F;go_wp2_with fail
  refine C.out.mono ?_;rintro e W1 ⟨bl,f,rfl,M,hff,b1⟩;have V1:=Hz (V.out W1 b1);have hfq:=hff q hq4;clear C V hff;have hz:=z7o W1;have hfd:=z2v (zxx q) (zxy q) W1;go_wp2_with (refine zhc rfl (.tmp 15) (.tmp 16) 190 rfl qf4 zxz hz M hfq (zh1 q hq4) rfl rfl ?_;unfold qig)
  refine V1.out.mono ?_;rintro e W2 hpost;obtain⟨v,rfl,b2,ho⟩:=hpost.u;have HO:=Hz ho;clear ho hpost V1 M hz hfq;cases Y with
  |none=>
   have hx:X=(1,[]):=HV.out;subst hx;go_wp2_with fail
   go_ret2
   exact⟨none,0,0,rfl,Own.nil_,New.trans b1 b2⟩
  |some b=>
   have hx:X=(0,b):=HV.out;subst hx;obtain⟨A1,n1,c1,rfl,o1⟩:=HO.out b rfl;go_wp2_with fail
   go_ret2
   exact⟨A1,n1,c1,rfl,o1.base_le b1.size,New.trans b1 b2⟩
 ·have hf0:fitsV t e=false:=by simpa using hf
  have hx:zx1 t e L=(3,[]):=by unfold zx1;rw[if_neg hf]
  rw[hx];rw[hf0] at F;clear hf hf0 h hL;go_enter Tryz.func136,Tryz.ntmps136
  go_wp2_with fail
  refine F.out.mono ?_;rintro e W0 ⟨rfl,rfl⟩;clear F;go_wp2_with fail
  go_ret2
  exact⟨none,0,0,rfl,Own.nil_,New.refl _⟩
end Go.Proofs.Y
namespace Go.Hm
open Go Go.RowKit
theorem qck{A B:List Value}{x y z u v a b c d e:Value}{m:Nat}(h:A.length=m):
 (((((A++([x,y,z,u,v]++B)).set m a).set (m+1) b).set (m+1+1) c).set (m+1+1+1) d).set (m+1+1+1+1) e=A++([a,b,c,d,e]++B):=by
 subst h;rw[List.set_append_right _ _ (Nat.le_refl _),Nat.sub_self,List.set_append_right _ _ (by omega),List.set_append_right _ _ (by omega),List.set_append_right _ _ (by omega),List.set_append_right _ _ (by omega),
  show A.length+1-A.length=1 by omega,show A.length+1+1-A.length=2 by omega,show A.length+1+1+1-A.length=3 by omega,show A.length+1+1+1+1-A.length=4 by omega]
 rfl
section
variable{P:Program}
theorem zvx{ops:Array Oper}{rest:List Oper}{op:Oper}{a:Act}{w:World}{Q:Exit->Act->World->Prop}(hgd:op.guard=none)(ty:TypeId)(x y:Operand)(ho:op.op= .store ty x y)
 {base:Nat}{e:TypeId}{g n m:Nat}{A B:List zab}{old new:zab}(hown:w.ownsRow base e 5 (.slice (some ⟨g,0,none⟩) n n) n (recs zam (A++old::B)))(hm:A.length=m)(hmn:m<n)
 (hx:a.eval x= .pointer (some ⟨g,m*5,none⟩))(hy:a.eval y=zcz new)(hi:(P.info? ty).map (·.size)=some 5)
 (h:∀W,W.ownsRow base e 5 (.slice (some ⟨g,0,none⟩) n n) n (recs zam (A++new::B))->w.grownBy W (some g)->wpList P ops Q rest (a.put op.dst undef) W):wpList P ops Q (op::rest) a w:=by
 obtain⟨cs,hB⟩:=zih hown;obtain⟨ad,ea,-,c0,c1,c2,c3,c4⟩:=(Reads.of_own hown).cell5 (i:=m) hmn;injection ea with ea;subst ea;have ead:(⟨g,0,none⟩:Addr).add (m*5)=⟨g,m*5,none⟩:=by unfold Addr.add;split<;> simp_all
 rw[ead] at c0 c1 c2 c3 c4;dsimp only at c0 c1 c2 c3 c4;obtain⟨v0,v1,v2,v3,v4⟩:=new;have ht:w.there g (m*5) (#[Value.bool v0,.int .i64 v1,.string (zad v2),.int .i64 v3,.int .i64 v4]:Array Value).size:=by
  intro j hj;have hj:j<5:=hj;refine⟨?_,hB.frozen _⟩;have:j=0\/j=1\/j=2\/j=3\/j=4:=by omega
  rcases this with rfl|rfl|rfl|rfl|rfl
  ·rw[Nat.add_zero,c0];rfl
  ·rw[c1];rfl
  ·rw[c2];rfl
  ·rw[c3];rfl
  ·rw[c4];rfl
 refine wpList_store_mid hgd ty x y ho g (m*5) #[.bool v0,.int .i64 v1,.string (zad v2),.int .i64 v3,.int .i64 v4] hx hy ht hi (by simp[Value.oneCell']) ?_;obtain⟨o1,-⟩:=World.ownsRow.stored hown (m*5) (.bool v0);obtain⟨o2,-⟩:=World.ownsRow.stored o1 (m*5+1) (.int .i64 v1);obtain⟨o3,-⟩:=World.ownsRow.stored o2 (m*5+1+1) (.string (zad v2));obtain⟨o4,-⟩:=World.ownsRow.stored o3 (m*5+1+1+1) (.int .i64 v3);obtain⟨o5,-⟩:=World.ownsRow.stored o4 (m*5+1+1+1+1) (.int .i64 v4);have l:(recs zam A).length=m*5:=by rw[zar (sz:=5) (fun _=>rfl) A,hm]
 rw[zaw,show recs zam (old::B)=[Value.bool old.1,.int .i64 old.2.1,.string (zad old.2.2.1),.int .i64 old.2.2.2.1,.int .i64 old.2.2.2.2]++recs zam B from rfl,qck l] at o5;rw[zaw,show recs zam ((v0,v1,v2,v3,v4)::B)=[Value.bool v0,.int .i64 v1,.string (zad v2),.int .i64 v3,.int .i64 v4]++recs zam B from rfl] at h;exact h _ o5 (((((zaq (w:=w) (g:=g)).trans zaq).trans zaq).trans zaq).trans zaq)
end
end Go.Hm
namespace Go.Proofs.Y
open Go.RowKit Go.Hm
theorem zk9{b:List Nat}{n:Int}:∃o,IsDec b n o:=by
 by_cases h:∃l:List Nat,(l.length:Int)=n/\l.length<=65536/\(∀x∈l,x<=18446744073709551615)/\encL l=b
 ·obtain⟨l,hl⟩:=h
  refine⟨some l,fun l'=>⟨fun e=>by injection e with e;subst e;exact hl,fun h'=>?_⟩⟩;rw[zza hl.2.1 h'.2.1 hl.2.2.1 h'.2.2.1 (by rw[hl.2.2.2,h'.2.2.2])]
 ·exact⟨none,isDec_none fun l h1 h2 h3 h4=>h ⟨l,h1,h2,h3,h4⟩⟩
def qjd(t:Int)(b:List Nat)(n:Int)(w:World)(e:Ending)(w':World):Prop:=∃o,IsDic t b n o/\OptC o w e w'
theorem qhn{t:Int}{l:List zab}{b:List Nat}(hd:∀c∈l,zai c)(h:plO t l=some b):∀c∈l,CellFine c:=fun c hc=>by
 have hr:=(plOk_iff.1 (plO_iff.1 h).1).2 c hc;have hn:(-1048576<=c.2.2.2.1/\c.2.2.2.1<=1048576)/\ -1048576<=c.2.2.2.2/\c.2.2.2.2<=1048576:=by
  have h0:=zge hr;unfold zac at hr;rw[h0] at hr;rcases znb ((plOk_iff.1 (plO_iff.1 h).1).2 c hc) with rfl|rfl|rfl|rfl
  ·simp at hr;omega
  ·simp at hr;omega
  ·simp at hr;omega
  ·simp[inBox] at hr;omega
 exact⟨(hd c hc).1,(hd c hc).2,by omega,by omega⟩
theorem z2z{w:World}{g base sz n:Nat}{S:St}{v:Value}{xs:List Value}(o:w.ownsRow base 61 sz v n xs)(h:CurS w g S):v.ownBlock≠some g:=by obtain⟨cs,hB⟩:=h.blk;exact zal o hB (by decide)
set_option maxRecDepth 100000 in
theorem zx2{w:World}{A:Option Addr}{c m:Nat}{b:List Nat}{t n:Int}(h:Reads w w.heap.size 1 A m (za3 .u8 b))(h8:∀x∈b,x<256)(hm:m<=140737488351232)(hn0: -9223372036854775808<=n)(hn1:n<=9223372036854775807):
 Calls Tryz.prog 183 #[.int .i64 t,.slice A m c,.int .i64 n] w (qjd t b n w):=by
 obtain rfl:m=b.length:=h.len;have C:=Hz (zfa (c:=c) h (by omega) h8);have hok:St.ok (some b):=St.ok_some h8;obtain⟨cnt,S1,k1⟩:∃cnt S1,lenS n (some b)=(cnt,S1):=⟨_,_,rfl⟩;have hok1:S1.ok:=by have:=za6 (m:=n) hok;rwa[k1] at this
 obtain⟨sz,S2,k2⟩:∃sz S2,lenS ((S1.getD []).length:Int) S1=(sz,S2):=⟨_,_,rfl⟩;have hok2:S2.ok:=by have:=za6 (m:=((S1.getD []).length:Int)) hok1;rwa[k2] at this
 obtain⟨x,S3,k3⟩:∃x S3,zbt (sz:Int) S2=(x,S3):=⟨_,_,rfl⟩;have htk:=zcq (n:=(sz:Int)) hok2;rw[k3] at htk;obtain⟨y,S4,k4⟩:∃y S4,zbt ((S3.getD []).length:Int) S3=(y,S4):=⟨_,_,rfl⟩;have hty:=zcq (n:=((S3.getD []).length:Int)) htk.1;rw[k4] at hty;have hs1:(S1.getD []).length<=b.length:=by have:=zc5 (m:=n) hok;rwa[k1] at this
 have hs2:(S2.getD []).length<=(S1.getD []).length:=by have:=zc5 (m:=((S1.getD []).length:Int)) hok1;rwa[k2] at this
 have hs3:(S3.getD []).length<=(S2.getD []).length:=by have:=zg3 (n:=(sz:Int)) S2;rwa[k3] at this
 have hszl:(sz:Int)<=((S1.getD []).length:Int):=by have:=zb1 (m:=((S1.getD []).length:Int)) S1 (by omega) hok1;rwa[k2] at this
 have hxl:x.length<=b.length:=by have:=zeh (n:=(sz:Int)) (S:=S2) (by omega);rw[k3] at this;dsimp only at this;omega
 have hyl:y.length<=b.length:=by have:=zeh (n:=((S3.getD []).length:Int)) (S:=S3) (by omega);rw[k4] at this;dsimp only at this;omega
 have MK:=Hz (fun o1 o2 (hp:IsPl zai t x (cnt:Int) o1) (hd:IsDec y n o2)=>zzb h8 (by omega) hn1 k1 k2 k3 hp k4 hd);have HX8:=Hz htk.2;have HY8:=Hz hty.2;clear hok hok1 hok2 htk hty h h8;go_enter Tryz.func183,Tryz.ntmps183
 go_wp2_with fail
 refine C.out.mono ?_;rintro e w1 ⟨g,rfl,hg,C1,b1⟩;have L1:=zb9 (m:=n) (CurS.of C1) hn0 hn1;rw[k1] at L1;have L1:=Hz L1;clear C C1;go_wp2_with fail
 refine L1.out.mono ?_;rintro e w2 ⟨rfl,s2,g2⟩;have b2:=Far.below b1 g2 hg (Nat.le_refl _);have LF:=Hz (zud s2);have L2:=zb9 (m:=((S1.getD []).length:Int)) s2 (by omega) (by omega);rw[k2] at L2;have L2:=Hz L2;clear L1 g2 b1;unfold ze9 at LF;generalize(S1.getD []).length=q1 at*;go_wp2_with fail
 refine LF.out.mono ?_;rintro e w2' ⟨rfl,rfl⟩;go_wp2_with fail
 refine L2.out.mono ?_;rintro e w3 ⟨rfl,s3,g3⟩;have b3:=Far.below b2 g3 hg (Nat.le_refl _);have T1:=zc8 (n:=(sz:Int)) s3 (by omega) (by omega);rw[k3] at T1;have T1:=Hz T1;clear L2 g3 b2 LF s2;go_wp2_with fail
 refine T1.out.mono ?_;rintro e w4 ⟨A4,n4,c4,rfl,rfl,o4,s4,g4⟩;have b4:=Far.below b3 g4 hg (Nat.le_refl _);have PD:=Hz (zj6 (t:=t) (n:=(cnt:Int)) (c:=c4) o4.reads HX8.out (by omega));clear T1 g4 b3 o4 s3;go_wp2_with fail
 refine PD.out.mono ?_;rintro e w5 ⟨o1,hp,h5⟩;have MK:=Hz (fun o2 hd=>MK.out o1 o2 hp hd);cases o1 with
 |none=>
  obtain⟨rfl,b5⟩:=h5;have b05:=New.trans b4 b5;clear PD hp;go_wp2_with fail
  go_ret2
  obtain⟨o2,hd⟩:=zk9 (b:=y) (n:=n);have:=MK.out o2 hd;refine⟨none,?_,rfl,b05⟩;simpa[qax] using this
 |some E=>
  obtain⟨A5,n5,c5,rfl,o5,b5⟩:=h5;obtain⟨hE1,hE2,hE3⟩:=hp.sound E rfl;have hfine:=qhn hE3 hE2;have hcnt:cnt<=65536:=by have:=(plOk_iff.1 (plO_iff.1 hE2).1).1;omega
  have hEl:E.length=cnt:=by omega
  obtain rfl:cnt=n5:=by have:=(Reads.of_own o5).lenCell;omega
  have HEl:=Hz hEl;clear hEl;have b05:=New.trans b4 b5;have s5:=s4.below b5;have BD:=Hz (zy5 s5);have HF:=Hz hfine;clear PD hp b4 b5 s4 hE1 hE2 hE3 hfine;cases S3 with
  |none=>
   go_wp2_with fail
   refine BD.out.mono ?_;rintro e w5' ⟨rfl,rfl⟩;go_wp2_with fail
   go_ret2
   obtain⟨o2,hd⟩:=zk9 (b:=y) (n:=n);have:=MK.out o2 hd;refine⟨none,?_,rfl,b05⟩;simpa[qax] using this
  |some R=>
   have UL:=Hz (z1f (c:=c5) (Reads.of_own o5) HF.out (by omega));simp only[Option.isNone_some] at BD;go_wp2_with fail
   refine BD.out.mono ?_;rintro e w5' ⟨rfl,rfl⟩;go_wp2_with fail
   refine UL.out.mono ?_;rintro e w6 ⟨rfl,b6⟩;have b06:=New.trans b05 b6;have s6:=s5.below b6;have o6:=zau o5 b6;clear UL BD b05 s5 b6 o5;by_cases hnd:E.Nodup
   ·have e1:decide E.Nodup=true:=decide_eq_true hnd
    have LF:=Hz (zud s6);have T2:=zc8 (n:=(((some R:St).getD []).length:Int)) s6 (by omega) (by omega);rw[k4] at T2;have T2:=Hz T2;have RG:=s6.lt;have HND:=Hz hnd;clear hnd;unfold ze9 at LF;generalize((some R:St).getD []).length=q2 at*;rw[e1];go_wp2_with fail
    refine LF.out.mono ?_;rintro e w6' ⟨rfl,rfl⟩;go_wp2_with fail
    refine T2.out.mono ?_;rintro e w7 ⟨A7,n7,c7,rfl,rfl,o7,s7,g7⟩;have b07:=Far.below b06 g7 hg (Nat.le_refl _);have RD:=Hz (z1s (c:=c7) (n:=n) o7.reads HY8.out (by omega));have r6:=o6.kept g7 (.inr (z2z o6 s6));clear T2 LF g7 b06 o7 s6 s7 o6;go_wp2_with fail
    refine RD.out.mono ?_;rintro e w8 ⟨o2,hd,h8⟩;have HK:=MK.out o2 hd;cases o2 with
    |none=>
     obtain⟨rfl,b8⟩:=h8;go_wp2_with fail
     go_ret2
     refine⟨none,?_,rfl,New.trans b07 b8⟩;simpa[qax] using HK
    |some P=>
     obtain⟨A8,n8,c8,rfl,o8,b8⟩:=h8;have b08:=New.trans b07 b8;have r8:=zau r6 b8;obtain⟨d1,d2,d3,-⟩:=(hd P).1 rfl;have hn8:n8=P.length:=by have:=o8.len;rwa[zaa] at this
     have IO:=Hz (zw3 (c:=c8) (m:=cnt) o8.reads d3 (by omega) (by omega));have HN8:=Hz hn8;have HD1:=Hz d1;have HD2:=Hz d2;clear RD b07 b8 r6 hd hn8 d1 d2;go_wp2_with fail
     refine IO.out.mono ?_;rintro e w8' ⟨rfl,rfl⟩;by_cases hor:ordL P=some cnt
     ·have e2:decide (ordL P=some cnt)=true:=decide_eq_true hor
      have HK:Hid (IsDic t b n (some (P.map fun p=>E.getD p zfs))):=Hz (by have:=HK;unfold qax at this;dsimp only at this;rwa[if_pos ⟨HND.out,hor⟩] at this)
      have hlt:=zsg P cnt hor;have HLT:=Hz hlt;have hz8:=b08.size;have hn8:=HN8.out;have d1:=HD1.out;have d2:=HD2.out;obtain⟨N,rfl⟩:∃N:Nat,n=(N:Int):=⟨P.length,d1.symm⟩;obtain rfl:n8=N:=by omega
      have RE:=Hz (Reads.of_own r8);have RP:=Hz o8.reads;have HPl:=Hz hn8.symm;have hn8b:n8<=65536:=by omega
      clear IO hor hlt r8 o8 d1 d2 d3 hn8 MK HN8 HD1 HD2;rw[e2]
      go_wp2_with (refine zes qfi rfl (.tmp 63) (.tmp 63) rfl (W:=w) (B:=w.heap.size) n8 rfl rfl rfl rfl b08 hz8 (by omega) (by simp only[maxLen];omega) ?_
                   intro w9 o9 g9 b9 hs9)
      rw[zg6] at o9;have b89:New w8 w9:=(Turns.of_none (T:=[]) g9).new (by simp);go_loopw [67] (fun i wr=>∃k:Nat,k<=n8/\i= .int .i64 (k:Int)/\wr.ownsRow w8.heap.size 61 5 (.slice (some ⟨w8.heap.size,0,none⟩) n8 n8) n8 (recs zam ((P.take k).map (fun p=>E.getD p zfs)++List.replicate (n8-k) zaz))/\New w8 wr) (fun i _=>n8-(intOf i).toNat)
      case atStart=>exact⟨0,Nat.zero_le _,rfl,by simpa using o9,b89⟩
      case round=>
       obtain⟨k,hk,rfl,o,hb⟩:=hrel;clear o9 g9 b9 b89 hs9;by_cases hlt:k<n8
       ·obtain⟨ax,rfl,hbx,qx⟩:=(Reads.later RP.out hb).num (i:=k) hlt
        have hxl:=HLT.out (P.getD k 0) (by rw[List.getD_eq_getElem?_getD,List.getElem?_eq_getElem (by rw[HPl.out];exact hlt)];exact List.getElem_mem _);have htk:=zae P k 0 (by rw[HPl.out];exact hlt);have hA:((P.take k).map (fun p=>E.getD p zfs)).length=k:=by rw[List.length_map,List.length_take,HPl.out];omega
        rw[show n8-k=(n8-(k+1))+1 by omega,List.replicate_succ] at o;have enx:recs zam ((P.take k).map (fun p=>E.getD p zfs)++E.getD (P.getD k 0) zfs::List.replicate (n8-(k+1)) zaz)=recs zam ((P.take (k+1)).map (fun p=>E.getD p zfs)++List.replicate (n8-(k+1)) zaz):=by rw[htk,List.map_append,List.append_assoc];rfl
        obtain⟨ae,rfl,hbe,q0,q1,q2,q3,q4⟩:=(Reads.later RE.out hb).cell5 (i:=P.getD k 0) hxl;have HN:=Hz enx;clear enx htk;generalize P.getD k 0=x at*;generalize E.getD x zfs=y at*;obtain⟨y0,y1,y2,y3,y4⟩:=y;dsimp only at q0 q1 q2 q3 q4;have ead:(⟨w8.heap.size,0,none⟩:Addr).add (k*5)=⟨w8.heap.size,k*5,none⟩:=by unfold Addr.add;split<;> simp_all
        have HO:=Hz o;have HA:=Hz hA;clear o hA
        go_wp2_with (refine zvx rfl 61 (.tmp 78) (.tmp 77) rfl (new:=(y0,y1,y2,y3,y4)) HO.out HA.out hlt rfl rfl (by kernel_rfl) ?_
                     intro W5 o5 g5;rw[HN.out] at o5;have hb5:=Far.below hb g5 (Nat.le_refl _) (Nat.le_refl _))
        go_roundw
        case rel=>exact⟨k+1,by omega,by go_num,o5,hb5⟩
        case measure=>simp[intOf];omega
       ·have hkk:k=n8:=by omega
        subst hkk;rw[Nat.sub_self,List.replicate_zero,List.append_nil,show P.take k=P from List.take_of_length_le (by rw[HPl.out];exact Nat.le_refl _)] at o;go_wp2_with fail
        go_ret2
        exact⟨_,HK.out,_,_,_,rfl,zbd o hz8,New.trans b08 hb⟩
     ·have e2:decide (ordL P=some cnt)=false:=decide_eq_false hor
      rw[e2];go_wp2_with fail
      go_ret2
      refine⟨none,?_,rfl,b08⟩;unfold qax at HK;dsimp only at HK;rwa[if_neg (fun h=>hor h.2)] at HK
   ·have e1:decide E.Nodup=false:=decide_eq_false hnd
    rw[e1];go_wp2_with fail
    go_ret2
    obtain⟨o2,hd⟩:=zk9 (b:=y) (n:=n);have HK:=MK.out o2 hd;refine⟨none,?_,rfl,b06⟩;unfold qax at HK;cases o2 with
    |none=>exact HK
    |some P=>
     dsimp only at HK;rwa[if_neg (fun h=>hnd h.1)] at HK
open Go.RowKit Go.Hm
theorem z7u(t:Int)(l:List zab)(k:Nat):zct t l (k+1)=if(zx1 t (k:Int) l).1=0/\((zct t l k).1<0\/(zx1 t (k:Int) l).2.length<(zct t l k).2) then((k:Int),(zx1 t (k:Int) l).2.length) else zct t l k:=by
 rw[zct];unfold zx1;cases hf:fitsV t (k:Int) with
 |false=>simp
 |true=>
  cases hv:zdh t (k:Int) l with
  |none=>simp
  |some b=>simp
set_option maxRecDepth 100000 in
theorem z7v{w:World}{t:Int}{A:Option Addr}{n c:Nat}{L:List zab}(h:Reads w w.heap.size 5 A n (recs zam L))(hL:∀y∈L,CellFine y)(hn:n<=65536):
 Calls Tryz.prog 135 #[.int .i64 t,.slice A n c] w (zap (.int .i64 (bestV t L)) w):=by
 have V:=Hz (fun(W:World) (hW:New w W) (e:Int)=>zj9 (t:=t) (e:=e) (c:=c) (Reads.later h hW) hL hn);have HK:=Hz (zsx t L);have ST:=Hz (z7u t L);have HE:Hid (bestV t L=(zct t L 5).1):=Hz rfl;have H0:Hid (zct t L 0=(-1,0)):=Hz rfl;generalize bestV t L=Z at*;generalize hB:zct t L=B at*;generalize hG:(fun k:Nat=>zx1 t (k:Int) L)=G at*;have V2:Hid (∀(W:World) (k:Nat),New w W->Calls Tryz.prog 136 #[.int .i64 t,.int .i64 (k:Int),.slice A n c] W (zgn (G k) W)):=Hz (by subst hG;exact fun W k hW=>V.out W hW (k:Int));have ST2:Hid (∀k,B (k+1)=if(G k).1=0/\((B k).1<0\/(G k).2.length<(B k).2) then((k:Int),(G k).2.length) else B k):=Hz (by subst hG;exact ST.out);clear V h hL hB hG ST;go_enter Tryz.func135,Tryz.ntmps135
 go_wp2_with fail
 go_loopw [5,6,7] (fun p f i wr=>∃k:Nat,k<=5/\i= .int .i64 (k:Int)/\p= .int .i64 (B k).1/\f= .int .i64 ((B k).2:Int)/\New w wr) (fun _ _ i _=>5-(intOf i).toNat)
 case atStart=>exact⟨0,by omega,rfl,by rw[H0.out],by rw[H0.out];rfl,New.refl _⟩
 case round=>
  obtain⟨k,hk,rfl,rfl,rfl,b⟩:=hrel;by_cases hlt:k<5
  ·have V3:=Hz (V2.out _ k b)
   have hst:=ST2.out k;obtain⟨⟨p,f⟩,hpf⟩:∃x,B k=x:=⟨_,rfl⟩;obtain⟨⟨er,bs⟩,hgk⟩:∃x,G k=x:=⟨_,rfl⟩;rw[hpf,hgk] at hst;rw[hpf];rw[hgk] at V3;have HST:=Hz hst;have i1:(k:Int)<=4:=by omega
   clear hst hpf hgk;go_wp2_with fail
   refine V3.out.mono ?_;rintro e W1 ⟨A1,n1,c1,rfl,o1,b1⟩;obtain rfl:n1=bs.length:=by simpa[za3] using o1.len
   clear V3;by_cases h1:er=0
   ·subst h1
    by_cases h2:p<0
    ·go_wp2_with fail
     go_roundw
     case rel=>exact⟨k+1,by omega,by go_num,by rw[HST.out,if_pos ⟨by trivial,.inl h2⟩],by rw[HST.out,if_pos ⟨by trivial,.inl h2⟩],New.trans b b1⟩
     case measure=>simp[intOf];omega
    ·by_cases h3:bs.length<f
     ·have i3:(bs.length:Int)<(f:Int):=by omega
      go_wp2_with fail
      go_roundw
      case rel=>exact⟨k+1,by omega,by go_num,by rw[HST.out,if_pos ⟨by trivial,.inr h3⟩],by rw[HST.out,if_pos ⟨by trivial,.inr h3⟩],New.trans b b1⟩
      case measure=>simp[intOf];omega
     ·have i3:decide ((bs.length:Int)<(f:Int))=false:=decide_eq_false (by omega)
      have h4: ¬(p<0\/bs.length<f):=by rintro(q|q);exact h2 q;exact h3 q
      have H4:=Hz h4;clear h4;go_wp2_with fail
      go_roundw
      case rel=>exact⟨k+1,by omega,by go_num,by rw[HST.out,if_neg (fun q=>H4.out q.2)],by rw[HST.out,if_neg (fun q=>H4.out q.2)],New.trans b b1⟩
      case measure=>simp[intOf];omega
   ·have H1:=Hz h1
    have i2:(er==0)=false:=by simpa using h1
    go_wp2_with fail
    go_roundw
    case rel=>exact⟨k+1,by omega,by go_num,by rw[HST.out,if_neg (fun q=>H1.out q.1)],by rw[HST.out,if_neg (fun q=>H1.out q.1)],New.trans b b1⟩
    case measure=>simp[intOf];omega
  ·have hk5:k=5:=by omega
   subst hk5;go_wp2_with fail
   go_ret
   exact⟨by rw[HE.out];rfl,b⟩
open Go.RowKit Go.Hm
theorem zz7{l:List zab}(h:∀c∈l,zai c):∀x∈ze4 l,zew x:=fun x hx=>by obtain⟨c,hc,rfl⟩:=List.mem_map.1 hx;exact(h c hc).2
theorem ztg{t:Int}{l:List zab}(h:zhs t l=true)(ht:t=3):(∀x∈zjk 0 (xsV l),zew x)/\ ∀x∈zjk 0 (ysV l),zew x:=by
 subst ht;have hr:=(plOk_iff.1 h).2;have hb:∀c∈l,(-1048576<=c.2.2.2.1/\c.2.2.2.1<=1048576)/\ -1048576<=c.2.2.2.2/\c.2.2.2.2<=1048576:=fun c hc=>by have:=zmf (hr c hc);omega
 refine⟨fun x hx=>?_,fun x hx=>?_⟩
 ·have:=zsw (a:=0) (by omega) (fun z hz=>by obtain⟨c,hc,rfl⟩:=List.mem_map.1 hz;exact(hb c hc).1) x hx
  unfold zew;omega
 ·have:=zsw (a:=0) (by omega) (fun z hz=>by obtain⟨c,hc,rfl⟩:=List.mem_map.1 hz;exact(hb c hc).2) x hx
  unfold zew;omega
theorem zz8{t e:Int}{l:List zab}{b:List Nat}(hd:∀c∈l,zai c)(h:zdh t e l=some b):b.length<=100000000000:=by
 have hok:=zlw h;have hl:=(plOk_iff.1 hok).1.2.2;unfold zdh at h;split at h
 ·have:=zsp hok
  rw[<-(plO_iff.1 h).2];omega
 ·split at h
  ·have:=z5m h
   omega
  ·try rw[if_pos hok] at h
   split at h
   ·injection h with h
    have:=zso (zio hd) (by unfold zee;rw[List.length_map];exact hl);rw[show(zee l).length=l.length by unfold zee;rw[List.length_map]] at this;rw[<-h];omega
   ·split at h
    ·split at h
     ·rename_i ht
      obtain⟨d1,d2⟩:=ztg hok ht;unfold encPts at h;split at h
      ·rename_i x y hx hy
       have a1:=zf9 d1 hx;have a2:=zf9 d2 hy;have a3:=zaj (n:=x.length) (by omega);injection h with h;rw[<-h,List.length_append,List.length_append];omega
      ·cases h
     ·have:=zf9 (zz7 hd) h
      omega
    ·unfold ztt at h
     split at h
     ·rename_i hf
      obtain⟨f1,f2,f3⟩:=(zej _).1 hf;have:=zsr [] (zbi l) f2;injection h with h;rw[<-h];omega
     ·cases h
theorem qf8{t e:Int}{l:List zab}{b:List Nat}(hd:∀c∈l,zai c)(h:zdh t e l=some b):∀x∈b,x<256:=by
 have hok:=zlw h;unfold zdh at h;split at h
 ·rw[<-(plO_iff.1 h).2]
  exact z6c (fun c hc=>(hd c hc).1.2)
 ·split at h
  ·exact qa6 hd h
  ·try rw[if_pos hok] at h
   split at h
   ·injection h with h
    rw[<-h];exact zon (zio hd)
   ·split at h
    ·split at h
     ·rename_i ht
      obtain⟨d1,d2⟩:=ztg hok ht;unfold encPts at h;split at h
      ·rename_i x y hx hy
       injection h with h;rw[<-h];intro z hz;rcases List.mem_append.1 hz with hz|hz
       ·rcases List.mem_append.1 hz with hz|hz
        ·exact zzg _ _ (Nat.le_refl _) z hz
        ·exact ztf hx z hz
       ·exact ztf hy z hz
      ·cases h
     ·exact ztf h
    ·exact qfr (fun s hs=>by obtain⟨c,hc,rfl⟩:=List.mem_map.1 hs;exact(hd c hc).1.2) h
theorem zrx{l:List zab}(h:l.length<=65536):(zb3 l).length<=8193:=by unfold zb3;rw[zbg,zek];omega
theorem zth{t:Int}{nu:Bool}{e:Int}{l:List zab}{b:List Nat}{k:Int}(hd:∀c∈l,zai c)(h:pgE t nu e l=(k,b)):b.length<=100000010000:=by
 by_cases hk:k=0
 ·subst hk
  obtain⟨_,h1,_,_,d,h2,rfl⟩:=zg7 h;have a:=zz8 (ziq hd) h2;have b:=zrx h1;have c:=zaj (n:=l.length) (by omega);simp only[List.length_cons,List.length_append];split<;> simp<;> omega
 ·have:b=[]:=by
   unfold pgE at h;split at h
   ·injection h with _ h;exact h.symm
   ·split at h
    ·injection h with _ h;exact h.symm
    ·split at h
     ·split at h
      ·injection h with h _;exact absurd h.symm hk
      ·injection h with _ h;exact h.symm
     ·injection h with _ h;exact h.symm
  subst this;simp
theorem qd6{t:Int}{nu:Bool}{e:Int}{l:List zab}{b:List Nat}(hd:∀c∈l,zai c)(h:pgE t nu e l=(0,b)):∀x∈b,x<256:=by
 obtain⟨_,_,_,h4,d,h2,rfl⟩:=zg7 h;have:=(zf0 h4).1;intro x hx;rcases List.mem_cons.1 hx with rfl|hx
 ·omega
 ·rcases List.mem_append.1 hx with hx|hx
  ·exact zzg _ _ (Nat.le_refl _) x hx
  ·rcases List.mem_append.1 hx with hx|hx
   ·split at hx
    ·exact zmb _ _ x hx
    ·cases hx
   ·exact qf8 (ziq hd) h2 x hx
end Go.Proofs.Y
