/- Texts merged and made short: PagM, FilM, ValC, PagL. -/
import Derived.Laws.EntriesVeiled
import Derived.Test.YtmgfkpnghlmheaaGreatBun1
import Derived.Test.YtmgfkpnghlmheaaGreatBun2
import Derived.Test.YtmgfkpnghlmheaaGreatBun23
import Derived.Test.YtmgfkpnghlmheaaGreatBun34
import Derived.Test.YtmgfkpnghlmheaaGreatBun35
set_option maxHeartbeats 4000000
namespace Go.Proofs.YtmgfkpnghlmheaaGreat
open Go.RowKit Go.Hm
def encOf(t e:Int)(l:List zab):Int:=if e= -1 then bestV t (zb1 l) else e
def pgE(t:Int)(nu:Bool)(e:Int)(l:List zab):Int × List Nat:=
 if¬(0≤t∧t≤3)∨(e≠ -1∧fitsV t e=false) then(3,[])
 else if 65536<l.length then(4,[])
 else if(l.all fun c=>zac c t nu)=true then
  (match zdl t (encOf t e l) (zb1 l) with
  |some d=>(0,(encOf t e l).toNat::(vp l.length++((if nu=true then zb3 l else [])++d)))
  |none=>(1,[]))
 else(1,[])
theorem zq1{l:List zab}{t:Int}{nu:Bool}(h:∀c∈l,zac c t nu=true):∀c∈zb1 l,zac c t false=true:=fun c hc=>by
 unfold zb1 at hc;rw[List.mem_filter] at hc;have h1:=h c hc.1
 have h2:c.1=false:=by simpa using hc.2
 unfold zac at h1⊢;rw[h2] at h1⊢;exact h1
theorem zq2{c:zab}{t:Int}{nu:Bool}(h:zac c t nu=true)(hn:c.1=true):c=nullC∧nu=true:=by
 obtain⟨y0,y1,y2,y3,y4⟩:=c;dsimp only at hn;subst hn
 have e:nu=true∧y1=0∧y2=[]∧y3=0∧y4=0:=by simpa[zac] using h
 obtain⟨e1,rfl,rfl,rfl,rfl⟩:=e;exact⟨rfl,e1⟩
theorem z18{l:List zab}{t:Int}{nu:Bool}(h:∀c∈l,zac c t nu=true):l.map zuw=l:=by
 conv=>rhs;rw[←List.map_id l]
 refine List.map_congr_left fun c hc=>?_
 unfold zuw;split
 ·rename_i hn
  exact(zq2 (h c hc) hn).1.symm
 ·rfl
theorem zuy{c:zab}{t:Int}(nu:Bool)(h:zac c t false=true):zac c t nu=true:=by
 have h0:=zgc h;unfold zac at h⊢;rw[h0] at h⊢;exact h
theorem zzt{l:List zab}{t:Int}(h:∀c∈l,zac c t false=true):zb1 l=l:=by
 unfold zb1;rw[List.filter_eq_self];intro c hc;rw[zgc (h c hc)];rfl
theorem zxe{l:List zab}{t:Int}{nu:Bool}(ht:0≤t∧t≤3)(hl:l.length≤65536)(h:∀c∈l,zac c t nu=true):zhs t (zb1 l)=true:=
 plOk_iff.2 ⟨⟨ht.1,ht.2,Nat.le_trans (znc l) hl⟩,zq1 h⟩
theorem zin{t:Int}{nu:Bool}{e:Int}{l:List zab}{b:List Nat}(h:pgE t nu e l=(0,b)):
 (0≤t∧t≤3)∧l.length≤65536∧(∀c∈l,zac c t nu=true)∧fitsV t (encOf t e l)=true∧∃d,zdl t (encOf t e l) (zb1 l)=some d∧b=(encOf t e l).toNat::(vp l.length++((if nu=true then zb3 l else [])++d)):=by
 unfold pgE at h;split at h
 ·injection h with h _
  omega
 ·rename_i h1
  split at h
  ·injection h with h _
   omega
  ·rename_i h2
   split at h
   ·rename_i h3
    rw[List.all_eq_true] at h3
    have ht:0≤t∧t≤3:=by
     by_cases q:0≤t∧t≤3
     ·exact q
     ·exact absurd (.inl q) h1
    split at h
    ·rename_i d hd
     injection h with _ h;refine⟨ht,by omega,h3,?_,d,hd,h.symm⟩;unfold encOf;split
     ·exact(zok (zxe ht (by omega) h3)).1
     ·rename_i he
      cases hf:fitsV t e with
      |true=>rfl
      |false=>exact absurd (.inr ⟨he,hf⟩) h1
    ·injection h with h _
     omega
   ·injection h with h _
    omega
theorem qbo{t:Int}{nu:Bool}{e:Int}{l:List zab}{b:List Nat}(h:pgE t nu e l=(0,b)):pgE t nu (encOf t e l) l=(0,b):=by
 obtain⟨ht,hl,hr,hf,d,hd,hb⟩:=zin h
 have hne:encOf t e l≠ -1:=by have:=(zfw hf).1;omega
 have e2:encOf t (encOf t e l) l=encOf t e l:=by
  show(if encOf t e l= -1 then _ else _)=_;rw[if_neg hne]
 rw[pgE,if_neg (by rintro(q|⟨_,q⟩);exact q ht;rw[hf] at q;cases q),if_neg (by omega),if_pos (List.all_eq_true.2 hr),e2,hd,hb]
structure IsPg(t:Int)(nu:Bool)(b:List Nat)(o:Option (List zab)):Prop where
 sound:∀l,o=some l→(∃e,fitsV t e=true∧pgE t nu e l=(0,b))∧∀c∈l,zai c
 compl:∀l,(∀c∈l,zai c)→(∃e,fitsV t e=true∧pgE t nu e l=(0,b))→o=some l
theorem IsPg.uniq{t:Int}{nu:Bool}{b:List Nat}{o p:Option (List zab)}(h:IsPg t nu b o)(k:IsPg t nu b p):o=p:=by
 cases o with
 |some l=>obtain⟨a,c⟩:=h.sound l rfl;exact(k.compl l c a).symm
 |none=>
  cases p with
  |none=>rfl
  |some l=>obtain⟨a,c⟩:=k.sound l rfl;exact h.compl l c a
theorem zio{l:List zab}(h:∀c∈l,zai c):∀c∈zb1 l,zai c:=fun c hc=>h c (by unfold zb1 at hc;exact(List.mem_filter.1 hc).1)
theorem z6j:zai nullC:=⟨⟨by simp[nullC],by simp[nullC]⟩,by simp[nullC]⟩
theorem zom(S:St):zbc S=(0,none)∨∃y r,S=some (y::r)∧zbc S=(y,some r):=by
 unfold zbc;split
 ·rename_i y r
  exact .inr ⟨y,r,rfl,rfl⟩
 ·exact .inl rfl
def qgp(t:Int)(e:Nat)(S:St)(ov:Option (List zab)):Option (List zab):=if S=none∨fitsV t (e:Int)=false then none else ov
theorem zks{t:Int}{b x:List Nat}{e n:Nat}{S1 S2:St}{ov:Option (List zab)}(h8:∀x∈b,x<256)
 (k1:zbc (some b)=(e,S1))(k2:lenS 65536 S1=(n,S2))(k3:S2.getD []=x)(hv:fitsV t (e:Int)=true→IsVal t (e:Int) x (n:Int) ov):IsPg t false b (qgp t e S2 ov):=by
 constructor
 ·intro l hl
  unfold qgp at hl;split at hl
  ·cases hl
  ·rename_i hc
   have hf:fitsV t (e:Int)=true:=by
    cases q:fitsV t (e:Int) with
    |true=>rfl
    |false=>exact absurd (.inr q) hc
   have hS:S2≠none:=fun q=>hc (.inl q)
   obtain⟨v1,v2,v3⟩:=(hv hf).sound l hl;obtain⟨⟨t0,t1,hl6⟩,hr⟩:=plOk_iff.1 (zln v2)
   have hne:(e:Int)≠ -1:=by omega
   refine⟨⟨(e:Int),hf,?_⟩,v3⟩
   have e2:encOf t (e:Int) l=(e:Int):=by unfold encOf;rw[if_neg hne]
   rw[pgE,if_neg (by rintro(q|⟨_,q⟩);exact q ⟨t0,t1⟩;rw[hf] at q;cases q),if_neg (by omega),if_pos (List.all_eq_true.2 hr),e2,zzt hr,v2];dsimp only;rw[if_neg (by simp),List.nil_append,Int.toNat_natCast]
   congr 1
   rcases zom (some b) with q|⟨y,r,q1,q⟩
   ·rw[q] at k1
    injection k1 with _ k1;subst k1;rw[zgu] at k2;injection k2 with _ k2;exact absurd k2.symm hS
   ·rw[q] at k1
    injection k1 with k1 k1';subst k1 k1';injection q1 with q1;rcases zbo 65536 (some r) (St.ok_some fun z hz=>h8 z (by rw[q1];simp[hz])) with p|⟨N,r1,e1,p1,_,p⟩
    ·rw[p] at k2
     injection k2 with _ k2;exact absurd k2.symm hS
    ·rw[p] at k2
     injection k2 with k2 k2';subst k2 k2';injection e1 with e1;simp only[Option.getD_some] at k3;rw[q1,e1,k3,show l.length=N by omega]
 ·rintro l hd ⟨e',hf,hB⟩
  obtain⟨ht,hl6,hr,-,d,hd2,hb⟩:=zin hB
  have hne:e'≠ -1:=by have:=(zfw hf).1;omega
  have e2:encOf t e' l=e':=by unfold encOf;rw[if_neg hne]
  have hev:=zzt hr;rw[e2,hev] at hd2;rw[e2,if_neg (by simp),List.nil_append] at hb;rw[hb] at k1;simp only[zbc] at k1;injection k1 with k1 k1';subst k1 k1';rw[zb2 _ _ (by omega) (by omega)] at k2;injection k2 with k2 k2';subst k2 k2';simp only[Option.getD_some] at k3;subst k3;have h0:=(zfw hf).1
  have ee:((e'.toNat:Nat):Int)=e':=by omega
  unfold qgp;rw[ee] at hv⊢;rw[if_neg (by rintro(q|q);cases q;rw[hf] at q;cases q)];exact(hv hf).compl l hd rfl hd2
def qgq(t:Int)(e:Nat)(S:St)(U:Option (List Nat))(ov:Option (List zab)):Option (List zab):=if S=none∨fitsV t (e:Int)=false then none else match ov with|none=>none|some r=>zol U r
theorem zzu{t:Int}{b bits x:List Nat}{e n:Nat}{S1 S2 S3:St}{ov:Option (List zab)}(h8:∀x∈b,x<256)
 (k1:zbc (some b)=(e,S1))(k2:lenS 65536 S1=(n,S2))(k4:zbv (((n+7)/8:Nat):Int) S2=(bits,S3))(k3:S3.getD []=x)(hv:fitsV t (e:Int)=true→IsVal t (e:Int) x (zpv (zbg bits 1 (n:Int))) ov):IsPg t true b (qgq t e S3 (zbg bits 1 (n:Int)) ov):=by
 constructor
 ·intro l hl
  unfold qgq at hl;split at hl
  ·cases hl
  ·rename_i hc
   have hf:fitsV t (e:Int)=true:=by
    cases q:fitsV t (e:Int) with
    |true=>rfl
    |false=>exact absurd (.inr q) hc
   have hS:S3≠none:=fun q=>hc (.inl q)
   cases ov with
   |none=>cases hl
   |some r=>
    dsimp only at hl;obtain⟨v1,v2,v3⟩:=(hv hf).sound r rfl;obtain⟨⟨t0,t1,hl6⟩,hr⟩:=plOk_iff.1 (zln v2)
    cases hU:zbg bits 1 (n:Int) with
    |none=>rw[hU] at hl;cases hl
    |some m=>
     rw[hU] at hl;unfold zol at hl;dsimp only at hl;split at hl
     ·rename_i hsum
      have hbits8:∀z∈bits,z<256:=by
       intro z hz;rcases zb9 (((n+7)/8:Nat):Int) S2 with p|⟨l2,p1,_,_,p⟩
       ·rw[p] at k4
        injection k4 with k4 _;rw[←k4] at hz;cases hz
       ·rw[p] at k4
        injection k4 with k4 _;rw[←k4] at hz;have hz:=List.mem_of_mem_take hz
        have hok2:St.ok S2:=by
         have:=za5 (m:=65536) (S:=S1) (by
          have:=zt2 (S:=some b) (St.ok_some h8);rw[k1] at this
          exact this)
         rw[k2] at this;exact this
        exact hok2 l2 p1 z hz
      obtain⟨u1,u2,u3,u4⟩:=zso hbits8 hU;obtain⟨s1,s2,s3⟩:=zlp m r l u3 hsum hl
      have hz:l.map zuw=l:=by
       have:=zqz l;rw[s1,s2,hl] at this;injection this with this;exact this.symm
      have hlen:l.length≤65536:=by omega
      have hbs:bits=zb3 l:=by
       have:=zq0 hlen;rw[s1,u1] at this;injection this
      have hrl:∀c∈l,zac c t true=true:=by
       intro c hc
       cases hn:c.1 with
       |true=>
        obtain⟨i,hi,rfl⟩:=List.getElem_of_mem hc
        have h1:(l.map zuw)[i]'(by simpa using hi)=l[i]:=by simp only[hz]
        rw[List.getElem_map] at h1;unfold zuw at h1;rw[hn] at h1;rw[←h1];simp[zac,nullC]
       |false=>
        refine zuy true (hr c ?_);rw[←s2];unfold zb1;rw[List.mem_filter];exact⟨hc,by simp[hn]⟩
      have hdl:∀c∈l,zai c:=by
       intro c hc
       cases hn:c.1 with
       |true=>
        rw[(zq2 (hrl c hc) hn).1];exact z6j
       |false=>
        refine v3 c ?_;rw[←s2];unfold zb1;rw[List.mem_filter];exact⟨hc,by simp[hn]⟩
      refine⟨⟨(e:Int),hf,?_⟩,hdl⟩
      have hne:(e:Int)≠ -1:=by omega
      have e2:encOf t (e:Int) l=(e:Int):=by unfold encOf;rw[if_neg hne]
      rw[pgE,if_neg (by rintro(q|⟨_,q⟩);exact q ⟨t0,t1⟩;rw[hf] at q;cases q),if_neg (by omega),if_pos (List.all_eq_true.2 hrl),e2,s2,v2];dsimp only;rw[if_pos rfl,Int.toNat_natCast]
      congr 1
      rcases zom (some b) with q|⟨y,rr,q1,q⟩
      ·rw[q] at k1
       injection k1 with _ k1;subst k1;rw[zgu] at k2;injection k2 with _ k2;subst k2;rw[zdt] at k4;injection k4 with _ k4;exact absurd k4.symm hS
      ·rw[q] at k1
       injection k1 with k1 k1';subst k1 k1';injection q1 with q1;rcases zbo 65536 (some rr) (St.ok_some fun z hz=>h8 z (by rw[q1];simp[hz])) with p|⟨N,r1,e1,p1,_,p⟩
       ·rw[p] at k2
        injection k2 with _ k2;subst k2;rw[zdt] at k4;injection k4 with _ k4;exact absurd k4.symm hS
       ·rw[p] at k2
        injection k2 with k2 k2';subst k2 k2';injection e1 with e1;rcases zb9 (((N+7)/8:Nat):Int) (some r1) with p2|⟨l2,p3,_,p4,p2⟩
        ·rw[p2] at k4
         injection k4 with _ k4;exact absurd k4.symm hS
        ·rw[p2] at k4
         injection k4 with k4 k4';injection p3 with p3;subst p3;rw[←k4'] at k3;simp only[Option.getD_some] at k3;rw[q1,e1,show l.length=N by omega,←hbs,←k4,←k3];simp
     ·cases hl
 ·rintro l hd ⟨e',hf,hB⟩
  obtain⟨ht,hl6,hr,-,d,hd2,hb⟩:=zin hB
  have hne:e'≠ -1:=by have:=(zfw hf).1;omega
  have e2:encOf t e' l=e':=by unfold encOf;rw[if_neg hne]
  rw[e2] at hd2;rw[e2,if_pos rfl] at hb;rw[hb] at k1;simp only[zbc] at k1;injection k1 with k1 k1';subst k1 k1';rw[zb2 _ _ (by omega) (by omega)] at k2;injection k2 with k2 k2';subst k2 k2'
  have hsl:(zb3 l).length=(l.length+7)/8:=by
   unfold zb3;rw[zbh,zem,Nat.one_mul]
  have ht2:=zdf (zb3 l) d;rw[hsl] at ht2;rw[ht2] at k4;injection k4 with k4 k4';subst k4 k4';simp only[Option.getD_some] at k3;subst k3;rw[zux hl6] at hv⊢
  have hcn:zpv (some (zcb l))=((zb1 l).length:Int):=by
   unfold zpv;dsimp only;rw[zzs]
  rw[hcn] at hv;have h0:=(zfw hf).1
  have ee:((e'.toNat:Nat):Int)=e':=by omega
  unfold qgq;rw[ee] at hv⊢;rw[if_neg (by rintro(q|q);cases q;rw[hf] at q;cases q),(hv hf).compl (zb1 l) (zio hd) rfl hd2];dsimp only;rw[joinO_eqP (zzs l),zqz,z18 hr]
where
 joinO_eqP {m:List Nat} {r:List zab} (h:m.sum=r.length):zol (some m) r=zfx m r:=by rw[zol];simp[h]
theorem qfw{t:Int}{nu:Bool}{b:List Nat}(h: ¬(0≤t∧t≤3)):IsPg t nu b none:=
 ⟨fun l e=>(by cases e),fun l _ ⟨_,_,hB⟩=>absurd (zin hB).1 h⟩
end Go.Proofs.YtmgfkpnghlmheaaGreat
namespace Go.Hm
def headL_film:List Nat:=[72,89,80,79]
def tailL:List Nat:=[79,80,89,72]
def ownN(b:List Nat):Nat:=num ((b.drop (b.length-8)).take 4)
def zon(b:List Nat):Option (List Nat):=
 if b.length<12∨b.take 4≠headL_film∨b.drop (b.length-4)≠tailL then none
 else if b.length-12<ownN b then none
 else some ((b.drop (b.length-8-ownN b)).take (ownN b))
theorem zzv{b s:List Nat}(h:zon b=some s):s.length=ownN b∧ownN b+12≤b.length:=by
 unfold zon at h;split at h
 ·cases h
 ·rename_i h1
  split at h
  ·cases h
  ·injection h with h
   subst h;rw[List.length_take,List.length_drop];omega
end Go.Hm
namespace Go.Proofs.YtmgfkpnghlmheaaGreat
open Go.RowKit Go.Hm
def zxu:Nat→Nat
 |0=>120
 |1=>182
 |2=>184
 |3=>186
 |_=>188
def zxv:Nat→Nat
 |0=>181
 |1=>183
 |2=>185
 |3=>187
 |_=>189
def qif(q:Nat):Value:= .agg #[.func (.func (zxu q)) #[] #[],.func (.func (zxv q)) #[] #[]]
theorem qf1:Maps.Keyed Tryz.prog 3:=Maps.int_keyed (show Tryz.prog.underlying 3=some (.int .i64) by kernel_rfl)
theorem zxw:Tryz.prog.underlying 190=some (.map 3 189):=by kernel_rfl
theorem zhz(k:Nat)(h:k≤4):∃kl,keyOf Tryz.prog 3 (.int .i64 (k:Int))=some kl:=
 ⟨_,Maps.keyOf_int_mk (show Tryz.prog.underlying 3=some (.int .i64) by kernel_rfl) (by simp[Lit.wf,IntKind.min,IntKind.max,IntKind.signed,IntKind.bits];omega)⟩
theorem z2p(W:World):(Instr.makeMap 190 none).run Tryz.prog W= .ok (.map (some W.heap.size)) (W.alloc (.map #[] 0)):=by
 simp[Instr.makeMap,Result.andThen]
def qf2(w:World)(e:Ending)(w':World):Prop:=
 ∃b f,e= .returned (.map (some b))∧MapF_mapf Tryz.prog 3 qif w' b 5 f∧(∀k:Nat,k≤4→f (k:Int)=some k)∧New w w'
set_option maxRecDepth 100000 in
theorem zo7{w:World}:Calls Tryz.prog 160 #[] w (qf2 w):=by
 have hmm:=z2p;have b0:New w (w.alloc (.map #[] 0)):=(Below.refl _ _).alloc (Nat.le_refl _) _;have M0:=MapF_mapf.made (P:=Tryz.prog) (k:=3) (F:=qif) w
 go_enter Tryz.func160,Tryz.ntmps160
 go_wp2_with (first
  |(refine zfz rfl (.tmp 1) _ (.tmp 2) 190 rfl qf1 zxw M0 (by unfold maxLen;omega) (zhz 0 (by omega)) 0 rfl rfl rfl ?_
    intro w1 M1 g1)
  |(refine zfz rfl (.tmp 1) _ (.tmp 3) 190 rfl qf1 zxw M1 (by unfold maxLen;omega) (zhz 1 (by omega)) 1 rfl rfl rfl ?_
    intro w2 M2 g2)
  |(refine zfz rfl (.tmp 1) _ (.tmp 4) 190 rfl qf1 zxw M2 (by unfold maxLen;omega) (zhz 2 (by omega)) 2 rfl rfl rfl ?_
    intro w3 M3 g3)
  |(refine zfz rfl (.tmp 1) _ (.tmp 5) 190 rfl qf1 zxw M3 (by unfold maxLen;omega) (zhz 3 (by omega)) 3 rfl rfl rfl ?_
    intro w4 M4 g4)
  |(refine zfz rfl (.tmp 1) _ (.tmp 6) 190 rfl qf1 zxw M4 (by unfold maxLen;omega) (zhz 4 (by omega)) 4 rfl rfl rfl ?_
    intro w5 M5 g5))
 go_ret
 have gr:∀{wa wb:World},New w wa→wa.grownBy wb (some w.heap.size)→New w wb:=fun h g=>zaw h g (Nat.le_refl _) (Nat.le_refl _)
 exact⟨_,_,rfl,M5,fun k hk=>by rcases(by omega:k=0∨k=1∨k=2∨k=3∨k=4) with rfl|rfl|rfl|rfl|rfl<;> rfl,gr (gr (gr (gr (gr b0 g1) g2) g3) g4) g5⟩
open Go.RowKit Go.Hm
theorem zz8{l:List zab}(h:∀c∈l,zai c):∀x∈ze5 l,zex x:=fun x hx=>by
 obtain⟨c,hc,rfl⟩:=List.mem_map.1 hx;exact(h c hc).2
theorem ztb{t:Int}{l:List zab}(h:zhs t l=true)(ht:t=3):(∀x∈zjd 0 (xsV l),zex x)∧∀x∈zjd 0 (ysV l),zex x:=by
 subst ht;have hr:=(plOk_iff.1 h).2
 have hb:∀c∈l,(-1048576≤c.2.2.2.1∧c.2.2.2.1≤1048576)∧ -1048576≤c.2.2.2.2∧c.2.2.2.2≤1048576:=fun c hc=>by
  have:=zl9 (hr c hc);omega
 refine⟨fun x hx=>?_,fun x hx=>?_⟩
 ·have:=zsm (a:=0) (by omega) (fun z hz=>by obtain⟨c,hc,rfl⟩:=List.mem_map.1 hz;exact(hb c hc).1) x hx
  unfold zex;omega
 ·have:=zsm (a:=0) (by omega) (fun z hz=>by obtain⟨c,hc,rfl⟩:=List.mem_map.1 hz;exact(hb c hc).2) x hx
  unfold zex;omega
theorem zz9{t e:Int}{l:List zab}{b:List Nat}(hd:∀c∈l,zai c)(h:zdl t e l=some b):b.length≤100000000000:=by
 have hok:=zln h;have hl:=(plOk_iff.1 hok).1.2.2;unfold zdl at h;split at h
 ·have:=zse hok
  rw[←(plO_iff.1 h).2];omega
 ·split at h
  ·have:=z5i h
   omega
  ·try rw[if_pos hok] at h
   split at h
   ·injection h with h
    have:=zsd (zim hd) (by unfold zeg;rw[List.length_map];exact hl);rw[show(zeg l).length=l.length by unfold zeg;rw[List.length_map]] at this;rw[←h];omega
   ·split at h
    ·split at h
     ·rename_i ht
      obtain⟨d1,d2⟩:=ztb hok ht;unfold encPts at h;split at h
      ·rename_i x y hx hy
       have a1:=zf8 d1 hx;have a2:=zf8 d2 hy;have a3:=zaj (n:=x.length) (by omega);injection h with h;rw[←h,List.length_append,List.length_append];omega
      ·cases h
     ·have:=zf8 (zz8 hd) h
      omega
    ·unfold zuh at h
     split at h
     ·rename_i hf
      obtain⟨f1,f2,f3⟩:=(zel _).1 hf;have:=zsg [] (zbb l) f2;injection h with h;rw[←h];omega
     ·cases h
theorem qf5{t e:Int}{l:List zab}{b:List Nat}(hd:∀c∈l,zai c)(h:zdl t e l=some b):∀x∈b,x<256:=by
 have hok:=zln h;unfold zdl at h;split at h
 ·rw[←(plO_iff.1 h).2]
  exact z58 (fun c hc=>(hd c hc).1.2)
 ·split at h
  ·exact qa1 hd h
  ·try rw[if_pos hok] at h
   split at h
   ·injection h with h
    rw[←h];exact zoc (zim hd)
   ·split at h
    ·split at h
     ·rename_i ht
      obtain⟨d1,d2⟩:=ztb hok ht;unfold encPts at h;split at h
      ·rename_i x y hx hy
       injection h with h;rw[←h];intro z hz;rcases List.mem_append.1 hz with hz|hz
       ·rcases List.mem_append.1 hz with hz|hz
        ·exact zzf _ _ (Nat.le_refl _) z hz
        ·exact zta hx z hz
       ·exact zta hy z hz
      ·cases h
     ·exact zta h
    ·exact qfo (fun s hs=>by obtain⟨c,hc,rfl⟩:=List.mem_map.1 hs;exact(hd c hc).1.2) h
theorem zrm{l:List zab}(h:l.length≤65536):(zb3 l).length≤8193:=by
 unfold zb3;rw[zbh,zem];omega
theorem ztc{t:Int}{nu:Bool}{e:Int}{l:List zab}{b:List Nat}{k:Int}(hd:∀c∈l,zai c)(h:pgE t nu e l=(k,b)):b.length≤100000010000:=by
 by_cases hk:k=0
 ·subst hk
  obtain⟨_,h1,_,_,d,h2,rfl⟩:=zin h;have a:=zz9 (zio hd) h2;have b:=zrm h1;have c:=zaj (n:=l.length) (by omega);simp only[List.length_cons,List.length_append];split<;> simp<;> omega
 ·have:b=[]:=by
   unfold pgE at h;split at h
   ·injection h with _ h;exact h.symm
   ·split at h
    ·injection h with _ h;exact h.symm
    ·split at h
     ·split at h
      ·injection h with h _;exact absurd h.symm hk
      ·injection h with _ h;exact h.symm
     ·injection h with _ h;exact h.symm
  subst this;simp
theorem qd2{t:Int}{nu:Bool}{e:Int}{l:List zab}{b:List Nat}(hd:∀c∈l,zai c)(h:pgE t nu e l=(0,b)):∀x∈b,x<256:=by
 obtain⟨_,_,_,h4,d,h2,rfl⟩:=zin h;have:=(zfw h4).1;intro x hx;rcases List.mem_cons.1 hx with rfl|hx
 ·omega
 ·rcases List.mem_append.1 hx with hx|hx
  ·exact zzf _ _ (Nat.le_refl _) x hx
  ·rcases List.mem_append.1 hx with hx|hx
   ·split at hx
    ·exact zl5 _ _ x hx
    ·cases hx
   ·exact qf5 (zio hd) h2 x hx
end Go.Proofs.YtmgfkpnghlmheaaGreat
