/- Texts merged and made short: DicK, DicN, RunR, DelR. -/
import Derived.DeepKeys4
import Derived.Maps.Own
import Derived.Maps.OwnOps
import Derived.Maps.Views
import Derived.Test.YtmgfkpnghlmheaaGreatBun1
import Derived.Test.YtmgfkpnghlmheaaGreatBun11
import Derived.Test.YtmgfkpnghlmheaaGreatBun13
import Derived.Test.YtmgfkpnghlmheaaGreatBun14
import Derived.Test.YtmgfkpnghlmheaaGreatBun16
import Derived.Test.YtmgfkpnghlmheaaGreatBun3
import Derived.Test.YtmgfkpnghlmheaaGreatBun4
import Derived.Test.YtmgfkpnghlmheaaGreatBun8
import Derived.WideKeyArr
set_option maxHeartbeats 4000000
namespace Go.Hm
open Go Go.RowKit Go.Maps
abbrev DWn:=DataW Unit
def z9g(p:Nat):Value:= .int .u64 (p:Int)
def zwt(p:Nat):DWn:= .lit (.int .u64 (p:Int))
def qic:Value→Option (DWn × List MemPlace)
 | .int .u64 a=>some (.lit (.int .u64 a),[])
 |_=>none
theorem qe2(p:Nat):qic (z9g p)=some (zwt p,[]):=rfl
theorem qae{v:Value}{z:DWn × List MemPlace}(h:qic v=some z):∃p:Int,v= .int .u64 p∧z=(.lit (.int .u64 p),[]):=by
 unfold qic at h;split at h
 ·rename_i a
  exact⟨a,rfl,(Option.some.inj h).symm⟩
 ·cases h
def Bok(c:zab):Prop:=∀z∈c.2.2.1,z<256
theorem z4k{c d:zab}(hc:Bok c)(hd:Bok d)(h:zcz c=zcz d):c=d:=by
 obtain⟨a1,a2,a3,a4,a5⟩:=c;obtain⟨b1,b2,b3,b4,b5⟩:=d;simp only[zcz,zak,Value.agg.injEq,Array.mk.injEq,List.cons.injEq,Value.bool.injEq,Value.int.injEq,Value.string.injEq,true_and,and_true] at h;obtain⟨rfl,rfl,e,rfl,rfl⟩:=h;have:=congrArg (fun s=>s.toList) e;have hb:=zhg hc hd;dsimp only at this hb;rw[this] at hb;simp at hb;rw[hb]
theorem zqh{P:Program}{d:Nat}{t:TypeId}{fs:Array Field}{cs:List Value}{L:List (TypeId × Nat)}(hu:P.underlying t=some (.struct fs))(hlen:cs.length=P.cellsOf t)(hn:fs.all (·.name != "_")=true)
 (e:fs.toList.map (fun f=>(f.type,f.offset))=L):P.keyLits (d+1) t cs=(L.mapM fun p=>P.keyLits d p.1 ((cs.drop p.2).take (P.cellsOf p.1))).map List.flatten:=by
 rw[←e,List.mapM_map]
 conv=>lhs;unfold Program.keyLits
 simp only[hu];rw[if_pos ⟨hlen,hn⟩];rfl
theorem qaf{P:Program}{d:Nat}{t:TypeId}{b:Bool}(hu:P.underlying t=some .bool):P.keyLits (d+1) t [.bool b]=some [.bool b]:=by
 unfold Program.keyLits;simp only[hu]
theorem zwu{P:Program}{d:Nat}{t:TypeId}{n:Int}(hu:P.underlying t=some (.int .i64))(h: -9223372036854775808≤n∧n≤9223372036854775807):P.keyLits (d+1) t [.int .i64 n]=some [.int .i64 n]:=by
 have hw:(Lit.int .i64 n).wf=true:=by
  simp[Lit.wf,IntKind.min,IntKind.max,IntKind.signed,IntKind.bits];omega
 unfold Program.keyLits;simp[hu,hw]
theorem z09{P:Program}{d:Nat}{t:TypeId}{s:ByteArray}(hu:P.underlying t=some .string)(h:s.size≤maxLen):P.keyLits (d+1) t [.string s]=some [.string s.data.toList]:=by
 unfold Program.keyLits;simp[hu,h]
section
variable{P:Program}{k e:TypeId}
def MapC(P:Program)(k:TypeId)(w:World)(b n:Nat)(f:zab→Option Nat):Prop:=
 ∃D:DWn,w.ownsMap P k qic b n D∧IsMap D∧∀c kl,Bok c→keyOf P k (zcz c)=some kl→∀zd,D.atKey kl zd=((f c).map zwt).getD zd
theorem MapC.made(w:World):MapC P k (w.alloc (.map #[] 0)) w.heap.size 0 fun _=>none:=
 ⟨.map [],World.ownsMap_made _ _ _ _,isMap_empty,fun _ _ _ _ _=>rfl⟩
variable{w:World}{b n:Nat}{f:zab→Option Nat}
theorem MapC.kept{w':World}{row:Option Nat}(h:MapC P k w b n f)(hg:w.grownBy w' row)(hne:some b≠row):MapC P k w' b n f:=by
 obtain⟨D,h1,h2,h3⟩:=h;exact⟨D,h1.kept hg hne,h2,h3⟩
theorem MapC.lt(h:MapC P k w b n f):b<w.heap.size:=by
 obtain⟨D,h1,_⟩:=h;exact h1.lt
theorem MapC.eqf{f':zab→Option Nat}(h:MapC P k w b n f)(e:∀c,Bok c→f c=f' c):MapC P k w b n f':=by
 obtain⟨D,h1,h2,h3⟩:=h;exact⟨D,h1,h2,fun c kl hc hk zd=>by rw[h3 c kl hc hk zd,e c hc]⟩
theorem MapC.look{t:TypeId}(h:MapC P k w b n f)(K:Keyed P k)(ht:P.underlying t=some (.map k e))(hz:(zeroValue e).run P w= .ok (z9g 0) w){c:zab}(hc:Bok c)(hkey:∃kl,keyOf P k (zcz c)=some kl):
 (Instr.lookup t (.map (some b)) (zcz c) true).run P w= .ok (.tuple #[z9g ((f c).getD 0),.bool (f c).isSome]) w:=by
 obtain⟨D,⟨es,clock,hb,F,_,rfl⟩,h2,h3⟩:=h;obtain⟨kl,hkey⟩:=hkey;have h4:=h3 c kl hc hkey;rcases fit_look true K ht hz hb F hkey with⟨hrun,_,hat⟩|⟨e0,y,_,_,hrun,hRv,hat,_⟩
 ·cases hf:f c with
  |none=>exact hrun
  |some p=>
   rw[hf] at h4;have h5:=(hat .nil).symm.trans (h4 .nil);cases h5
 ·obtain⟨p,hp,rfl⟩:=qae hRv
  rw[hp] at hrun
  cases hf:f c with
  |none=>
   rw[hf] at h4;have h5:=(hat .nil).symm.trans (h4 .nil);cases h5
  |some q=>
   rw[hf] at h4;have h5:(DataW.lit (.int .u64 p):DWn)=zwt q:=(hat .nil).symm.trans (h4 .nil);simp only[zwt,DataW.lit.injEq,Lit.int.injEq,true_and] at h5;rw[h5] at hrun;exact hrun
theorem MapC.put{t:TypeId}(h:MapC P k w b n f)(K:Keyed P k)(ht:P.underlying t=some (.map k e))(hn:n<maxLen){c:zab}(hc:Bok c)(hkey:∃kl,keyOf P k (zcz c)=some kl)(p:Nat):
 ∃w',(Instr.mapUpdate t (.map (some b)) (zcz c) (z9g p)).run P w= .ok () w'∧MapC P k w' b (n+1) (fun d=>if d=c then some p else f d)∧w.grownBy w' (some b):=by
 obtain⟨D,h1,h2,h3⟩:=h;obtain⟨kl,hkey⟩:=hkey;obtain⟨w',hrun,ho,hg⟩:=h1.update K ht hn hkey (qe2 p);refine⟨w',hrun,⟨_,ho,h2.put _ _,fun d km hd hm zd=>?_⟩,hg⟩;by_cases he:d=c
 ·subst he
  rw[hm] at hkey;obtain rfl:=Option.some.inj hkey;show _=((if d=d then some p else f d).map zwt).getD zd;rw[if_pos rfl,atKey_put_same h2 (K.key hm)];rfl
 ·show _=((if d=c then some p else f d).map zwt).getD zd
  rw[if_neg he,atKey_put_other,h3 d km hd hm];intro hk;subst hk;exact he (z4k hd hc (K.inj hm hkey))
theorem zl8{ops:Array Oper}{rest:List Oper}{o:Oper}{a:Act}{Q:Exit→Act→World→Prop}(hg:o.guard=none)(m x:Operand)(t:TypeId)(hop:o.op=Op.lookup t m x true)
 (K:Keyed P k)(ht:P.underlying t=some (.map k e))(hz:(zeroValue e).run P w= .ok (z9g 0) w)(hown:MapC P k w b n f){c:zab}(hc:Bok c)(hkey:∃kl,keyOf P k (zcz c)=some kl)(hm:a.eval m= .map (some b))(hx:a.eval x=zcz c)
 (h:wpList P ops Q rest (a.put o.dst (.tuple #[z9g ((f c).getD 0),.bool (f c).isSome])) w):wpList P ops Q (o::rest) a w:=by
 refine wpList_plain hg fun K' hK'=>?_
 have hrun:=hown.look K ht hz hc hkey;unfold Oper.wp;simp[execOp,hop,hm,hx,hrun,Result.andThen];exact hK' _ _ h
theorem zwv{ops:Array Oper}{rest:List Oper}{o:Oper}{a:Act}{Q:Exit→Act→World→Prop}(hg:o.guard=none)(m x v:Operand)(t:TypeId)(hop:o.op=Op.mapUpdate t m x v)
 (K:Keyed P k)(ht:P.underlying t=some (.map k e))(hown:MapC P k w b n f)(hn:n<maxLen){c:zab}(hc:Bok c)(hkey:∃kl,keyOf P k (zcz c)=some kl)(p:Nat)
 (hm:a.eval m= .map (some b))(hx:a.eval x=zcz c)(hv:a.eval v=z9g p)
 (h:∀w',MapC P k w' b (n+1) (fun d=>if d=c then some p else f d)→w.grownBy w' (some b)→wpList P ops Q rest (a.put o.dst undef) w'):wpList P ops Q (o::rest) a w:=by
 refine wpList_plain hg fun K' hK'=>?_
 obtain⟨w',hrun,r1,r2⟩:=hown.put K ht hn hc hkey p;unfold Oper.wp;simp[execOp,hop,hm,hx,hv,hrun,Result.andThen];exact hK' _ _ (h w' r1 r2)
end
end Go.Hm
namespace Go.Proofs.YtmgfkpnghlmheaaGreat
open Go.RowKit Go.Hm
set_option maxRecDepth 100000 in
theorem qag{c:zab}(h1:c.2.2.1.length≤140737488351232)(h2: -9223372036854775808≤c.2.1∧c.2.1≤9223372036854775807)(h3: -9223372036854775808≤c.2.2.2.1∧c.2.2.2.1≤9223372036854775807)(h4: -9223372036854775808≤c.2.2.2.2∧c.2.2.2.2≤9223372036854775807):
 ∃kl,keyOf Tryz.prog 61 (zcz c)=some kl:=by
 obtain⟨a1,a2,a3,a4,a5⟩:=c;dsimp only at h1 h2 h3 h4
 have hu:Tryz.prog.underlying 61=some (.struct (zdd Tryz.prog 61)):=by kernel_rfl
 have hp:Tryz.prog.underlying 59=some (.struct (zdd Tryz.prog 59)):=by kernel_rfl
 have kt:Tryz.prog.keyType 61=true:=by kernel_rfl
 have cc:Tryz.prog.cellsOf 61=5:=by kernel_rfl
 have cp:Tryz.prog.cellsOf 59=2:=by kernel_rfl
 have ci:Tryz.prog.cellsOf 3=1:=by kernel_rfl
 have cb:Tryz.prog.cellsOf 4=1:=by kernel_rfl
 have cs:Tryz.prog.cellsOf 9=1:=by kernel_rfl
 have ui:Tryz.prog.underlying 3=some (.int .i64):=by kernel_rfl
 have ub:Tryz.prog.underlying 4=some .bool:=by kernel_rfl
 have us:Tryz.prog.underlying 9=some .string:=by kernel_rfl
 have e1:(zdd Tryz.prog 61).toList.map (fun f=>(f.type,f.offset))=[(4,0),(3,1),(9,2),(59,3)]:=by kernel_rfl
 have e2:(zdd Tryz.prog 59).toList.map (fun f=>(f.type,f.offset))=[(3,0),(3,1)]:=by kernel_rfl
 have n1:(zdd Tryz.prog 61).all (·.name != "_")=true:=by kernel_rfl
 have n2:(zdd Tryz.prog 59).all (·.name != "_")=true:=by kernel_rfl
 obtain⟨m,hm⟩:∃m,Tryz.prog.types.size=m+2:=⟨Tryz.prog.types.size-2,by
  have:2≤Tryz.prog.types.size:=of_decide_eq_true (by kernel_rfl)
  omega⟩
 have hf:(zcz (a1,a2,a3,a4,a5)).formed Tryz.prog 61=true:=by
  simp[zcz,zak,Value.formed,hu,cc]
 unfold keyOf;rw[hu];simp only[kt,hf,Bool.and_self,if_true,hm]
 have hz:(zae a3).size≤maxLen:=by rw[zbf];unfold maxLen;omega
 have hcs:(zcz (a1,a2,a3,a4,a5)).cells.toList=[.bool a1,.int .i64 a2,.string (zae a3),.int .i64 a4,.int .i64 a5]:=by simp[zcz,zak,Value.cells]
 rw[hcs,zqh hu (by rw[cc];rfl) n1 e1];simp only[List.mapM_cons,List.mapM_nil,cb,ci,cs,cp,List.drop_succ_cons,List.drop_zero,List.take_succ_cons,List.take_zero];rw[qaf ub,zwu ui h2,z09 us hz,zqh hp (by rw[cp];rfl) n2 e2];simp only[List.mapM_cons,List.mapM_nil,ci,List.drop_succ_cons,List.drop_zero,List.take_succ_cons,List.take_zero];rw[zwu ui h3,zwu ui h4];exact⟨_,rfl⟩
theorem qi4:(61:TypeId)<Tryz.prog.types.size:=of_decide_eq_true (by kernel_rfl)
theorem z4l:Maps.Keyed Tryz.prog 61:=Maps.Keyed.of_law (deep_law_laid Tryz.laidOut (m:=3) (by omega) qi4 (by kernel_rfl) (by kernel_rfl))
theorem qe3:Tryz.prog.underlying 222=some (.map 61 87):=by kernel_rfl
theorem qg2(w:World):(zeroValue 87).run Tryz.prog w= .ok (z9g 0) w:=by kernel_rfl
open Go.RowKit Go.Hm
def zhu(t:Int)(l:List zab):Option (List Nat):=
 match plO t (ze8 l).1 with
 |none=>none
 |some V=>if l.length≤65536 then some (vp (ze8 l).1.length++vp V.length++V++encL (ze8 l).2) else none
structure IsDic(t:Int)(b:List Nat)(n:Int)(o:Option (List zab)):Prop where
 sound:∀l,o=some l→(l.length:Int)=n∧zhu t l=some b∧∀c∈l,zai c
 compl:∀l,(∀c∈l,zai c)→(l.length:Int)=n→zhu t l=some b→o=some l
theorem IsDic.uniq{t:Int}{b:List Nat}{n:Int}{o p:Option (List zab)}(h:IsDic t b n o)(k:IsDic t b n p):o=p:=by
 cases o with
 |some l=>obtain⟨a,b,c⟩:=h.sound l rfl;exact(k.compl l c a b).symm
 |none=>
  cases p with
  |none=>rfl
  |some l=>obtain⟨a,b,c⟩:=k.sound l rfl;exact h.compl l c a b
theorem zih{l:List zab}(hl:l.length≤65536):∀x∈(ze8 l).2,x≤18446744073709551615:=fun x hx=>by
 have:=(zjt l).lt x hx;have:=zif l;omega
def qas(S3:St)(o1:Option (List zab))(cnt:Nat)(o2:Option (List Nat)):Option (List zab):=
 match S3,o1,o2 with
 |some _,some E,some P=>if E.Nodup∧ordL P=some cnt then some (P.map fun p=>E.getD p zfo) else none
 |_,_,_=>none
theorem zza{t n:Int}{b x y:List Nat}{cnt sz:Nat}{S1 S2 S3 S4:St}{o1:Option (List zab)}{o2:Option (List Nat)}(h8:∀x∈b,x<256)(hb:b.length≤140737488355200)(hn:n≤9223372036854775807)
 (k1:lenS n (some b)=(cnt,S1))(k2:lenS ((S1.getD []).length:Int) S1=(sz,S2))(k3:zbv (sz:Int) S2=(x,S3))(hp:IsPl zai t x (cnt:Int) o1)
 (k4:zbv ((S3.getD []).length:Int) S3=(y,S4))(hd:IsDec y n o2):IsDic t b n (qas S3 o1 cnt o2):=by
 constructor
 ·intro l hl
  unfold qas at hl;split at hl
  ·rename_i r E P
   split at hl
   ·rename_i hc
    obtain⟨hc1,hc2⟩:=hc;injection hl with hl;obtain⟨p1,p2,p3⟩:=hp.sound E rfl;obtain⟨d1,d2,d3,d4⟩:=(hd P).1 rfl
    have hcE:E.length=cnt:=by omega
    have hI:IsEnt l E P:=⟨hc1,hl,by rw[hc2,hcE]⟩;have hU:=hI.uniq;have hL:=hI.len;refine⟨by omega,?_,?_⟩
    ·unfold zhu
     rw[hU];dsimp only;rw[p2];dsimp only;rw[if_pos (by omega)]
     congr 1
     rcases zbo n (some b) (St.ok_some h8) with q|⟨N,r1,e1,q1,_,q⟩
     ·rw[q] at k1
      injection k1 with k1 k1';subst k1 k1';rw[zgu] at k2;injection k2 with k2 k2';subst k2 k2';rw[zdt] at k3;injection k3 with _ k3;cases k3
     ·rw[q] at k1
      injection k1 with k1 k1';subst k1 k1';injection e1 with e1
      have h81:St.ok (some r1):=St.ok_some fun z hz=>h8 z (by rw[e1];simp[hz])
      rcases zbo _ (some r1) h81 with q2|⟨M,r2,e2,q3,_,q2⟩
      ·rw[q2] at k2
       injection k2 with k2 k2';subst k2 k2';rw[zdt] at k3;injection k3 with _ k3;cases k3
      ·rw[q2] at k2
       injection k2 with k2 k2';subst k2 k2';injection e2 with e2;rcases zb9 (M:Int) (some r2) with q4|⟨l2,e3,_,e5,q4⟩
       ·rw[q4] at k3
        injection k3 with _ k3;cases k3
       ·rw[q4] at k3
        injection e3 with e3;injection k3 with k3 k3';injection k3' with k3';subst e3;rw[Int.toNat_natCast] at k3 k3'
        have hy:y=r:=by
         have:=zdf r [];rw[List.append_nil] at this;simp only[Option.getD_some] at k4;rw[this] at k4;injection k4 with k4 _;exact k4.symm
        have hx:x.length=M:=by rw[←k3,List.length_take];omega
        rw[d4,hy,hcE,hx,e1,e2,←k3',←k3];simp
    ·intro c hcl
     rw[←hl] at hcl;obtain⟨p,hpP,rfl⟩:=List.mem_map.1 hcl;have hlt:=hI.lt p hpP;refine p3 _ ?_;rw[List.getD_eq_getElem?_getD,List.getElem?_eq_getElem hlt];exact List.getElem_mem hlt
   ·cases hl
  ·cases hl
 ·intro l hdl hln hB
  have hI:=zjt l;have hle:=zif l
  have hw:=fun h=>zih (l:=l) h
  have hED:∀c∈(ze8 l).1,zai c:=fun c hc=>hdl c ((zhr l c).1 hc)
  unfold zhu at hB;split at hB
  ·cases hB
  ·rename_i V hV
   split at hB
   ·rename_i hl6
    have hw:=hw hl6;have hL:=hI.len;have hN:=hI.nodup;have hM:=hI.map;have hO:=hI.ord;generalize(ze8 l).1=E at*;generalize(ze8 l).2=P at*;injection hB with hB
    have a1:lenS n (some b)=(E.length,some (vp V.length++(V++encL P))):=by
     rw[←hB,List.append_assoc,List.append_assoc];exact zb2 _ _ (by omega) hn
    rw[a1] at k1;injection k1 with k1 k1';subst k1 k1';have hbl:=congrArg List.length hB;simp only[List.length_append] at hbl
    have a2:lenS (((some (vp V.length++(V++encL P)):St).getD []).length:Int) (some (vp V.length++(V++encL P)))=(V.length,some (V++encL P)):=by
     refine zb2 _ _ ?_ ?_
     ·simp only[Option.getD_some,List.length_append];omega
     ·simp only[Option.getD_some,List.length_append];omega
    rw[a2] at k2;injection k2 with k2 k2';subst k2 k2';rw[zdf] at k3;injection k3 with k3 k3';subst k3 k3';have a4:=zdf (encL P) [];rw[List.append_nil] at a4;simp only[Option.getD_some] at k4;rw[a4] at k4;injection k4 with k4 k4';subst k4 k4';rw[hp.compl E hED rfl hV,(hd P).2 ⟨by omega,by omega,hw,rfl⟩];unfold qas;dsimp only;rw[if_pos ⟨hN,hO⟩,hM]
   ·cases hB
open Go.RowKit Go.Hm
theorem zzb(b n:Nat): -1≤nby (b:Int) (n:Int)∧nby (b:Int) (n:Int)≤524289:=by
 by_cases hb:b≤64
 ·by_cases hn:n≤65536
  ·rw[znq b n hb hn]
   have:=Nat.mul_le_mul hb hn;omega
  ·unfold nby
   rw[if_pos (by omega)];omega
 ·unfold nby
  rw[if_pos (by omega)];omega
theorem qat(n k b:Nat)(h:k<n):(List.replicate k b++List.replicate (n-k) 0).set k b=List.replicate (k+1) b++List.replicate (n-(k+1)) 0:=by
 rw[List.set_append_right _ _ (by simp),List.length_replicate,Nat.sub_self,show n-k=(n-(k+1))+1 by omega,List.replicate_succ,List.set_cons_zero,List.replicate_succ',List.append_assoc];rfl
def qfl(x:List Nat)(g:Nat)(S:St)(w:World)(e:Ending)(w':World):Prop:=
 ∃A n c,e= .returned (.slice A n c)∧n=x.length∧Own w' w.heap.size 87 (.slice A n c) (za3 .u64 x)∧CurS w' g S∧w.grownBy w' (some g)
theorem zsb{w:World}{g:Nat}{S:St}{most:Nat}(h:CurS w g S)(hm:most≤65536):
 Calls Tryz.prog 225 #[.pointer (some ⟨g,0,none⟩),.int .i64 (most:Int)] w (qfl (rpS most S).1 g (rpS most S).2 w):=by
 have hle:=zb0 (m:=2*(most:Int)+1) S (by omega) h.ok;have C1:=Hz (zb8 (m:=2*(most:Int)+1) h (by omega) (by omega));obtain⟨X,hX⟩:∃X,X=rpS most S:=⟨_,rfl⟩;rw[←hX];unfold rpS at hX;dsimp only at hX;generalize lenS (2*(most:Int)+1) S=H at*;obtain⟨a,S1⟩:=H;dsimp only at*
 have ha:a≤131073:=by omega
 have D1:(a:Int).tdiv 2=((a/2:Nat):Int):=by rw[Int.tdiv_eq_ediv_of_nonneg (by omega)];rfl
 have D2:(a:Int).tmod 2=((a%2:Nat):Int):=by rw[Int.tmod_eq_emod_of_nonneg (by omega)];rfl
 have hn:a/2≤65536:=by omega
 have ho:a%2<2:=Nat.mod_lt _ (by omega);generalize a/2=n at*;generalize a%2=o at*;have HX:=Hz hX;clear h hX
 go_enter Tryz.func225,Tryz.ntmps225
 go_wp2_with fail
 refine C1.out.mono ?_;rintro e w1 ⟨rfl,s1,g1⟩;clear C1;by_cases h1:o=1
 ·subst h1
  have hX:=HX.out;rw[if_pos rfl] at hX;clear HX;have C2:=Hz (ze3 s1);have hb:=zho s1.ok;generalize zbc S1=Bq at*;obtain⟨b,S2⟩:=Bq;dsimp only at*;have HX:=Hz hX;clear hX
  go_wp2_with fail
  refine C2.out.mono ?_;rintro e w2 ⟨rfl,s2,g2⟩;clear C2 s1;have hbw:IntKind.i64.wrap (b:Int)=(b:Int):=IntWalk.i64_in _ (by omega)
  go_wp2_with fail
  refine(zic (b:Int) (n:Int) w2 (by omega) (by omega) (by omega) (by omega)).mono ?_;rintro e w3 ⟨rfl,rfl⟩
  go_wp2_with fail
  refine(zc6 (n:=nby (b:Int) (n:Int)) s2 (by have:=zzb b n;omega) (by have:=zzb b n;omega)).mono ?_;rintro e w4 ⟨A4,n4,c4,rfl,e4,o4,s4,g4⟩;have hX:=HX.out;have h8:=(zcr (n:=nby (b:Int) (n:Int)) s2.ok).2;generalize zbv (nby (b:Int) (n:Int)) S2=Tq at*;obtain⟨x,S4⟩:=Tq;dsimp only at*;subst e4;clear HX;have HX:=Hz hX;clear hX s2
  have hxl:x.length≤9223372036854775807:=by have:=o4.cap;simp only[maxLen] at this;omega
  have C5:=Hz (zgt (c:=c4) (b:Int) (n:Int) o4.reads h8 hxl (by omega) (by omega) (by omega) (by omega))
  go_wp2_with fail
  refine C5.out.mono ?_;intro e w5 h5;have hX:=HX.out;generalize zbg x (b:Int) (n:Int)=o5 at*;clear HX C5;have G4:=(g1.trans g2).trans g4
  cases o5 with
  |none=>
   obtain⟨rfl,b5⟩:=h5;dsimp only at hX
   go_wp2_with fail
   refine(zju (s4.below b5)).mono ?_;rintro e w6 ⟨rfl,s6,g6⟩
   go_wp2
   go_ret
   rw[hX];exact⟨none,0,0,rfl,rfl,Own.nil_,s6,(G4.trans (Far.of_new b5)).trans g6⟩
  |some l=>
   obtain⟨A5,n5,c5,rfl,o5,b5⟩:=h5;dsimp only at hX
   go_wp2
   go_ret
   rw[hX];exact⟨A5,n5,c5,rfl,by have:=o5.len;rwa[zaa] at this,o5.base_le (by have:=G4.size;omega),s4.below b5,G4.trans (Far.of_new b5)⟩
 ·obtain rfl:o=0:=by omega
  have hX:=HX.out;rw[if_neg (by omega)] at hX;clear HX;have C2:=Hz (zkj s1);have hb:=zjp s1.ok;generalize zh3 S1=Bq at*;obtain⟨b,S2⟩:=Bq;dsimp only at*;have HX:=Hz hX;clear hX
  go_wp2_with fail
  refine C2.out.mono ?_;rintro e w2 ⟨rfl,s2,g2⟩;clear C2 s1;have G2:=g1.trans g2;have hz:=G2.size;have G2:=Hz G2;clear g1 g2
  go_wp2_with (first
   |(refine zca elW rfl (.tmp 44) (.tmp 44) rfl (W:=w2) (B:=w2.heap.size) n n rfl rfl rfl rfl (by omega) (Below.refl _ _) (Nat.le_refl _) rfl (by omega) (by simp only[maxLen];omega) ?_
     intro w3 hown3 hg3 hb3 hs3))
  go_loopw [48] (fun i wr=>∃k:Nat,k≤n∧i= .int .i64 (k:Int)∧Own wr w2.heap.size 87 (.slice (some ⟨w2.heap.size,0,none⟩) n n) (za3 .u64 (List.replicate k b++List.replicate (n-k) 0))∧Below w2.heap.size w2 wr) (fun i _=>n-(intOf i).toNat)
  case atStart=>exact⟨0,Nat.zero_le _,rfl,by simpa[zbx] using hown3,hb3⟩
  case round=>
   obtain⟨k,hk,rfl,hown,hbl⟩:=hrel;by_cases hlt:k<n
   ·obtain⟨hg0,hgl,hc,hf,hset⟩:=hown.num0 (i:=k) hlt
    have hs:=hset b;rw[qat n k b hlt] at hs
    go_wp2
    go_roundw
    case rel=>exact⟨k+1,by omega,by go_num,hs,hbl.setCell (p:=⟨w2.heap.size,k,none⟩) (Nat.le_refl _) _⟩
    case measure=>simp[intOf];omega
   ·obtain rfl:k=n:=by omega
    go_wp2
    go_ret
    rw[HX.out];refine⟨_,_,_,rfl,by simp,?_,s2.below hbl,G2.out.trans (Far.of_new hbl)⟩;rw[Nat.sub_self,List.replicate_zero,List.append_nil] at hown;exact hown.base_le hz
open Go.RowKit Go.Hm
def qi0(x:List Int)(g:Nat)(S:St)(w:World)(e:Ending)(w':World):Prop:=
 ∃A n c,e= .returned (.slice A n c)∧n=x.length∧Go.Hm.Own w' w.heap.size 3 (.slice A n c) (zep .i64 x)∧CurS w' g S∧w.grownBy w' (some g)
set_option maxRecDepth 100000 in
theorem zs9{w:World}{g:Nat}{S:St}{n:Nat}(h:CurS w g S)(hn:n≤65536):
 Calls Tryz.prog 243 #[.pointer (some ⟨g,0,none⟩),.int .i64 (n:Int)] w (qi0 (zdi n S).1 g (zdi n S).2 w):=by
 have C1:=Hz (zkj h);obtain⟨X,hX⟩:∃X,X=zdi n S:=⟨_,rfl⟩;rw[←hX];unfold zdi at hX;have ha:=zjp h.ok;have hz:=zys ha;generalize zh3 S=H at*;obtain⟨a,S1⟩:=H;dsimp only at*;have Z1:=Hz (fun W=>znw a W ha);generalize zag a=z at*;have HX:=Hz hX;clear h hX
 go_enter Tryz.func243,Tryz.ntmps243
 go_wp2_with fail
 refine C1.out.mono ?_;rintro e w1 ⟨rfl,s1,g1⟩;clear C1
 go_wp2_with fail
 refine(Z1.out _).mono ?_;rintro e w2 ⟨rfl,rfl⟩;clear Z1;have hX:=HX.out;have C2:=Hz (ze3 s1);have hb:=zho s1.ok;generalize zbc S1=Bq at*;obtain⟨b,S2⟩:=Bq;dsimp only at*;clear HX;have HX:=Hz hX;clear hX
 go_wp2_with fail
 refine C2.out.mono ?_;rintro e w2 ⟨rfl,s2,g2⟩;clear C2 s1;have hbw:IntKind.i64.wrap (b:Int)=(b:Int):=IntWalk.i64_in _ (by omega)
 go_wp2_with fail
 refine(zic (b:Int) (n:Int) w2 (by omega) (by omega) (by omega) (by omega)).mono ?_;rintro e w3 ⟨rfl,rfl⟩
 go_wp2_with fail
 refine(zc6 (n:=nby (b:Int) (n:Int)) s2 (by have:=zzb b n;omega) (by have:=zzb b n;omega)).mono ?_;rintro e w4 ⟨A4,n4,c4,rfl,e4,o4,s4,g4⟩;have hX:=HX.out;have h8:=(zcr (n:=nby (b:Int) (n:Int)) s2.ok).2;generalize zbv (nby (b:Int) (n:Int)) S2=Tq at*;obtain⟨x,S4⟩:=Tq;dsimp only at*;subst e4;clear HX;have HX:=Hz hX;clear hX s2
 have hxl:x.length≤9223372036854775807:=by have:=o4.cap;simp only[maxLen] at this;omega
 have C5:=Hz (zgt (c:=c4) (b:Int) (n:Int) o4.reads h8 hxl (by omega) (by omega) (by omega) (by omega))
 go_wp2_with fail
 refine C5.out.mono ?_;intro e w5 h5;have hX:=HX.out;have hul:= @zjq x;have hun:=Hz (fun m (e:zbg x (b:Int) (n:Int)=some m)=>And.intro (hul e) (zhn h8 e).2.2.2.1);clear hul;generalize zbg x (b:Int) (n:Int)=o5 at*;clear HX C5;have G4:=(g1.trans g2).trans g4
 cases o5 with
 |none=>
  obtain⟨rfl,b5⟩:=h5;dsimp only at hX
  go_wp2_with fail
  refine(zju (s4.below b5)).mono ?_;rintro e w6 ⟨rfl,s6,g6⟩
  go_wp2
  go_ret
  rw[hX];exact⟨none,0,0,rfl,rfl,Own.nil_,s6,(G4.trans (Far.of_new b5)).trans g6⟩
 |some m=>
  obtain⟨A5,n5,c5,rfl,o5,b5⟩:=h5;dsimp only at hX;obtain⟨hml,hmw⟩:=hun.out m rfl
  obtain rfl:n5=m.length:=by have:=o5.len;rwa[zaa] at this
  subst hml;have HX:=Hz hX;have HMW:=Hz hmw;have R5:=Hz o5.reads;have s5:=s4.below b5;have G5:=G4.trans (Far.of_new b5);have hz5:=G5.size;have HS:=Hz (And.intro s5 G5);clear hX hmw o5 b5 s4 G4 g1 g2 g4 hun s5 G5
  go_wp2_with (refine zca elI rfl (.tmp 33) (.tmp 33) rfl (W:=w5) (B:=w5.heap.size) m.length m.length rfl rfl rfl rfl (Nat.le_refl _) (Below.refl _ _) (Nat.le_refl _) rfl (by omega) (by simp only[maxLen];omega) ?_
               intro w6 o6 _ b6 s6)
  go_loopw [37] (fun i wr=>∃k:Nat,k≤m.length∧i= .int .i64 (k:Int)∧Go.Hm.Own wr w5.heap.size 3 (.slice (some ⟨w5.heap.size,0,none⟩) m.length m.length) (zep .i64 (((m.take k).map fun y:Nat=>wrI (z+(y:Int)))++List.replicate (m.length-k) 0))∧New w5 wr) (fun i _=>m.length-(intOf i).toNat)
  case atStart=>exact⟨0,Nat.zero_le _,rfl,by simpa[zdh] using o6,b6⟩
  case round=>
   clear o6 b6 s6;obtain⟨k,hk,rfl,o,b⟩:=hrel;by_cases hlt:k<m.length
   ·obtain⟨ad,rfl,_,c0⟩:=(Reads.later R5.out b).num hlt
    have htk:=zad m k 0 hlt;obtain⟨hg0,hgl,hc,hf,hset⟩:=o.int0 (i:=k) hlt
    have hsl:((m.take k).map fun y:Nat=>wrI (z+(y:Int))).length=k:=by rw[List.length_map,List.length_take];omega
    have hs2:=hset (wrI (z+(m.getD k 0:Nat)));rw[ziu _ hsl hlt] at hs2
    have e1:((m.take k).map fun y:Nat=>wrI (z+(y:Int)))++[wrI (z+(m.getD k 0:Nat))]=(m.take (k+1)).map fun y:Nat=>wrI (z+(y:Int)):=by rw[htk,List.map_append];rfl
    rw[e1] at hs2;have HSet:=Hz hs2;generalize(((m.take k).map fun y:Nat=>wrI (z+(y:Int)))++List.replicate (m.length-k) 0).getD k 0=q at*;have hy:=HMW.out _ (show m.getD k 0∈m by rw[List.getD_eq_getElem?_getD,List.getElem?_eq_getElem hlt];exact List.getElem_mem hlt);generalize m.getD k 0=y at*;have hw1:IntKind.i64.wrap (y:Int)=wrI (y:Int):=rfl
    have hw2:IntKind.i64.wrap (z+wrI (y:Int))=wrI (z+(y:Int)):=by unfold wrI;rw[IntKind.wrap_i64,IntKind.wrap_i64,IntKind.wrap_i64];omega
    have i1:(k:Int)<(m.length:Int):=by omega
    have HB2:=Hz (fun q=>(below_drewN b q).setCell (p:=⟨w5.heap.size,k,none⟩) (Nat.le_refl _) (.int .i64 (wrI (z+(y:Int)))));clear htk hset hs2 hsl e1 hy
    go_wp2
    go_roundw
    case rel=>exact⟨k+1,by omega,by go_num,by first|exact HSet.out|exact(HSet.out).drewN _,by first|exact HB2.out _|exact HB2.out 0⟩
    case measure=>simp[intOf];omega
   ·obtain rfl:k=m.length:=by omega
    rw[List.take_length,Nat.sub_self,List.replicate_zero,List.append_nil] at o;obtain⟨s5,G5⟩:=HS.out
    go_wp2
    go_ret
    rw[HX.out];exact⟨_,_,_,rfl,by simp,o.base_le hz5,s5.below b,G5.trans (Far.of_new b)⟩
theorem qcb(P Z:List Int):zid 0 (P++Z)=zid (zid 0 P) Z:=by
 unfold zid;rw[List.getLast?_append];cases Z.getLast? <;> rfl
def zhc(P x:List Int)(q:Nat):List Int:=P++zfc (zid 0 P) (x.take q)
theorem zlx(P x:List Int):zhc P x 0=P:=by simp[zhc,zfc]
theorem z2v(P x:List Int){q:Nat}(h:q<x.length):zhc P x (q+1)=zhc P x q++[wrI (zid 0 (zhc P x q)+x.getD q 0)]:=by
 unfold zhc;rw[zad x q 0 h,z02,qcb,List.append_assoc]
theorem z7l(P x:List Int):zhc P x x.length=P++zfc (zid 0 P) x:=by
 unfold zhc;rw[List.take_length]
theorem z7m(P x:List Int){q:Nat}(h:q≤x.length):(zhc P x q).length=P.length+q:=by
 unfold zhc;rw[List.length_append,zkc,List.length_take];omega
set_option maxRecDepth 100000 in
theorem zpb{w:World}{g:Nat}{S:St}{n:Nat}(h:CurS w g S)(h0:0<n)(hn:n≤65536):
 Calls Tryz.prog 232 #[.pointer (some ⟨g,0,none⟩),.int .i64 (n:Int)] w (qi0 (zpx n S).1 g (zpx n S).2 w):=by
 have HG:=Hz h.lt;have C1:=Hz (zkj h);have ha:=zjp h.ok;obtain⟨X,hX⟩:∃X,X=zpx n S:=⟨_,rfl⟩;rw[←hX];unfold zpx at hX;generalize zh3 S=H at*;obtain⟨a,S1⟩:=H;dsimp only at*;have Z1:=Hz (fun W=>znw a W ha);generalize zag a=z at*;obtain⟨m,hm⟩:∃m,m=n-1:=⟨_,rfl⟩;rw[←hm] at hX;have KB1:=Hz (fun W=>zrh m W (by omega))
 have hK:nblk m≤2048:=by unfold nblk;omega
 have HK:Hid (nblk m=(m+31)/32):=Hz rfl;generalize nblk m=K at*;have T0:Hid (zlb m 0 ([z],S1)=([z],S1)):=Hz rfl;have TS:Hid (∀k,zlb m (k+1) ([z],S1)=((zlb m k ([z],S1)).1++zfc (zid 0 (zlb m k ([z],S1)).1) (zdi (min 32 (m-k*32)) (zlb m k ([z],S1)).2).1,(zdi (min 32 (m-k*32)) (zlb m k ([z],S1)).2).2)):=Hz (fun k=>rfl);have TL:=Hz (fun k=>zwr m ([z],S1) k);have TP:=Hz (fun k=>zyw m ([z],S1) (by simp) k)
 have hw1:IntKind.i64.wrap ((n:Int)-1)=(m:Int):=by rw[IntKind.wrap_i64];omega
 have HX:=Hz hX;have HM:=Hz hm;clear h hX hm;generalize zlb m=RT at*
 go_enter Tryz.func232,Tryz.ntmps232
 go_wp2_with fail
 refine C1.out.mono ?_;rintro e w1 ⟨rfl,s1,g1⟩;clear C1
 go_wp2_with fail
 refine(Z1.out _).mono ?_;rintro e w2 ⟨rfl,rfl⟩;clear Z1;have ol:Go.Hm.Own (w1.alloc (.cells #[.int .i64 z] 3)) w1.heap.size 3 (.slice (some ⟨w1.heap.size,0,none⟩) 1 1) (zep .i64 [z]):=World.ownsRow_lit (e:=3) (size:=1) (base:=w1.heap.size) w1 #[.int .i64 z] 1 (Nat.le_refl _) (by decide) rfl;have sl:=s1.below ((Below.refl _ _).alloc (Nat.le_refl _) (.cells #[.int .i64 z] 3));have gl:w.grownBy (w1.alloc (.cells #[.int .i64 z] 3)) (some g):=g1.trans (Far.of_new ((Below.refl _ _).alloc (Nat.le_refl _) _));have hz1:=g1.size;have hz2:=gl.size
 go_wp2_with fail
 refine(KB1.out _).mono ?_;rintro e w2 ⟨rfl,rfl⟩;clear KB1;have hg0:g<w1.heap.size:=s1.lt;have hgw:g<w.heap.size:=HG.out;have ol:=ol.base_le (b':=w.heap.size) hz1;generalize w1.alloc (.cells #[.int .i64 z] 3)=w2 at*;clear s1 g1 hg0
 go_wp2_with fail
 go_loopw [5,16] (fun v i wr=>∃(k:Nat) (AE:Option Addr) (cE:Nat),k≤K∧i= .int .i64 (k:Int)∧v= .slice AE (RT k ([z],S1)).1.length cE∧Go.Hm.Own wr w.heap.size 3 (.slice AE (RT k ([z],S1)).1.length cE) (zep .i64 (RT k ([z],S1)).1)∧CurS wr g (RT k ([z],S1)).2∧w.grownBy wr (some g)) (fun _ i _=>K-(intOf i).toNat)
 case atStart=>exact⟨0,_,1,Nat.zero_le _,rfl,by rw[T0.out];rfl,by rw[T0.out];exact ol,by rw[T0.out];exact sl,gl⟩
 case round=>
  clear ol sl gl hz1 hz2;obtain⟨k,AE,cE,hk,rfl,rfl,o,s,G⟩:=hrel;have tl:=TL.out k;have tp:=TP.out k;rw[List.length_singleton] at tl;by_cases hlt:k<K
  ·have hK2:=HK.out
   obtain⟨f,hf⟩:∃f,f=k*32:=⟨_,rfl⟩;obtain⟨r,hr⟩:∃r,r=m-f:=⟨_,rfl⟩;obtain⟨e,he⟩:∃e,e=min 32 r:=⟨_,rfl⟩;have TSk:=TS.out k;rw[←hf,←hr,←he] at TSk
   have w1:IntKind.i64.wrap ((k:Int)*32)=(f:Int):=by rw[IntKind.wrap_i64];omega
   have w2:IntKind.i64.wrap ((m:Int)-(f:Int))=(r:Int):=by rw[IntKind.wrap_i64];omega
   have m1:min (32:Int) (r:Int)=(e:Int):=by omega
   have m2:(if(r:Int)<32 then(r:Int) else 32)=(e:Int):=by split<;> omega
   have m3:(if r<32 then(r:Int) else 32)=(e:Int):=by split<;> omega
   have he32:e≤32:=by omega
   generalize RT k ([z],S1)=p at*;obtain⟨P,S⟩:=p;dsimp only at*;have RB:=Hz (zs9 s (n:=e) (by omega));have hxl:=zqg e S;generalize zdi e S=q at*;obtain⟨x,S2⟩:=q;dsimp only at*;have HTS:=Hz TSk
   have hP:P.length≤65600:=by omega
   have hki:(k:Int)<(K:Int):=by omega
   clear TSk hf hr he hK2
   go_wp2_with fail
   refine RB.out.mono ?_;rintro e2 w3 ⟨A3,n3,c3,rfl,rfl,o3,s3,g3⟩;have hap:=zge o3 (o.base_le (Nat.zero_le _));have o2:=o.kept g3 (.inr (fun e=>by have:=(o.lt _ e).1;omega));have hz0:=G.size;have o3:=o3.base_le (b':=w.heap.size) hz0;have G3:=G.trans g3;clear o s G g3 RB m1 m2 m3 w1 w2
   go_wp2_with fail
   go_loopw [5,28] (fun v i wr=>∃(j:Nat) (AF:Option Addr) (cF:Nat),j≤x.length∧i= .int .i64 (j:Int)∧v= .slice AF (zhc P x j).length cF∧Go.Hm.Own wr w.heap.size 3 (.slice AF (zhc P x j).length cF) (zep .i64 (zhc P x j))∧Go.Hm.Own wr w.heap.size 3 (.slice A3 x.length c3) (zep .i64 x)∧(Value.ownBlock (.slice A3 x.length c3)=none∨Value.ownBlock (.slice A3 x.length c3)≠Value.ownBlock (.slice AF (zhc P x j).length cF))∧CurS wr g S2∧w.grownBy wr (some g)) (fun _ i _=>x.length-(intOf i).toNat)
   case atStart=>exact⟨0,AE,cE,Nat.zero_le _,rfl,by rw[zlx],by rw[zlx];exact o2,o3,by rw[zlx];exact hap,s3,G3⟩
   case round=>
    clear o2 o3 hap s3 G3;obtain⟨j,AF,cF,hj,rfl,rfl,o,u,hap,s,G⟩:=hrel;by_cases hlj:j<x.length
    ·have hyl:=z7m P x hj
     have hys:=z2v P x hlj;obtain⟨ax,rfl,_,c0⟩:=u.reads.int hlj
     have hYp:0<(zhc P x j).length:=by omega
     obtain⟨t,ht⟩:∃t,t=(zhc P x j).length-1:=⟨_,rfl⟩;obtain⟨ay,rfl,_,c1⟩:=o.reads.int (i:=t) (by omega);have hla:=z97 hYp 0;rw[←ht] at hla;rw[←hla] at c1;have HYS:=Hz hys
     have wl:IntKind.i64.wrap (((zhc P x j).length:Int)-1)=(t:Int):=by rw[IntKind.wrap_i64];omega
     have hti:(t:Int)<((zhc P x j).length:Int):=by omega
     have hY6:(zhc P x j).length≤70000:=by omega
     have hji:(j:Int)<(x.length:Int):=by omega
     generalize zhc P x j=Y at*;generalize zid 0 Y=la at*;generalize x.getD j 0=st at*;have wa:IntKind.i64.wrap (la+st)=wrI (la+st):=rfl;have hsz:=G.size;clear hys hla ht hyl
     go_wp2_with (first
      |(refine zhh elI rfl (.tmp 32) (.tmp 41) rfl (W:=w) (B:=0) o rfl rfl (zle G) (Nat.zero_le _) hsz rfl (by rw[zcw];omega) (by rw[zcw];simp only[maxLen];omega) ?_
        rw[zcw];intro A9 c9 w9 hc9 _ o9 g9 _ hz9 d9;have s9:=s.push o g9 (by decide) (by decide);have G9:=ze2 G g9 (fun b e=>(o.lt b e).1);have u9:=u.kept g9 hap
        have hap9:=zii hap d9 u))
     go_roundw
     have e9:(Y++[wrI (la+st)]).length=Y.length+1:=by simp
     case rel=>exact⟨j+1,A9,c9,by omega,by go_num,by rw[HYS.out,e9],by rw[HYS.out,e9,zxt];exact o9,u9,by rw[HYS.out,e9];exact hap9,s9,G9⟩
     case measure=>simp[intOf];omega
    ·obtain rfl:j=x.length:=by omega
     rw[z7l] at o hap⊢
     go_wp2_with fail
     go_roundw
     case rel=>exact⟨k+1,AF,cF,by omega,by go_num,by rw[HTS.out],by rw[HTS.out];exact o,by rw[HTS.out];exact s,G⟩
     case measure=>simp[intOf];omega
  ·obtain rfl:k=K:=by omega
   go_wp2_with fail
   go_ret
   rw[HX.out];exact⟨_,_,_,rfl,rfl,o,s,G⟩
end Go.Proofs.YtmgfkpnghlmheaaGreat
