import Derived.Test.YtbahbnbpmfgimaaGreatDoorBun15
set_option maxHeartbeats 4000000
set_option maxRecDepth 100000
namespace Go.Hm
open Go Go.RowKit
def zbd(n:Nat):Nat:=if n<2 then 0 else 2^(n-1).log2
def qex(n:Nat):Nat:=if n<2 then 0 else(n-1).log2+1
theorem zrc{n:Nat}(h:2<=n):zbd n=2^(n-1).log2/\2^(n-1).log2<n/\n<=2^((n-1).log2+1):=by have h1:=qm1 (n:=n-1) (by omega);have h2:=qm2 (n:=n-1);refine⟨by unfold zbd;rw[if_neg (by omega)],by omega,by omega⟩
theorem zg9{n:Nat}(h:2<=n):1<=zbd n/\zbd n<n/\n-zbd n<=zbd n:=by obtain⟨h1,h2,h3⟩:=zrc h;rw[h1];rw[qm3] at h3;have:=qm4 (n:=(n-1).log2) (show 0<2 by omega);omega
theorem qfr{x k:Nat}(h1:2^k<=x)(h2:x<2^(k+1)):x.log2=k:=by
 have hx:x≠0:=by have:=qm4 (n:=k) (show 0<2 by omega);omega
 have a1:=qm1 hx;have a2:=qm2 (n:=x);have b1:x.log2<k+1:=(qm5 (by omega:1<2)).1 (qm6 a1 h2);have b2:k<x.log2+1:=(qm5 (by omega:1<2)).1 (qm6 h1 a2);omega
theorem z43{n k:Nat}(h1:2^k<n)(h2:n<=2^(k+1)):zbd n=2^k/\qex n=k+1:=by have hk:=qm4 (n:=k) (show 0<2 by omega);have hl:=qfr (x:=n-1) (k:=k) (by omega) (by omega);unfold zbd qex;rw[if_neg (by omega),if_neg (by omega),hl];exact⟨rfl,rfl⟩
end Go.Hm
namespace Go.Proofs.Y
open Go.RowKit Go.Hm Go.WideShapes Go.ChangeShapes
theorem gConst:Tryz.prog.globalNamed "hypostyle/sha.constants" =some 1:=by kernel_rfl
theorem tConst:(Tryz.prog.globals[1]?).map (·.type)=some 148:=by kernel_rfl
theorem qik:(Go.Proofs.YtbahbnbpmfgimaaGreatDoor.Rows.laid_hypostyle_sha_constants:DataW Unit)= .agg (kI.map fun k=> .lit (.int .u32 k)):=by rfl
abbrev zxo:List (String × DataW Unit):=[("hypostyle/sha.constants",Go.Proofs.YtbahbnbpmfgimaaGreatDoor.Rows.laid_hypostyle_sha_constants),("hypostyle/roots.kinds",Go.Proofs.YtbahbnbpmfgimaaGreatDoor.Rows.laid_hypostyle_roots_kinds)]
theorem zsx{W:World}(h:laidMetH Tryz.prog zxo W):ConstIn W:=by
 rw[MakeChecks.laidMetH_plain _ _ _ (by kernel_rfl)] at h;obtain⟨ps,⟨g0,t0,cs0,f0,p0,q0,hg0,ht0,hv0,hd0,_,hps⟩,_,hblk⟩:=h;obtain rfl:=qlj (gConst.symm.trans hg0);obtain rfl:=qlj (tConst.symm.trans ht0);obtain⟨xs,m1,rfl,hx1,hlen,hn3,hel⟩:=DataW.trod_array (show Tryz.prog.underlying 148=some (.array 64 97) by kernel_rfl) hd0;have c64:Tryz.prog.cellsOf 148=64:=by kernel_rfl
 have c1:Tryz.prog.cellsOf 97=1:=by kernel_rfl
 rw[c64] at hlen;rw[qik] at hx1;simp only[qlk,qlr] at hx1;have hcell:∀i,i<64->W.cell? ⟨1,i,none⟩=some (.int .u32 (kI.getD i 0)):=by
  intro i hi;have h1:=hel i hi;rw[c1,qmd] at h1;have hi2:i<cs0.toList.length:=by omega
  have hone:(cs0.toList.drop i).take 1=[cs0.toList[i]]:=by rw[qmh hi2];rfl
  rw[hone,qlx (by omega)] at h1;obtain⟨x,e1,e2,_⟩:=DataW.trod_int (show Tryz.prog.underlying 97=some (.int .u32) by kernel_rfl) h1;have hk:(xs.map (·.1))[i]? =(kI.map fun k=>(DataW.lit (.int .u32 k):DataW Unit))[i]? :=by rw[hx1.1]
  rw[qou,qlx (show i<xs.length by omega),qou,qlx (show i<kI.length from hi)] at hk;simp only[qo5,qll] at hk;rw[e2] at hk;simp only[qls,qlt,true_and] at hk;have hc:=World.var?_cell hg0 hv0 i;rw[hc];simp only[qli,and_true] at e1;rw[qpu (by simpa using hi2)];have e3:cs0[i]'(by simpa using hi2)=cs0.toList[i]:=by simp
  rw[e3,e1,hk,qnp,qlx (show i<kI.length from hi)];rfl
 refine⟨?_,hcell⟩;have h0:=hcell 0 (by omega);unfold World.cell? at h0;rcases qma 1 W.heap.size with hz|hz
 ·exact hz
 ·rw[qmb (by omega)] at h0
  cases h0
theorem qbq(os:Os)(args:Array Value):laidMetH Tryz.prog zxo ((World.doorLaid Tryz.prog 19 os).forCall (fun _ _=>0) ⟨#[],args,[]⟩).memory:=
 laidMetH_of_parts3 (fuel:=8) (laidMet_of_run' 8 (by kernel_rfl) (by kernel_rfl)) (by kernel_rfl) (by kernel_rfl)
end Go.Proofs.Y
namespace Go.Hm
open Go Go.RowKit Go.Maps
abbrev DWn:=DataW Unit
def qaq(p:Nat):Value:= .int .u64 (p:Int)
def zxz(p:Nat):DWn:= .lit (.int .u64 (p:Int))
def qj8:Value->Option (DWn × List MemPlace)
 | .int .u64 a=>some (.lit (.int .u64 a),[])
 |_=>none
theorem qgv(p:Nat):qj8 (qaq p)=some (zxz p,[]):=rfl
theorem qch{v:Value}{z:DWn × List MemPlace}(h:qj8 v=some z):∃p:Int,v= .int .u64 p/\z=(.lit (.int .u64 p),[]):=by
 unfold qj8 at h;split at h
 ·rename_i a
  exact⟨a,rfl,(qlj h).symm⟩
 ·cases h
def Bok(c:zab):Prop:=∀z∈c.2.2.1,z<256
theorem z65{c d:zab}(hc:Bok c)(hd:Bok d)(h:zdb c=zdb d):c=d:=by obtain⟨a1,a2,a3,a4,a5⟩:=c;obtain⟨b1,b2,b3,b4,b5⟩:=d;simp only[zdb,za4,Value.agg.injEq,Array.mk.injEq,qli,Value.bool.injEq,Value.int.injEq,Value.string.injEq,true_and,and_true] at h;obtain⟨rfl,rfl,e,rfl,rfl⟩:=h;have:=congrArg (fun s=>s.toList) e;have hb:=zi6 hc hd;dsimp only at this hb;rw[this] at hb;simp at hb;rw[hb]
theorem zro{P:Program}{d:Nat}{t:TypeId}{fs:Array Field}{cs:List Value}{L:List (TypeId × Nat)}(hu:P.underlying t=some (.struct fs))(hlen:cs.length=P.cellsOf t)(hn:fs.all (·.name != "_")=true)
 (e:fs.toList.map (fun f=>(f.type,f.offset))=L):P.keyLits (d+1) t cs=(L.mapM fun p=>P.keyLits d p.1 ((cs.drop p.2).take (P.cellsOf p.1))).map List.flatten:=by
 rw[<-e,List.mapM_map];conv=>lhs;unfold Program.keyLits
 simp only[hu];rw[if_pos ⟨hlen,hn⟩];rfl
theorem qci{P:Program}{d:Nat}{t:TypeId}{b:Bool}(hu:P.underlying t=some .bool):P.keyLits (d+1) t [.bool b]=some [.bool b]:=by unfold Program.keyLits;simp only[hu]
theorem zx0{P:Program}{d:Nat}{t:TypeId}{n:Int}(hu:P.underlying t=some (.int .i64))(h: -9223372036854775808<=n/\n<=9223372036854775807):P.keyLits (d+1) t [.int .i64 n]=some [.int .i64 n]:=by
 have hw:(Lit.int .i64 n).wf=true:=by simp[Lit.wf,IntKind.min,IntKind.max,IntKind.signed,IntKind.bits];omega
 unfold Program.keyLits;simp[hu,hw]
theorem z2v{P:Program}{d:Nat}{t:TypeId}{s:ByteArray}(hu:P.underlying t=some .string)(h:s.size<=maxLen):P.keyLits (d+1) t [.string s]=some [.string s.data.toList]:=by unfold Program.keyLits;simp[hu,h]
section
variable{P:Program}{k e:TypeId}
def MapC(P:Program)(k:TypeId)(w:World)(b n:Nat)(f:zab->Option Nat):Prop:=
 ∃D:DWn,w.ownsMap P k qj8 b n D/\IsMap D/\ ∀c kl,Bok c->keyOf P k (zdb c)=some kl-> ∀zd,D.atKey kl zd=((f c).map zxz).getD zd
theorem MapC.made(w:World):MapC P k (w.alloc (.map #[] 0)) w.heap.size 0 fun _=>none:=
 ⟨.map [],qrn _ _ _ _,isMap_empty,fun _ _ _ _ _=>rfl⟩
variable{w:World}{b n:Nat}{f:zab->Option Nat}
theorem MapC.kept{w':World}{row:Option Nat}(h:MapC P k w b n f)(hg:w.grownBy w' row)(hne:some b≠row):MapC P k w' b n f:=by obtain⟨D,h1,h2,h3⟩:=h;exact⟨D,h1.kept hg hne,h2,h3⟩
theorem MapC.lt(h:MapC P k w b n f):b<w.heap.size:=by obtain⟨D,h1,_⟩:=h;exact h1.lt
theorem MapC.eqf{f':zab->Option Nat}(h:MapC P k w b n f)(e:∀c,Bok c->f c=f' c):MapC P k w b n f':=by obtain⟨D,h1,h2,h3⟩:=h;exact⟨D,h1,h2,fun c kl hc hk zd=>by rw[h3 c kl hc hk zd,e c hc]⟩
theorem MapC.look{t:TypeId}(h:MapC P k w b n f)(K:Keyed P k)(ht:P.underlying t=some (.map k e))(hz:(zeroValue e).run P w= .ok (qaq 0) w){c:zab}(hc:Bok c)(hkey:∃kl,keyOf P k (zdb c)=some kl):
 (Instr.lookup t (.map (some b)) (zdb c) true).run P w= .ok (.tuple #[qaq ((f c).getD 0),.bool (f c).isSome]) w:=by
 obtain⟨D,⟨es,clock,hb,F,_,rfl⟩,h2,h3⟩:=h;obtain⟨kl,hkey⟩:=hkey;have h4:=h3 c kl hc hkey;rcases fit_look true K ht hz hb F hkey with⟨hrun,_,hat⟩|⟨e0,y,_,_,hrun,hRv,hat,_⟩
 ·cases hf:f c with
  |none=>exact hrun
  |some p=>
   rw[hf] at h4;have h5:=(hat .nil).symm.trans (h4 .nil);cases h5
 ·obtain⟨p,hp,rfl⟩:=qch hRv
  rw[hp] at hrun;cases hf:f c with
  |none=>
   rw[hf] at h4;have h5:=(hat .nil).symm.trans (h4 .nil);cases h5
  |some q=>
   rw[hf] at h4;have h5:(DataW.lit (.int .u64 p):DWn)=zxz q:=(hat .nil).symm.trans (h4 .nil);simp only[zxz,qls,qlt,true_and] at h5;rw[h5] at hrun;exact hrun
theorem MapC.put{t:TypeId}(h:MapC P k w b n f)(K:Keyed P k)(ht:P.underlying t=some (.map k e))(hn:n<maxLen){c:zab}(hc:Bok c)(hkey:∃kl,keyOf P k (zdb c)=some kl)(p:Nat):
 ∃w',(Instr.mapUpdate t (.map (some b)) (zdb c) (qaq p)).run P w= .ok () w'/\MapC P k w' b (n+1) (fun d=>if d=c then some p else f d)/\w.grownBy w' (some b):=by
 obtain⟨D,h1,h2,h3⟩:=h;obtain⟨kl,hkey⟩:=hkey;obtain⟨w',hrun,ho,hg⟩:=h1.update K ht hn hkey (qgv p);refine⟨w',hrun,⟨_,ho,h2.put _ _,fun d km hd hm zd=>?_⟩,hg⟩;by_cases he:d=c
 ·subst he
  rw[hm] at hkey;obtain rfl:=qlj hkey;show _=((if d=d then some p else f d).map zxz).getD zd;rw[if_pos rfl,atKey_put_same h2 (K.key hm)];rfl
 ·show _=((if d=c then some p else f d).map zxz).getD zd
  rw[if_neg he,atKey_put_other,h3 d km hd hm];intro hk;subst hk;exact he (z65 hd hc (K.inj hm hkey))
theorem znb{ops:Array Oper}{rest:List Oper}{o:Oper}{a:Act}{Q:Exit->Act->World->Prop}(hg:o.guard=none)(m x:Operand)(t:TypeId)(hop:o.op=Op.lookup t m x true)
 (K:Keyed P k)(ht:P.underlying t=some (.map k e))(hz:(zeroValue e).run P w= .ok (qaq 0) w)(hown:MapC P k w b n f){c:zab}(hc:Bok c)(hkey:∃kl,keyOf P k (zdb c)=some kl)(hm:a.eval m= .map (some b))(hx:a.eval x=zdb c)
 (h:wpList P ops Q rest (a.put o.dst (.tuple #[qaq ((f c).getD 0),.bool (f c).isSome])) w):wpList P ops Q (o::rest) a w:=by
 refine wpList_plain hg fun K' hK'=>?_
 have hrun:=hown.look K ht hz hc hkey;unfold Oper.wp;simp[execOp,hop,hm,hx,hrun,Result.andThen];exact hK' _ _ h
theorem zx1{ops:Array Oper}{rest:List Oper}{o:Oper}{a:Act}{Q:Exit->Act->World->Prop}(hg:o.guard=none)(m x v:Operand)(t:TypeId)(hop:o.op=Op.mapUpdate t m x v)
 (K:Keyed P k)(ht:P.underlying t=some (.map k e))(hown:MapC P k w b n f)(hn:n<maxLen){c:zab}(hc:Bok c)(hkey:∃kl,keyOf P k (zdb c)=some kl)(p:Nat)
 (hm:a.eval m= .map (some b))(hx:a.eval x=zdb c)(hv:a.eval v=qaq p)
 (h:∀w',MapC P k w' b (n+1) (fun d=>if d=c then some p else f d)->w.grownBy w' (some b)->wpList P ops Q rest (a.put o.dst undef) w'):wpList P ops Q (o::rest) a w:=by
 refine wpList_plain hg fun K' hK'=>?_
 obtain⟨w',hrun,r1,r2⟩:=hown.put K ht hn hc hkey p;unfold Oper.wp;simp[execOp,hop,hm,hx,hv,hrun,Result.andThen];exact hK' _ _ (h w' r1 r2)
end
end Go.Hm
namespace Go.Proofs.Y
open Go.RowKit Go.Hm
theorem qcj{c:zab}(h1:c.2.2.1.length<=140737488351232)(h2: -9223372036854775808<=c.2.1/\c.2.1<=9223372036854775807)(h3: -9223372036854775808<=c.2.2.2.1/\c.2.2.2.1<=9223372036854775807)(h4: -9223372036854775808<=c.2.2.2.2/\c.2.2.2.2<=9223372036854775807):
 ∃kl,keyOf Tryz.prog 75 (zdb c)=some kl:=by
 obtain⟨a1,a2,a3,a4,a5⟩:=c;dsimp only at h1 h2 h3 h4;have hu:Tryz.prog.underlying 75=some (.struct (zf3 Tryz.prog 75)):=by kernel_rfl
 have hp:Tryz.prog.underlying 73=some (.struct (zf3 Tryz.prog 73)):=by kernel_rfl
 have kt:Tryz.prog.keyType 75=true:=by kernel_rfl
 have cc:Tryz.prog.cellsOf 75=5:=by kernel_rfl
 have cp:Tryz.prog.cellsOf 73=2:=by kernel_rfl
 have ci:Tryz.prog.cellsOf 3=1:=by kernel_rfl
 have cb:Tryz.prog.cellsOf 4=1:=by kernel_rfl
 have cs:Tryz.prog.cellsOf 9=1:=by kernel_rfl
 have ui:Tryz.prog.underlying 3=some (.int .i64):=by kernel_rfl
 have ub:Tryz.prog.underlying 4=some .bool:=by kernel_rfl
 have us:Tryz.prog.underlying 9=some .string:=by kernel_rfl
 have e1:(zf3 Tryz.prog 75).toList.map (fun f=>(f.type,f.offset))=[(4,0),(3,1),(9,2),(73,3)]:=by kernel_rfl
 have e2:(zf3 Tryz.prog 73).toList.map (fun f=>(f.type,f.offset))=[(3,0),(3,1)]:=by kernel_rfl
 have n1:(zf3 Tryz.prog 75).all (·.name != "_")=true:=by kernel_rfl
 have n2:(zf3 Tryz.prog 73).all (·.name != "_")=true:=by kernel_rfl
 obtain⟨m,hm⟩:∃m,Tryz.prog.types.size=m+2:=⟨Tryz.prog.types.size-2,by have:2<=Tryz.prog.types.size:=of_decide_eq_true (by kernel_rfl);omega⟩
 have hf:(zdb (a1,a2,a3,a4,a5)).formed Tryz.prog 75=true:=by simp[zdb,za4,Value.formed,hu,cc]
 unfold keyOf;rw[hu];simp only[kt,hf,Bool.and_self,if_true,hm];have hz:(zai a3).size<=maxLen:=by rw[zbt];unfold maxLen;omega
 have hcs:(zdb (a1,a2,a3,a4,a5)).cells.toList=[.bool a1,.int .i64 a2,.string (zai a3),.int .i64 a4,.int .i64 a5]:=by simp[zdb,za4,Value.cells]
 rw[hcs,zro hu (by rw[cc];rfl) n1 e1];simp only[List.mapM_cons,List.mapM_nil,cb,ci,cs,cp,List.drop_succ_cons,qqa,qqb,qmw];rw[qci ub,zx0 ui h2,z2v us hz,zro hp (by rw[cp];rfl) n2 e2];simp only[List.mapM_cons,List.mapM_nil,ci,List.drop_succ_cons,qqa,qqb,qmw];rw[zx0 ui h3,zx0 ui h4];exact⟨_,rfl⟩
theorem qk7:(75:TypeId)<Tryz.prog.types.size:=of_decide_eq_true (by kernel_rfl)
theorem z66:Maps.Keyed Tryz.prog 75:=Maps.Keyed.of_law (deep_law_laid Tryz.laidOut (m:=3) (by omega) qk7 (by kernel_rfl) (by kernel_rfl))
theorem qgw:Tryz.prog.underlying 244=some (.map 75 138):=by kernel_rfl
theorem qiu(w:World):(zeroValue 138).run Tryz.prog w= .ok (qaq 0) w:=by kernel_rfl
end Go.Proofs.Y
namespace Go.Hm
open Go Go.RowKit
def zdf(m:Nat)(r:Int)(D:List ze9):Int:=if 65536<r then 4 else if r<0\/D.length≠m then 2 else if∃d∈D,((d.2.2.length:Nat):Int)≠r then 2 else 0
theorem Reads.colD{w:World}{B n i:Nat}{A:Option Addr}{l:List ze9}(h:Reads w B 1 A n (recs zle l))(hi:i<n):
 ∃ad,A=some ad/\ad.block<B/\w.cell? (ad.add i)=some (.slice (l.getD i (none,0,[])).1 (l.getD i (none,0,[])).2.2.length (l.getD i (none,0,[])).2.1):=by
 obtain⟨ad,h1,h2,_,h3⟩:=h.rec_ (f:=zle) (sz:=1) (fun _=>rfl) (none,0,[]) hi (by omega);have:=h3 0 _ rfl;rw[qmd] at this;exact⟨ad,h1,h2,this⟩
theorem Reads.lenD{w:World}{B n:Nat}{A:Option Addr}{l:List ze9}(h:Reads w B 1 A n (recs zle l)):n=l.length:=h.lenR (f:=zle) (sz:=1) (fun _=>rfl) (by omega)
end Go.Hm
namespace Go.Proofs.Y
open Go.RowKit Go.Hm
theorem z9u{w:World}{Ac:Option Addr}{nc cc:Nat}{r:Int}{Ad:Option Addr}{nd cd:Nat}{D:List ze9}(h:Reads w w.heap.size 1 Ad nd (recs zle D))(hn:nd<=4611686018427387903):
 Calls Tryz.prog 82 #[.agg #[.slice Ac nc cc,.int .i64 r,.slice Ad nd cd]] w (zak (.int .i64 (zdf nc r D)) w):=by
 obtain rfl:=h.lenD;have K1:=qrf (fun(hh:65536<r)=>show zdf nc r D=4 by rw[zdf,if_pos hh]);have K2:=qrf (fun(hh: ¬65536<r) (h2:r<0\/D.length≠nc)=>show zdf nc r D=2 by rw[zdf,if_neg hh,if_pos h2]);have K3:=qrf (fun(hh: ¬65536<r) (h2: ¬(r<0\/D.length≠nc)) (d:ze9) (hd:d∈D) (h3:((d.2.2.length:Nat):Int)≠r)=>show zdf nc r D=2 by rw[zdf,if_neg hh,if_neg h2,if_pos ⟨d,hd,h3⟩]);have K4:=qrf (fun(hh: ¬65536<r) (h2: ¬(r<0\/D.length≠nc)) (h3:∀d∈D,((d.2.2.length:Nat):Int)=r)=>show zdf nc r D=0 by rw[zdf,if_neg hh,if_neg h2,if_neg (fun⟨d,hd,h4⟩=>h4 (h3 d hd))]);generalize zdf nc r D=O at*;obtain⟨W0,hW0⟩:∃W,W=w.alloc (.cells #[.slice Ac nc cc,.int .i64 r,.slice Ad D.length cd] 56):=⟨_,rfl⟩;have b0:New w W0:=by rw[hW0];exact(qq8 _ _).alloc (ql6 _) _
 have B0:Blk W0 w.heap.size 56 #[.slice Ac nc cc,.int .i64 r,.slice Ad D.length cd]:=by rw[hW0];exact qrv _ _ _
 obtain⟨x0,x1,x2⟩:=zar B0;rw[hW0] at x0 x1 x2;by_cases h0:65536<r
 ·have O1:=qrf (K1.out h0)
  clear K1 K2 K3 K4 B0 h;go_enter Tryz.func82,Tryz.ntmps82
  go_wp2
  go_ret
  exact⟨by rw[O1.out];rfl,by rw[<-hW0];exact b0⟩
 ·by_cases h1:r<0\/D.length≠nc
  ·have O1:=qrf (K2.out h0 h1)
   clear K1 K2 K3 K4 B0 h;by_cases h2:r<0
   ·go_enter Tryz.func82,Tryz.ntmps82
    go_wp2
    go_ret
    exact⟨by rw[O1.out];rfl,by rw[<-hW0];exact b0⟩
   ·have e1:((D.length:Int) != (nc:Int))=true:=by simp;omega
    clear h1;go_enter Tryz.func82,Tryz.ntmps82
    go_wp2
    go_ret
    exact⟨by rw[O1.out];rfl,by rw[<-hW0];exact b0⟩
  ·have K5:=qrf (K3.out h0 h1)
   have K6:=qrf (K4.out h0 h1);obtain⟨h2,h3⟩: ¬r<0/\D.length=nc:=by omega
   subst h3;have r0:=qsg h b0;clear h1 K1 K2 K3 K4 h;go_enter Tryz.func82,Tryz.ntmps82
   go_wp2
   rw[<-hW0];clear x0 x1 x2 hW0;go_loopw [23] (fun i wr=>∃k:Nat,i= .int .i64 (k:Int)/\k<=D.length/\New W0 wr/\Hid (∀d∈D.take k,((d.2.2.length:Nat):Int)=r)) (fun i _=>D.length-(intOf i).toNat)
   case atStart=>exact⟨0,rfl,by omega,qrz _,qrf (by simp)⟩
   case round=>
    obtain⟨k,rfl,hk,hb,H⟩:=hrel;obtain⟨x0,x1,x2⟩:=zar (B0.below hb B0.lt);by_cases hlt:k<D.length
    ·obtain⟨ad,rfl,hbk,c0⟩:=(qsg r0 hb).colD hlt
     have hx:(D.getD k (none,0,[]))∈D:=by rw[qnp,qlx hlt];exact qml hlt
     have M1:=qrf (fun hh=>K5.out _ hx hh);have M2:=qrf (fun(hh:((((D.getD k (none,0,[])).2.2.length:Nat):Int)=r))=>show∀d∈D.take (k+1),((d.2.2.length:Nat):Int)=r by
      intro d hd;rw[zae D k (none,0,[]) hlt,qnd] at hd;rcases hd with hd|hd
      ·exact H.out d hd
      ·obtain rfl:=qne.1 hd
       exact hh)
     clear hx;generalize(D.getD k (none,0,[])).1=aA at*;generalize(D.getD k (none,0,[])).2.2.length=m at*;generalize(D.getD k (none,0,[])).2.1=cA at*;have hiz:(k:Int)<(D.length:Int):=by omega
     by_cases he:(m:Int)=r
     ·have M3:=qrf (M2.out he)
      subst he;clear M1 M2;go_wp2
      go_roundw
      case rel=>exact⟨k+1,by go_num,by omega,hb,M3⟩
      case measure=>simp[intOf];omega
     ·have M3:=qrf (M1.out he)
      have e1:((m:Int) != r)=true:=by simpa using he
      clear M1 M2 he;go_wp2
      go_ret
      exact⟨by rw[M3.out];rfl,qr0 b0 hb⟩
    ·obtain rfl:k=D.length:=by omega
     have H2:=H.out;rw[qp1] at H2;have O1:=qrf (K6.out H2);clear H H2 K5 K6;go_wp2
     go_ret
     exact⟨by rw[O1.out];rfl,qr0 b0 hb⟩
end Go.Proofs.Y
namespace Go.Hm
open Go Go.RowKit
abbrev ty(l:List zbi)(i:Nat):Int:=(l.getD i ([],0,false)).2.1
def zf6(l:List zab)(c:zbi):Bool:=l.all fun x=>zam x c.2.1 c.2.2
def zju(D:List ze9)(L:List zbi):Bool:=(List.zip D L).all fun p=>zf6 p.1.2.2 p.2
def zgr(L:List zbi)(r:Int)(D:List ze9):Int:=
 if zc7 L≠0 then zc7 L else if zdf L.length r D≠0 then zdf L.length r D else if zju D L then 0 else 3
theorem zw0{m:Nat}{r:Int}{D:List ze9}(h:zdf m r D=0):D.length=m/\0<=r/\r<=65536/\ ∀d∈D,((d.2.2.length:Nat):Int)=r:=by
 unfold zdf at h;split at h
 ·cases h
 split at h
 ·cases h
 split at h
 ·cases h
 rename_i h1 h2 h3;refine⟨by omega,by omega,by omega,fun d hd=>?_⟩;by_cases e:((d.2.2.length:Nat):Int)=r
 ·exact e
 ·exact absurd ⟨d,hd,e⟩ h3
theorem zzc{l:List zab}{c:zbi}(h:zf6 l c=true){k:Nat}(hk:k<l.length):zam (l.getD k (false,0,[],0,0)) c.2.1 c.2.2=true:=by rw[qnp,qlx hk];exact(qog.1 h) _ (qml hk)
theorem zzd{l:List zab}{c:zbi}(h:∀k,k<l.length->zam (l.getD k (false,0,[],0,0)) c.2.1 c.2.2=true):zf6 l c=true:=by
 refine qog.2 fun x hx=>?_
 obtain⟨k,hk,rfl⟩:=qo4 hx;have:=h k hk;rwa[qnp,qlx hk] at this
theorem zze{D:List ze9}{L:List zbi}(hl:D.length=L.length)(h:∀k,k<D.length->zf6 (D.getD k (none,0,[])).2.2 (L.getD k ([],0,false))=true):zju D L=true:=by
 refine qog.2 fun x hx=>?_
 obtain⟨k,hk,rfl⟩:=qo4 hx;rw[qqy] at hk;have:=h k (by omega);rw[qnp,qlx (by omega),qnp,qlx (by omega)] at this;rw[List.getElem_zip];exact this
theorem zqh{D:List ze9}{L:List zbi}(hl:D.length=L.length)(h:zju D L=true){k:Nat}(hk:k<D.length):zf6 (D.getD k (none,0,[])).2.2 (L.getD k ([],0,false))=true:=by have:=(qog.1 h) _ (qml (l:=List.zip D L) (n:=k) (by rw[qqy];omega));rw[List.getElem_zip] at this;rw[qnp,qlx (by omega),qnp,qlx (by omega)];exact this
def DataIn(w:World)(B:Nat)(D:List ze9):Prop:=∀d∈D,Reads w B 5 d.1 d.2.2.length (recs za4 d.2.2)/\(∀x∈d.2.2,x.2.2.1.length<=140737488351232/\ ∀z∈x.2.2.1,z<256)/\d.2.2.length<=d.2.1/\d.2.1<=9223372036854775807/\(d.1=none->d.2.1=0)
theorem DataIn.later{w w':World}{D:List ze9}(h:DataIn w w.heap.size D)(hb:New w w'):DataIn w' w'.heap.size D:=fun d hd=>⟨qsg (h d hd).1 hb,(h d hd).2⟩
end Go.Hm
namespace Go.Proofs.Y
open Go.RowKit Go.Hm
theorem z9v{w:World}{Ac:Option Addr}{nc cc:Nat}{L:List zbi}{r:Int}{Ad:Option Addr}{nd cd:Nat}{D:List ze9}
 (h1:Reads w w.heap.size 3 Ac nc (recs zl3 L))(hL:∀x∈L,(∀z∈x.1,z<256)/\x.1.length<=140737488351232)(hc:nc<=cc)(hn:nc<=4611686018427387903)
 (h:Reads w w.heap.size 1 Ad nd (recs zle D))(hnd:nd<=4611686018427387903)(hD:DataIn w w.heap.size D):
 Calls Tryz.prog 48 #[.agg #[.slice Ac nc cc,.int .i64 r,.slice Ad nd cd]] w (zak (.int .i64 (zgr L r D)) w):=by
 obtain rfl:=h1.lenC;obtain rfl:=h.lenD;have K1:=qrf (fun(hh:zc7 L≠0)=>show zgr L r D=zc7 L by rw[zgr,if_pos hh]);have K2:=qrf (fun(hh:zc7 L=0) (h2:zdf L.length r D≠0)=>show zgr L r D=zdf L.length r D by rw[zgr,if_neg (by simpa using hh),if_pos h2]);have K3:=qrf (fun(hh:zc7 L=0) (h2:zdf L.length r D=0)=>show zgr L r D=if zju D L then 0 else 3 by rw[zgr,if_neg (by simpa using hh),if_neg (by simpa using h2)]);have SL:=qrf (fun(h2:zdf L.length r D=0)=>zw0 h2);generalize zgr L r D=O at*;obtain⟨W0,hW0⟩:∃W,W=w.alloc (.cells #[.slice Ac L.length cc,.int .i64 r,.slice Ad D.length cd] 56):=⟨_,rfl⟩;have b0:New w W0:=by rw[hW0];exact(qq8 _ _).alloc (ql6 _) _
 have B0:Blk W0 w.heap.size 56 #[.slice Ac L.length cc,.int .i64 r,.slice Ad D.length cd]:=by rw[hW0];exact qrv _ _ _
 obtain⟨x0,x1,x2⟩:=zar B0;have P1:=qrf (zn8 (c:=cc) (qsg h1 b0) hL hc hn);have P2:=qrf (fun(W:World) (hW:New W0 W)=>z9u (Ac:=Ac) (nc:=L.length) (cc:=cc) (r:=r) (cd:=cd) (qsg h (qr0 b0 hW)) hnd);rw[hW0] at x0 x1 x2;have r1:=qrf (fun(W:World) (hW:New W0 W)=>qsg h1 (qr0 b0 hW));have r0:=qrf (fun(W:World) (hW:New W0 W)=>qsg h (qr0 b0 hW));have rD:=qrf (fun(W:World) (hW:New W0 W)=>hD.later (qr0 b0 hW));clear h h1 hD;generalize zc7 L=q1 at*;generalize zdf L.length r D=q2 at*;go_enter Tryz.func48,Tryz.ntmps48
 go_wp2_with fail
 rw[<-hW0];refine(P1.out).mono ?_;rintro e W1 ⟨rfl,b1⟩;clear x0 x1 x2 hW0 P1;by_cases h2:q1=0
 ·have K22:=qrf (K2.out h2)
  have K33:=qrf (K3.out h2);clear K1 K2 K3;subst h2;obtain⟨x0,x1,x2⟩:=zar (B0.below b1 B0.lt);go_wp2_with fail
  refine(P2.out _ b1).mono ?_;rintro e W2 ⟨rfl,b2⟩;have b12:=qr0 b1 b2;clear x0 x1 x2 P2 b1 b2;by_cases h3:q2=0
  ·have K5:=qrf (K33.out h3)
   have hSL:=SL.out h3;subst h3;have hDL:=hSL.1;have K6:=qrf (fun(hh:∀k,k<D.length->zf6 (D.getD k (none,0,[])).2.2 (L.getD k ([],0,false))=true)=>show O=0 by rw[K5.out,if_pos (zze hDL hh)]);have K7:=qrf (fun(k:Nat) (hk:k<D.length) (hh: ¬zf6 (D.getD k (none,0,[])).2.2 (L.getD k ([],0,false))=true)=>show O=3 by rw[K5.out,if_neg (fun e=>hh (zqh hDL e hk))]);clear K22 K33 K5 SL hSL;obtain⟨x0,x1,x2⟩:=zar (B0.below b12 B0.lt);go_wp2
   clear x0 x1 x2;go_loopw [23] (fun i wr=>∃k:Nat,i= .int .i64 (k:Int)/\k<=D.length/\New W0 wr/\Hid (∀j,j<k->zf6 (D.getD j (none,0,[])).2.2 (L.getD j ([],0,false))=true)) (fun i _=>D.length-(intOf i).toNat)
   case atStart=>exact⟨0,rfl,by omega,b12,qrf (by intro j hj;omega)⟩
   case round=>
    obtain⟨k,rfl,hk,hb,H⟩:=hrel;obtain⟨x0,x1,x2⟩:=zar (B0.below hb B0.lt);by_cases hlt:k<D.length
    ·obtain⟨ad,rfl,hbk,c0⟩:=(r0.out _ hb).colD hlt
     have hmem:(D.getD k (none,0,[]))∈D:=by rw[qnp,qlx hlt];exact qml hlt
     have C:=qrf (fun(W:World) (hW:New W0 W)=>(r1.out W hW).colT (show k<L.length by omega));have E:=qrf (fun(W:World) (hW:New W0 W)=>rD.out W hW _ hmem);have M0:=qrf (fun(hh:∀i,i<(D.getD k (none,0,[])).2.2.length->zam ((D.getD k (none,0,[])).2.2.getD i (false,0,[],0,0)) (L.getD k ([],0,false)).2.1 (L.getD k ([],0,false)).2.2=true)=>show∀j,j<k+1->zf6 (D.getD j (none,0,[])).2.2 (L.getD j ([],0,false))=true by
      intro j hj;rcases qqp.1 hj with hj|rfl
      ·exact H.out j hj
      ·exact zzd hh)
     have M1:=qrf (fun(i:Nat) (hi:i<(D.getD k (none,0,[])).2.2.length) (hh: ¬zam ((D.getD k (none,0,[])).2.2.getD i (false,0,[],0,0)) (L.getD k ([],0,false)).2.1 (L.getD k ([],0,false)).2.2=true)=>K7.out k hlt (fun e=>hh (zzc e hi)));clear hmem H;generalize(D.getD k (none,0,[])).1=aA at*;generalize(D.getD k (none,0,[])).2.2=l at*;generalize(D.getD k (none,0,[])).2.1=cA at*;generalize(L.getD k ([],0,false)).1=cn at*;generalize(L.getD k ([],0,false)).2.1=t at*;generalize(L.getD k ([],0,false)).2.2=nu at*;have hiz:(k:Int)<(D.length:Int):=by omega
     have hiz2:(k:Int)<(L.length:Int):=by omega
     go_wp2
     clear x0 x1 x2 c0;go_loopw [30] (fun i wr=>∃j:Nat,i= .int .i64 (j:Int)/\j<=l.length/\New W0 wr/\Hid (∀i,i<j->zam (l.getD i (false,0,[],0,0)) t nu=true)) (fun i _=>l.length-(intOf i).toNat)
     case atStart=>exact⟨0,rfl,by omega,hb,qrf (by intro j hj;omega)⟩
     case round=>
      obtain⟨j,rfl,hj,hb2,H2⟩:=hrel;by_cases hl2:j<l.length
      ·obtain⟨E1,E2,E3,E4,_⟩:=E.out _ hb2
       obtain⟨ad2,e2,hbk2,d0,d1,d2,d3,d4⟩:=E1.cell5 hl2;subst e2;have hxm:(l.getD j (false,0,[],0,0))∈l:=by rw[qnp,qlx hl2];exact qml hl2
       have hsz:=(E2 _ hxm).1;obtain⟨ad3,e3,hbk3,f0,f1,f2⟩:=C.out _ hb2;subst e3;have P:=qrf (fun(W:World)=>zga (w:=W) (b:=(l.getD j (false,0,[],0,0)).1) (n:=(l.getD j (false,0,[],0,0)).2.1) (s:=(l.getD j (false,0,[],0,0)).2.2.1) (x:=(l.getD j (false,0,[],0,0)).2.2.2.1) (y:=(l.getD j (false,0,[],0,0)).2.2.2.2) (cn:=cn) (t:=t) (nu:=nu) hsz);have N1:=qrf (fun(hh: ¬zam ((l.getD j (false,0,[],0,0)).1,(l.getD j (false,0,[],0,0)).2.1,(l.getD j (false,0,[],0,0)).2.2.1,(l.getD j (false,0,[],0,0)).2.2.2.1,(l.getD j (false,0,[],0,0)).2.2.2.2) t nu=true)=>M1.out j hl2 hh);have N0:=qrf (fun(hh:zam ((l.getD j (false,0,[],0,0)).1,(l.getD j (false,0,[],0,0)).2.1,(l.getD j (false,0,[],0,0)).2.2.1,(l.getD j (false,0,[],0,0)).2.2.2.1,(l.getD j (false,0,[],0,0)).2.2.2.2) t nu=true)=>show∀i,i<j+1->zam (l.getD i (false,0,[],0,0)) t nu=true by
        intro i hi;rcases qqp.1 hi with hi|rfl
        ·exact H2.out i hi
        ·exact hh)
       clear hxm hsz H2 E1 E2;generalize(l.getD j (false,0,[],0,0)).1=b at*;generalize(l.getD j (false,0,[],0,0)).2.1=n at*;generalize(l.getD j (false,0,[],0,0)).2.2.1=s at*;generalize(l.getD j (false,0,[],0,0)).2.2.2.1=px at*;generalize(l.getD j (false,0,[],0,0)).2.2.2.2=py at*;generalize zam (b,n,s,px,py) t nu=R at*;have hiz3:(j:Int)<(l.length:Int):=by omega
       obtain⟨W3,hW3⟩:∃W,W=wr.alloc (.cells #[.bool b,.int .i64 n,.string (zai s),.int .i64 px,.int .i64 py] 75):=⟨_,rfl⟩;have b3:New wr W3:=by rw[hW3];exact(qq8 _ _).alloc (ql6 _) _
       have Y:Blk W3 wr.heap.size 75 #[.bool b,.int .i64 n,.string (zai s),.int .i64 px,.int .i64 py]:=by rw[hW3];exact qrv _ _ _
       have F1:=qrf (fun(W:World) (hW:New W3 W)=>zc4 (Y.below hW Y.lt));have F2:=qrf (fun(W:World) (hW:New W3 W)=>zar (B0.below (qr0 hb2 (qr0 b3 hW)) B0.lt));have hb3:(ad3.add (k*3)).block<wr.heap.size:=by rw[zao];exact hbk3
       have F3:=qrf (fun(W:World) (hW:New W3 W)=>(qok ((qro (qr0 b3 hW) hb3).trans f0) (qok ((qro (p:=⟨(ad3.add (k*3)).block,_,none⟩) (qr0 b3 hW) hb3).trans f1) ((qro (p:=⟨(ad3.add (k*3)).block,_,none⟩) (qr0 b3 hW) hb3).trans f2))));go_wp2_with fail
       rw[<-hW3];clear hW3;refine zaw New [(true,0),(true,1),(true,2),(true,3),(true,4),(true,5),(false,6),(true,7)]
        qrz qr0 (by kernel_rfl) (by kernel_rfl) (by kernel_rfl) (by kernel_rfl) ?_
       have hU:=qr1 W3;have hV:=qrz W3.drew;repeat(first
        |(refine za6 rfl rfl (fun K hK=>?_);go_simp
          (with_reducible refine(P.out _).mono ?_)
          rintro e w9 ⟨rfl,b9⟩;refine hK _ _ b9 ?_;clear hK;replace hU:=qr0 hU b9;replace hV:=qr0 hV b9)
        |(refine zaj rfl rfl (v:=?_) (fun W hW=>?_) ?_;rotate_left;(obtain⟨p0,p1,p2,p3,p4⟩:=F1.out W (qr0 (qr1 W3) (qr0 hV hW));obtain⟨y0,y1,y2⟩:=F2.out W (qr0 (qr1 W3) (qr0 hV hW));obtain⟨z0,z1,z2⟩:=F3.out W (qr0 (qr1 W3) (qr0 hV hW));go_simp<;> with_reducible rfl);simp only[Act.put,qoi,qn8,qoj]))
       refine zda ?_;clear F1 F2 F3 f0 f1 f2 d0 d1 d2 d3 d4 P Y;have hb4:=qr0 hb2 (qr0 b3 hU);cases R with
       |true=>
        have N3:=qrf (N0.out rfl);go_wp2
        go_roundw
        case rel=>exact⟨j+1,by go_num,by omega,hb4,N3⟩
        case measure=>simp[intOf];omega
       |false=>
        have N3:=qrf (N1.out (by simp));go_wp2
        go_ret
        exact⟨by rw[N3.out];rfl,qr0 b0 hb4⟩
      ·obtain rfl:j=l.length:=by omega
       have M3:=qrf (M0.out H2.out);go_wp2
       go_roundw
       case rel=>exact⟨k+1,by go_num,by omega,hb2,M3⟩
       case measure=>simp[intOf];omega
    ·obtain rfl:k=D.length:=by omega
     have O1:=qrf (K6.out H.out);go_wp2
     go_ret
     exact⟨by rw[O1.out];rfl,qr0 b0 hb⟩
  ·have O1:=qrf (K22.out h3)
   have e1:(q2 != 0)=true:=by simpa using h3
   clear K22 K33 SL h3;go_wp2
   go_ret
   exact⟨by rw[O1.out];rfl,qr0 b0 b12⟩
 ·have O1:=qrf (K1.out h2)
  have e1:(q1 != 0)=true:=by simpa using h2
  clear K1 K2 K3 h2;go_wp2
  go_ret
  exact⟨by rw[O1.out];rfl,qr0 b0 b1⟩
end Go.Proofs.Y
set_option maxRecDepth 100000
namespace Go.Hm
structure TabIn(w:World)(Ac:Option Addr)(cc:Nat)(L:List zbi)(Ad:Option Addr)(D:List ze9):Prop where
 cols:Reads w w.heap.size 3 Ac L.length (recs zl3 L)
 fine:∀x∈L,(∀z∈x.1,z<256)/\x.1.length<=140737488351232
 cap:L.length<=cc
 few:L.length<=4611686018427387903
 data:Reads w w.heap.size 1 Ad D.length (recs zle D)
 few2:D.length<=4611686018427387903
 within:DataIn w w.heap.size D
theorem TabIn.later{w w':World}{Ac:Option Addr}{cc:Nat}{L:List zbi}{Ad:Option Addr}{D:List ze9}(h:TabIn w Ac cc L Ad D)(hb:New w w'):TabIn w' Ac cc L Ad D:=
 ⟨qsg h.cols hb,h.fine,h.cap,h.few,qsg h.data hb,h.few2,h.within.later hb⟩
end Go.Hm
namespace Go.Proofs.Y
open Go.RowKit Go.Hm Go.WideShapes Go.ChangeShapes
end Go.Proofs.Y
