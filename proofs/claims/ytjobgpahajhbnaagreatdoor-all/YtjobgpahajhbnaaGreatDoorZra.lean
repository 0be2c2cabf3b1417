import Derived.Test.YtjobgpahajhbnaaGreatDoorZro
namespace Go.Proofs.YtjobgpahajhbnaaGreatDoor
open Go.RowKit Go.Proofs Go.Maps Go.Proofs.Tryz
attribute [local go_sem ↓] Go.wp_at_zero Go.wp_at_succ
set_option linter.all false
set_option maxHeartbeats 40000000
set_option maxRecDepth 20000
theorem Jpf{W0:World}{yb:Nat}{F:Int}{env:ByteArray->Option Arr}{T:List Tok}{ao:Option Addr}{PD:Nat->Prop}{cap o k j0:Nat}{e0:Ex}{c:Nat}{w:World}{X gk:Nat}{wr:World}{v10 u4 u5 u6 u7 u8 u11 u12 u13 u14 u15 u16 u17 u18 u19 u20 u21 u22 u23 u24 u25 u26 u27 u28 u29 u30 u31 u32 u33 u34 u35 u36 u37 u38 u39 u40 u41 u42 u43 u44 u45 u46 u47 u48 u49 u50 u51 u52 u53 u54 u55 u56 u57 u58 u59 u60 u61 u62 u63 u64 u65 u66 u67 u68 u69 u70 u71 u72 u73 u74 u75 u76 u77 u78 u79 u80 u81 u82 u83 u84 u85 u86 u87 u88 u89 u90 u91 u92 u93 u94 u95 u96 u97 u98 u99 u100 u101 u102 u103 u104 u105 u106 u107 u108 u109 u110 u111 u112 u113 u114 u115 u116 u117 u118 u119 u120 u121 u122 u123 u124 u125 u126 u127 u128 u129 u130 u131 u132 u133 u134 u135 u136 u137 u138 u139 u140 u141 u142 u143 u144:Value}{Jz:Nat->Act->World->Prop}{K K1:Act->World->Prop}{s1:Option Addr}{s2 s3:Nat}{d1:Option Addr}{d2 d3:Nat}{e:Ex}{a:Arr}{c' j1:Nat}
 (HC:Hid (Ctx W0 yb F env T ao PD)) (HGd:Hid (Good f1A f2A e0)) (HGR:Hid (Xw e0)) (HCF:Hid ((c:Int)<=F))
 (hJ:∀(k':Nat) (a':Act) (w':World),(∃u4 u5 u6 u7 u8 u11 u12 u13 u14 u15 u16 u17 u18 u19 u20 u21 u22 u23 u24 u25 u26 u27 u28 u29 u30 u31 u32 u33 u34 u35 u36 u37 u38 u39 u40 u41 u42 u43 u44 u45 u46 u47 u48 u49 u50 u51 u52 u53 u54 u55 u56 u57 u58 u59 u60 u61 u62 u63 u64 u65 u66 u67 u68 u69 u70 u71 u72 u73 u74 u75 u76 u77 u78 u79 u80 u81 u82 u83 u84 u85 u86 u87 u88 u89 u90 u91 u92 u93 u94 u95 u96 u97 u98 u99 u100 u101 u102 u103 u104 u105 u106 u107 u108 u109 u110 u111 u112 u113 u114 u115 u116 u117 u118 u119 u120 u121 u122 u123 u124 u125 u126 u127 u128 u129 u130 u131 u132 u133 u134 u135 u136 u137 u138 u139 u140 u141 u142 u143 u144:Value,ERel env F T o k j0 e0 c W0 yb ao cap PD w X k' w'/\a'=⟨#[aJ W0.1.size 0,undef,aJ w.1.size 0,aJ X 0,u4,u5,u6,u7,u8,aJ W0.1.size 0,v10,u11,u12,u13,u14,u15,u16,u17,u18,u19,u20,u21,u22,u23,u24,u25,u26,u27,u28,u29,u30,u31,u32,u33,u34,u35,u36,u37,u38,u39,u40,u41,u42,u43,u44,u45,u46,u47,u48,u49,u50,u51,u52,u53,u54,u55,u56,u57,u58,u59,u60,u61,u62,u63,u64,u65,u66,u67,u68,u69,u70,u71,u72,u73,u74,u75,u76,u77,u78,u79,u80,u81,u82,u83,u84,u85,u86,u87,u88,u89,u90,u91,u92,u93,u94,u95,u96,u97,u98,u99,u100,u101,u102,u103,u104,u105,u106,u107,u108,u109,u110,u111,u112,u113,u114,u115,u116,u117,u118,u119,u120,u121,u122,u123,u124,u125,u126,u127,u128,u129,u130,u131,u132,u133,u134,u135,u136,u137,u138,u139,u140,u141,u142,u143,u144,undef],[]⟩)->Jz k' a' w') (hK:∀(a':Act) (w':World),Handed Jz gk a' w'->K a' w')
 (hev:Js env F f1A f2A e c=.inr (a,c')) (hA:IsArr (PE w X PD) wr (aK s1 s2 s3 d1 d2 d3) a) (HBg:Hid (J07 T j0)) (hjg:j1+1<=gk) (hst:ESt W0 yb ao T.length cap w X (((j1+1:Nat):Int)-1) ((c':Nat):Int) 0 0 s1 s2 s3 d1 d2 d3 wr) (hSp1:Sp T o k j0 e0 j1 (.one (tokAt T j1).t (tokAt T j1).p e)) (hf1:fB (kr T) j1 1=true):
 Code.wp prog Jye (Exit.then K (Exit.inBlock 0 (Exit.then K1 (bodyPost prog f66 (WRes W0 yb ao T.length cap PD j0 w (Js env F f1A f2A e0 c)))))) ⟨#[aJ W0.1.size 0,undef,aJ w.1.size 0,aJ X 0,u4,u5,u6,u7,u8,aJ W0.1.size 0,v10,u11,u12,u13,u14,u15,u16,u17,u18,u19,u20,u21,u22,u23,u24,u25,u26,u27,u28,u29,u30,u31,u32,u33,u34,u35,u36,u37,u38,u39,u40,u41,u42,u43,u44,u45,u46,u47,u48,u49,u50,u51,u52,u53,u54,u55,u56,u57,u58,u59,u60,u61,u62,u63,u64,u65,u66,u67,u68,u69,u70,u71,u72,u73,u74,u75,u76,u77,u78,u79,u80,u81,u82,u83,u84,u85,u86,u87,u88,u89,u90,u91,u92,u93,u94,u95,u96,u97,u98,u99,u100,u101,u102,u103,u104,u105,u106,u107,u108,u109,u110,u111,u112,u113,u114,u115,u116,u117,u118,u119,u120,u121,u122,u123,u124,u125,u126,u127,u128,u129,u130,u131,u132,u133,u134,u135,u136,u137,u138,u139,u140,u141,u142,u143,u144,undef],[]⟩ wr:=by
 conv=>arg 2;whnf
 have b6:=HC.few;have b4:((j1+1:Nat):Int)-1=(j1:Int):=by omega
 rw[b4]at hst;have bd:=O hst;obtain⟨bn,bK⟩:∃bn:Int,bn=0:=⟨0,rfl⟩;have cP:wr.cell? (U W0.1.size 4)=some (G bn):=by rw[bK];exact hst.wok.c4
 have cL:(bn == 0)=true:=by rw[bK];rfl
 clear bK;have ac:=hst.wok.c2;obtain⟨b5,cF,cI⟩:=Jej HC.tk (NN rfl) hf1;obtain⟨m,z,rfl,ce⟩:=HC.tokAt b5;obtain⟨cG,bv,bt⟩:=ce wr bd.bel;have aq:aB wr W0.1.size 1 (aI m z T.length cap):=bd.wok.c1;generalize hN:T.length=N at aq;obtain⟨W,bJ⟩:=nm (T[j1].t);obtain⟨b,bH⟩:=nm (T[j1].p);rw[bJ]at bv cI;rw[bH]at bt;have y0:(0:Int)<=j1:=by omega
 have y1:(j1:Int)<N:=by omega
 have b8:m<wr.1.size:=FT cG hst.bel.size;have cZ:j1<200:=by omega
 have av:=O hSp1;have cw:=O (Jii hSp1 HGd HGR);clear hst b4 ce cF b6;change Hid _ at hjg hN bH bJ hev hA;go_wp2_with fail;go_quiet (fail);obtain⟨A,S⟩:=nm (wr.drewN nq);have be:Hid (ESt W0 yb (some (U m z)) T.length cap w X (j1:Int) ((c':Nat):Int) 0 0 s1 s2 s3 d1 d2 d3 A):=O (S▸bd.below (Below.drewN aS nq));have bM:Hid (IsArr (PE w X PD) A (aK s1 s2 s3 d1 d2 d3) a):=O (S▸J9 hA (Below.drewN aS nq));have cC:aB A m (z+j1*2) (aE W):=S▸bv;have cB:aB A m (z+j1*2+1) (G b):=S▸bt;have cN:aB A W0.1.size 1 (aI m z N cap):=S▸aq;have cO:aB A W0.1.size 2 (G j1):=S▸ac;have cH:m<A.1.size:=S▸b8;have cK:W0.1.size<A.1.size:=be.wok.lt;rw[S];clear S bv bt aq ac cP b8 cL bd hA;go_upto_region 3 with fail;go_cut [4]from 11 to 144 (fun cQ Y=>cQ=aJ A.1.size 0/\Y=(A.alloc (.cells #[aE W,G b] 166)).drew)
 .go_region
  all_goals
   go_wp2;go_meet;exact⟨rfl,rfl⟩
 obtain⟨rfl,q⟩:=hcut;rename World=>wd;have bD:J A wd:=by rw[q];exact(aS.alloc aT _).drew
 have b0:wd.cell? (U A.1.size 0)=some (aE W):=by rw[q];simp
 have b1:wd.cell? (U A.1.size 1)=some (G b):=by rw[q];simp
 have bE:A.1.size<wd.1.size:=by rw[q];simp
 generalize hBB:A.1.size=BB at b0 b1 bE⊢;have a5:=be.below bD;have bS:Hid (X<BB):=O (by have:=be.xr;omega);have bZ:W0.1.size<BB:=by omega
 have bN:=O (J9 bM bD);have ac:=a5.wok.c2;have cD:=a5.wok.fr 2;have cg:wrap64 ((j1:Int)-1)=(j1:Int)-1:=by unfold wrap64;omega
 have bI:=a5.bsk (Y7 (i:=2) (u:=G ((j1:Int)-1)) (Bs.of aS)) (a5.wok.set2 ((j1:Int)-1));have H:=O bI;have bO:Hid (IsArr (PE w X PD) (wd.setCell (U W0.1.size 2) (G ((j1:Int)-1))) (aK s1 s2 s3 d1 d2 d3) a):=O (J5 bN (fun hh=>by
  have bf:=bI.lt0;rcases hh with hh|hh
  .have:=HC.pd _ hh;omega
  omega) _ _)
 have bq:(wd.setCell (U W0.1.size 2) (G ((j1:Int)-1))).cell? (U BB 0)=some (aE W):=celN (by omega) b0;have br:(wd.setCell (U W0.1.size 2) (G ((j1:Int)-1))).cell? (U BB 1)=some (G b):=celN (by omega) b1;have aV:BB<(wd.setCell (U W0.1.size 2) (G ((j1:Int)-1))).1.size:=by simpa using bE
 clear q bD a5 bI hBB cC cB cN cO cH cK be bM;go_upto_region 6 with fail;try rw[cg]
 generalize hwe:(wd.setCell (U W0.1.size 2) (G ((j1:Int)-1)))=we at H bO bq br aV⊢;clear hwe b0 b1 bE ac cD cg bN wd;go_cut [6]from 11 to 144 (fun bm Y=>(∃n,Y=we.drewN n)/\(bm=.bool false\/(bm=.bool true/\∃d,j1=d+1/\∃h:d<T.length,funB T[d].t=true)))
 .have b6:=HC.few;rcases Jkc HC.tk av with bz|⟨cW,af,aY,cb⟩
  .rcases I HBg with bV|⟨af,cX,bW⟩
   .have ac:we.cell? (U W0.1.size 2)=some (G (-1)):=by have:=H.wok.c2;rw[this,bz,bV];rfl
    clear bz bV;go_quiet (fail);go_wp2;go_meet;exact⟨⟨_,rfl⟩,NN rfl⟩
   obtain⟨d,an⟩:∃d,j1=d+1:=⟨j1-1,by omega⟩;have ap:j0-1=d:=by omega
   simp only[ap]at af bW;obtain⟨bU,ck,D,aa⟩:=HC.tokAt af;injection D with D;injection D with az aU _;subst az aU;obtain⟨aZ,ay,-⟩:=aa we H.bel;have aq:we.cell? (U W0.1.size 1)=some (aI m z N cap):=by have:=H.wok.c1;rw[hN]at this;exact this
   have ac:we.cell? (U W0.1.size 2)=some (G d):=by have:=H.wok.c2;rw[this];congr 2;omega
   obtain⟨cl,ag⟩:=nm (T[d].t);have cn:(0:Int)<=d:=by omega
   have co:(d:Int)<N:=by have:=I hN;omega
   rw[ag]at ay bW;clear aa ap bz an ag;go_quiet (fail);go_wp2;go_meet;exact⟨⟨_,rfl⟩,NN rfl⟩
  obtain⟨d,an⟩:∃d,j1=d+1:=⟨j1-1,by omega⟩;have ap:j1-1=d:=by omega
  have b9:d<T.length:=by omega
  have b7:funB T[d].t=true:=by simpa only[ap]using aY
  have cJ:(T[d].t.toList == [40])=false:=by simpa only[ap]using cb
  clear aY cb af ap;obtain⟨bU,ck,D,aa⟩:=HC.tokAt b9;injection D with D;injection D with az aU _;subst az aU;obtain⟨aZ,ay,-⟩:=aa we H.bel;have aq:we.cell? (U W0.1.size 1)=some (aI m z N cap):=by have:=H.wok.c1;rw[hN]at this;exact this
  have ac:we.cell? (U W0.1.size 2)=some (G d):=by have:=H.wok.c2;rw[this];congr 2;omega
  obtain⟨cl,ag⟩:=nm (T[d].t);have cn:(0:Int)<=d:=by omega
  have co:(d:Int)<N:=by have:=I hN;omega
  rw[ag]at ay cJ;clear aa ag;change Hid _ at an b7;go_quiet (fail);go_wp2;go_meet;exact⟨⟨_,rfl⟩,NO ⟨rfl,d,an,b9,b7⟩⟩
 obtain⟨⟨cM,q⟩,cf⟩:=hcut;rename World=>wf;have bb:Hid (J we wf):=O (q▸Below.drewN aS cM);clear q;change Hid _ at cf;go_upto_if 73 with fail;go_cut [6]from 11 to 144 (fun bm Y=>bm=.bool false/\J we Y)
 .rcases I cf with rfl|⟨rfl,d,an,af,aY⟩
  .go_wp2;go_meet;exact⟨rfl,bb⟩
  have bl:=H.below bb;obtain⟨bU,ck,D,aa⟩:=HC.tokAt af;injection D with D;injection D with az aU _;subst az aU;obtain⟨aZ,ay,-⟩:=aa wf bl.bel;have aq:wf.cell? (U W0.1.size 1)=some (aI m z N cap):=by have:=bl.wok.c1;rw[hN]at this;exact this
  have ac:wf.cell? (U W0.1.size 2)=some (G d):=by have:=bl.wok.c2;rw[this];congr 2;omega
  have cd:=(HC.tk _ (ND af)).vt.pos;have bR:Hid (∀aj,Calls prog 85 #[aE T[d].t] aj fun e w'=>e=aD (.bool true)/\J aj w'):=O (fun aj=>by
   rw[<-aY];exact Zi _ _ cd)
  generalize ag:T[d].t=cl at ay bR;have cn:(0:Int)<=d:=by omega
  have co:(d:Int)<N:=by have:=I hN;omega
  clear aa bl ag aY cd an;go_wp2_with fail;go_region_law (go_simp;go_at_call 85;refine aR (I bR _) fun cm b3=>?_;have ct:=O ((I bb).trans (((FQ wf.1.size wf).drew.trans b3).mono bb.size));clear b3)
  all_goals
   go_wp2;go_meet;exact⟨rfl,ct⟩
 obtain⟨rfl,am⟩:=hcut;rename World=>wg;have L:=H.below am;have cz:=O L;have cq:=O (J9 bO am);have b0:=V am aV bq;have b1:=V am aV br;have cE:BB<wg.1.size:=FT aV am.size;obtain⟨bG,aZ⟩:=cw;have bi:a.ok/\((c':Nat):Int)<=F:=Vf HC.ok e c (a,c') bG.2 HCF hev;have a6:(tokAt T j1).t=W/\(tokAt T j1).p=b:=by
  rw[Yz b5];exact⟨bJ,bH⟩
 have cc:OneR W (f1A W):=a6.1▸aZ.1;obtain⟨f,bj⟩:=nm (f1A W a);have cy:Hid (Calls prog 87 #[aE W,aK s1 s2 s3 d1 d2 d3] wg (RRes (PE w X PD) wg f)):=O (by
  rw[<-bj];exact cc (PE w X PD) wg (fun cV b2=>NO ⟨by have:=L.xl;have:=L.xr;omega,by have:=L.xr;omega⟩) _ a cq bi.1)
 have cx:Hid (f.2=0->f.1.ok):=O (fun bx=>by
  have:=(bG.1.2 a bi.1).2;rw[a6.1,bj]at this;exact this bx)
 have bg:Js env F f1A f2A (.one (tokAt T j1).t (tokAt T j1).p e) c=payP F f b c':=by
  simp only[Js,I hev];rw[a6.1,a6.2,bj]
 have cu:Hid (((c':Nat):Int)<=F):=O bi.2;have bZ:W0.1.size<BB:=bZ;have u0:=L.x0;have u1:=L.x1;have u2:=L.y0;have u3:=L.y1;have c6:=L.xr;clear am L bG aZ bi a6 cc bj bq br aV;change Hid _ at bg;go_upto_region 16 with(go_at_call 87;refine cy.mono ?_;rintro e cR ⟨a1,a2,a3,x,g,y,rfl,bX,bB⟩;have Z:=O ((I cz).below bB);have bQ:=O bX;have ch:=V bB cE b1;have x0:=Z.x0;have x1:=Z.x1;have cS:=Z.y0;have cT:=Z.y1;clear bX bB u0 u1 u2 u3 b0 b1);obtain⟨ar,a8⟩:=nm ((cR.setCell (U X 0) (E a1 a2 a3)).setCell (U X 1) (E x g y));have r:Hid (ESt W0 yb (some (U m z)) T.length cap w X ((j1:Int)-1) ((c':Nat):Int) 0 0 a1 a2 a3 x g y ar):=O (a8▸Z.put a1 a2 a3 x g y);have bo:Hid (IsArr (PE w X PD) ar (aK a1 a2 a3 x g y) (if f.2=0 then f.1 else eArr)):=O (by
  rw[<-a8];have a4:¬ PE w X PD X:=fun hh=>by
   rcases hh with hh|hh
   .have bf:=HC.pd _ hh;have bA:=Z.xl;have cY:=Z.lt0;omega
   exact hh.2 rfl
  exact J5 (J5 bQ a4 _ _) a4 _ _)
 have n1:ar.cell? (U BB 1)=some (G b):=by
  rw[<-a8,FZ _ _ _ _ (by intro e;injection e with e;have:=I bS;omega),FZ _ _ _ _ (by intro e;injection e with e;have:=I bS;omega)];exact ch
 rw[a8];clear a8 Z bQ ch x0 x1 cS cT;have bh:=(Jb bo).1;have c8:g<=200:=by
  rw[bh];split
  .rename_i bx;exact(cx bx).few
  simp[eArr]
 have c7:c'<=1000:=by have:=I cu;have:=HC.f1;omega
 change Hid _ at bh;have bT:Hid (∀aj,J W0 aj->aj.cell? (U yb 2)=some (G F)):=O (fun aj b2=>by
  obtain⟨cU,da,dc,c9,db,dd,bY,-⟩:=HC.desk;exact V b2 bY.lt bY.c2)
 by_cases B:f.2=0
 .have au:=O (Jdk ar W0.1.size b r.wok.lt r.wok.c4);rw[B];change Hid _ at B;have c3:=r.wok.c3;have bw:=r.wok.fr 3;have x1:=r.x1;have a9:IntKind.i64.wrap ((c':Int)+1)=((c'+1:Nat):Int):=by rw[ZW];unfold wrap64;omega
  have ah:IntKind.i64.wrap (((c'+1:Nat):Int)+(g:Int))=((c'+1+g:Nat):Int):=by rw[ZW];unfold wrap64;omega
  obtain⟨bu,aW⟩:=nm (c'+1);obtain⟨j,aX⟩:=nm (bu+g);rw[aW]at a9 ah;rw[aX]at ah;go_upto_region 17 with(go_at_call 88;refine aR au fun ai R=>?_;subst R);go_cut [5]from 11 to 144 (fun bL Y=>bL=G 0/\Y=(ai.setCell (U W0.1.size 3) (G ((j:Nat):Int))).drew)
  .go_region_law (fail)
   all_goals
    go_wp2;go_meet;exact⟨rfl,rfl⟩
  obtain⟨rfl,q⟩:=hcut;rename World=>wi;have bp:Hid (c'+1+g=j):=O (by omega);have s:Hid (ESt W0 yb (some (U m z)) T.length cap w X ((j1:Int)-1) ((j:Nat):Int) 0 0 a1 a2 a3 x g y wi):=O (by
   rw[q];exact(r.bsk (Y7 (i:=3) (u:=G ((j:Nat):Int)) (Bs.of aS)) (r.wok.set3 ((j:Nat):Int))).below aS.drew)
  have bP:Hid (IsArr (PE w X PD) wi (aK a1 a2 a3 x g y) (if f.2=0 then f.1 else eArr)):=O (by
   rw[q];refine J9 (J5 bo (fun hh=>?_) _ _) aS.drew;have bf:=r.lt0;rcases hh with hh|hh
   .have:=HC.pd _ hh;omega
   omega)
  have ab:wi.cell? (U BB 1)=some (G b):=by
   rw[q];exact celN (by omega) n1
  have ax:=s.wok.c3;have aw:=s.wok.c0;have ba:=bT wi s.bel;clear q aW aX c3 bw x1 a9 ah n1 au;by_cases Q:F<((j:Nat):Int)
  .have cv:=O (Qt wi W0.1.size 10 b 0 s.wok.lt s.wok.c4 s.wok.c5 (s.wok.fr 4) (s.wok.fr 5) (by decide));have ak:Hid (Js env F f1A f2A (.one (tokAt T j1).t (tokAt T j1).p e) c=.inl (10,b)):=O (by
    rw[bg];unfold payP;rw[FU (by rw[B];simp),FY];have:=I bh;have bA:=I bp;rw[FY (I B)]at this;omega)
   have ae:decide (F<((j:Nat):Int))=true:=by simpa using Q
   go_wp2_with fail;go_quiet (fail);obtain⟨C,l⟩:=nm (wi.drewN nq);have ad:Hid (ESt W0 yb (some (U m z)) T.length cap w X ((j1:Int)-1) ((j:Nat):Int) 0 0 a1 a2 a3 x g y C):=O (l▸s.below (Below.drewN aS nq));have cj:aB C BB 1 (G b):=l▸ab;have bc:=O (Qt C W0.1.size 10 b 0 ad.wok.lt ad.wok.c4 ad.wok.c5 (ad.wok.fr 4) (ad.wok.fr 5) (by decide));rw[l];clear l ae Q ax aw ba ab cv;go_wp2_with (go_at_call 88;refine aR bc fun cm a7=>?_);have cA:=O ((ad.bsk (Y7 (i:=5) (u:=G b) (Y7 (i:=4) (u:=G 10) (Bs.of aS))) (ad.wok.set45 10 b)));try rw[a7]
   try clear a7
   go_roundg j1
   case measure=>have:=I hjg;omega
   exact⟨_,_,_,_,_,_,NO ⟨_,_,_,Jam av ak,by simp,cA⟩⟩
  have ak:Hid (Js env F f1A f2A (.one (tokAt T j1).t (tokAt T j1).p e) c=.inr (f.1,j)):=O (by
   rw[bg];unfold payP;have ca:=I bh;have bA:=I bp;rw[FY (I B)]at ca;rw[FU (by rw[B];simp),FU (by omega),<-bA,ca,Pj])
  have cr:Hid (IsArr (PE w X PD) wi (aK a1 a2 a3 x g y) f.1):=O (by
   have:=I bP;rw[FY (I B)]at this;exact this)
  have ae:decide (F<((j:Nat):Int))=false:=by simpa using Q
  go_wp2_with fail;go_quiet (fail);obtain⟨C,l⟩:=nm (wi.drewN nq);have P:Hid (ESt W0 yb (some (U m z)) T.length cap w X ((j1:Int)-1) ((j:Nat):Int) 0 0 a1 a2 a3 x g y C):=O (l▸s.below (Below.drewN aS nq));have cs:Hid (IsArr (PE w X PD) C (aK a1 a2 a3 x g y) f.1):=O (l▸J9 cr (Below.drewN aS nq));rw[l];clear l ae Q ax aw ba ab;go_wp2;go_roundg j1
  case measure=>have:=I hjg;omega
  exact⟨_,_,_,_,_,_,NN ⟨j1,_,f.1,j,av,ak,FP _,P,cs⟩⟩
 have au:=O (Qt ar W0.1.size f.2 b 0 r.wok.lt r.wok.c4 r.wok.c5 (r.wok.fr 4) (r.wok.fr 5) B);change Hid _ at B;go_upto_region 17 with(go_at_call 88;refine aR au fun ai R=>?_;subst R);obtain⟨ai,R⟩:=nm ((ar.setCell (U W0.1.size 4) (G f.2)).setCell (U W0.1.size 5) (G b));have al:Hid (ESt W0 yb (some (U m z)) T.length cap w X ((j1:Int)-1) ((c':Nat):Int) f.2 ((b:Nat):Int) a1 a2 a3 x g y ai):=O (by
  rw[<-R];exact r.bsk (Y7 (i:=5) (u:=G b) (Y7 (i:=4) (u:=G f.2) (Bs.of aS))) (r.wok.set45 f.2 b))
 have cp:Hid (IsArr (PE w X PD) ai (aK a1 a2 a3 x g y) (if f.2=0 then f.1 else eArr)):=O (by
  have bf:=r.lt0;have a4:¬ PE w X PD W0.1.size:=fun hh=>by
   rcases hh with hh|hh
   .have:=HC.pd _ hh;omega
   omega
  rw[<-R];exact J5 (J5 bo a4 _ _) a4 _ _)
 have ci:ai.cell? (U BB 1)=some (G b):=by
  rw[<-R,celO (by omega),celO (by omega)];exact n1
 rw[R];clear R n1 au;have c3:=al.wok.c3;have bw:=al.wok.fr 3;have x1:=al.x1;have a9:IntKind.i64.wrap ((c':Int)+1)=((c'+1:Nat):Int):=by rw[ZW];unfold wrap64;omega
 have ah:IntKind.i64.wrap (((c'+1:Nat):Int)+(g:Int))=((c'+1+g:Nat):Int):=by rw[ZW];unfold wrap64;omega
 obtain⟨bu,aW⟩:=nm (c'+1);obtain⟨j,aX⟩:=nm (bu+g);rw[aW]at a9 ah;rw[aX]at ah;go_cut [5]from 11 to 144 (fun bL Y=>bL=G f.2/\Y=(ai.setCell (U W0.1.size 3) (G ((j:Nat):Int))).drew)
 .go_region_law (fail)
  all_goals
   go_wp2;go_meet;exact⟨rfl,rfl⟩
 obtain⟨rfl,q⟩:=hcut;rename World=>wi;have bp:Hid (c'+1+g=j):=O (by omega);have s:Hid (ESt W0 yb (some (U m z)) T.length cap w X ((j1:Int)-1) ((j:Nat):Int) f.2 ((b:Nat):Int) a1 a2 a3 x g y wi):=O (by
  rw[q];exact(al.bsk (Y7 (i:=3) (u:=G ((j:Nat):Int)) (Bs.of aS)) (al.wok.set3 ((j:Nat):Int))).below aS.drew)
 have bP:Hid (IsArr (PE w X PD) wi (aK a1 a2 a3 x g y) (if f.2=0 then f.1 else eArr)):=O (by
  rw[q];refine J9 (J5 cp (fun hh=>?_) _ _) aS.drew;have bf:=al.lt0;rcases hh with hh|hh
  .have:=HC.pd _ hh;omega
  omega)
 have ab:wi.cell? (U BB 1)=some (G b):=by
  rw[q];exact celN (by omega) ci
 have ax:=s.wok.c3;have aw:=s.wok.c0;have ba:=bT wi s.bel;clear q aW aX c3 bw x1 a9 ah ci;have ak:Hid (Js env F f1A f2A (.one (tokAt T j1).t (tokAt T j1).p e) c=.inl (f.2,b)):=O (by
  rw[bg];unfold payP;rw[FY (I B)])
 by_cases Q:F<((j:Nat):Int)
 .skip
  have ae:decide (F<((j:Nat):Int))=true:=by simpa using Q
  go_wp2_with fail;go_quiet (fail);obtain⟨C,l⟩:=nm (wi.drewN nq);have P:Hid (ESt W0 yb (some (U m z)) T.length cap w X ((j1:Int)-1) ((j:Nat):Int) f.2 ((b:Nat):Int) a1 a2 a3 x g y C):=O (l▸s.below (Below.drewN aS nq));have cj:aB C BB 1 (G b):=l▸ab;have bc:=O (Fi C W0.1.size 10 b f.2 P.wok.lt P.wok.c4 B);rw[l];clear l ae Q ax aw ba ab;go_wp2_with (go_at_call 88;refine aR bc fun cm a7=>?_);try rw[a7]
  try subst a7
  go_roundg j1
  case measure=>have:=I hjg;omega
  exact⟨_,_,_,_,_,_,NO ⟨_,_,_,Jam av ak,B,P⟩⟩
 have ae:decide (F<((j:Nat):Int))=false:=by simpa using Q
 go_wp2_with fail;go_quiet (fail);obtain⟨C,l⟩:=nm (wi.drewN nq);have P:Hid (ESt W0 yb (some (U m z)) T.length cap w X ((j1:Int)-1) ((j:Nat):Int) f.2 ((b:Nat):Int) a1 a2 a3 x g y C):=O (l▸s.below (Below.drewN aS nq));have cj:aB C BB 1 (G b):=l▸ab;have bc:=O (Fi C W0.1.size 10 b f.2 P.wok.lt P.wok.c4 B);rw[l];clear l ae Q ax aw ba ab;go_wp2;go_roundg j1
 case measure=>have:=I hjg;omega
 exact⟨_,_,_,_,_,_,NO ⟨_,_,_,Jam av ak,B,P⟩⟩
end Go.Proofs.YtjobgpahajhbnaaGreatDoor
