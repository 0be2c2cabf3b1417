import Derived.Test.YtjobgpahajhbnaaGreatDoorZro
namespace Go.Proofs.YtjobgpahajhbnaaGreatDoor
open Go.RowKit Go.Proofs Go.Maps Go.Proofs.Tryz
attribute [local go_sem ↓] Go.wp_at_zero Go.wp_at_succ
set_option linter.all false
set_option maxHeartbeats 40000000
set_option maxRecDepth 20000
theorem Jpe{W0:World}{yb:Nat}{F:Int}{env:ByteArray->Option Arr}{T:List Tok}{ao:Option Addr}{PD:Nat->Prop}{cap o k j0:Nat}{e0:Ex}{c:Nat}{w:World}{X gk:Nat}{wr:World}{v10 u4 u5 u6 u7 u8 u11 u12 u13 u14 u15 u16 u17 u18 u19 u20 u21 u22 u23 u24 u25 u26 u27 u28 u29 u30 u31 u32 u33 u34 u35 u36 u37 u38 u39 u40 u41 u42 u43 u44 u45 u46 u47 u48 u49 u50 u51 u52 u53 u54 u55 u56 u57 u58 u59 u60 u61 u62 u63 u64 u65 u66 u67 u68 u69 u70 u71 u72 u73 u74 u75 u76 u77 u78 u79 u80 u81 u82 u83 u84 u85 u86 u87 u88 u89 u90 u91 u92 u93 u94 u95 u96 u97 u98 u99 u100 u101 u102 u103 u104 u105 u106 u107 u108 u109 u110 u111 u112 u113 u114 u115 u116 u117 u118 u119 u120 u121 u122 u123 u124 u125 u126 u127 u128 u129 u130 u131 u132 u133 u134 u135 u136 u137 u138 u139 u140 u141 u142 u143 u144:Value}{Jz:Nat->Act->World->Prop}{K K1:Act->World->Prop}{s1:Option Addr}{s2 s3:Nat}{d1:Option Addr}{d2 d3:Nat}{e:Ex}{a:Arr}{c' j1:Nat}{l:Ex}{m:Nat}
 (HC:Hid (Ctx W0 yb F env T ao PD)) (HGd:Hid (Good f1A f2A e0)) (HGR:Hid (Xw e0)) (HCF:Hid ((c:Int)<=F))
 (hJ:∀(k':Nat) (a':Act) (w':World),(∃u4 u5 u6 u7 u8 u11 u12 u13 u14 u15 u16 u17 u18 u19 u20 u21 u22 u23 u24 u25 u26 u27 u28 u29 u30 u31 u32 u33 u34 u35 u36 u37 u38 u39 u40 u41 u42 u43 u44 u45 u46 u47 u48 u49 u50 u51 u52 u53 u54 u55 u56 u57 u58 u59 u60 u61 u62 u63 u64 u65 u66 u67 u68 u69 u70 u71 u72 u73 u74 u75 u76 u77 u78 u79 u80 u81 u82 u83 u84 u85 u86 u87 u88 u89 u90 u91 u92 u93 u94 u95 u96 u97 u98 u99 u100 u101 u102 u103 u104 u105 u106 u107 u108 u109 u110 u111 u112 u113 u114 u115 u116 u117 u118 u119 u120 u121 u122 u123 u124 u125 u126 u127 u128 u129 u130 u131 u132 u133 u134 u135 u136 u137 u138 u139 u140 u141 u142 u143 u144:Value,ERel env F T o k j0 e0 c W0 yb ao cap PD w X k' w'/\a'=⟨#[aJ W0.1.size 0,undef,aJ w.1.size 0,aJ X 0,u4,u5,u6,u7,u8,aJ W0.1.size 0,v10,u11,u12,u13,u14,u15,u16,u17,u18,u19,u20,u21,u22,u23,u24,u25,u26,u27,u28,u29,u30,u31,u32,u33,u34,u35,u36,u37,u38,u39,u40,u41,u42,u43,u44,u45,u46,u47,u48,u49,u50,u51,u52,u53,u54,u55,u56,u57,u58,u59,u60,u61,u62,u63,u64,u65,u66,u67,u68,u69,u70,u71,u72,u73,u74,u75,u76,u77,u78,u79,u80,u81,u82,u83,u84,u85,u86,u87,u88,u89,u90,u91,u92,u93,u94,u95,u96,u97,u98,u99,u100,u101,u102,u103,u104,u105,u106,u107,u108,u109,u110,u111,u112,u113,u114,u115,u116,u117,u118,u119,u120,u121,u122,u123,u124,u125,u126,u127,u128,u129,u130,u131,u132,u133,u134,u135,u136,u137,u138,u139,u140,u141,u142,u143,u144,undef],[]⟩)->Jz k' a' w') (hK:∀(a':Act) (w':World),Handed Jz gk a' w'->K a' w')
 (hev:Js env F f1A f2A e c=.inr (a,c')) (hA:IsArr (PE w X PD) wr (aK s1 s2 s3 d1 d2 d3) a) (HTh:Hid (∀j l m c' w',j0<=j->m<=k->PX T true j o l m->(j=0\/∃h:j-1<T.length,0<j/\numB T[j-1].t=false)->Good f1A f2A l->Xw l->((c':Nat):Int)<=F->J W0 w'->Wok W0.1.size yb ao T.length cap ((m:Int)-1) c' 0 0 w'->Calls prog 84 #[aJ W0.1.size 0] w' (WRes W0 yb ao T.length cap PD j w' (Js env F f1A f2A l c')))) (HPre:Hid (∀(j:Nat) (e:Ex),Sp T o k j0 e0 j e->(j=0\/∃h:j-1<T.length,0<j/\numB T[j-1].t=false))) (hjg:m+1<=gk) (hst:ESt W0 yb ao T.length cap w X (((m+1:Nat):Int)-1) ((c':Nat):Int) 0 0 s1 s2 s3 d1 d2 d3 wr) (hSp1:Sp T o k j0 e0 j1 (.two (tokAt T m).t (tokAt T m).p l e)) (hpl:PX T true j1 o l m) (hf2:fB (kr T) m 2=true) (hpx:PX T false (m+1) o e k):
 Code.wp prog Jye (Exit.then K (Exit.inBlock 0 (Exit.then K1 (bodyPost prog f66 (WRes W0 yb ao T.length cap PD j0 w (Js env F f1A f2A e0 c)))))) ⟨#[aJ W0.1.size 0,undef,aJ w.1.size 0,aJ X 0,u4,u5,u6,u7,u8,aJ W0.1.size 0,v10,u11,u12,u13,u14,u15,u16,u17,u18,u19,u20,u21,u22,u23,u24,u25,u26,u27,u28,u29,u30,u31,u32,u33,u34,u35,u36,u37,u38,u39,u40,u41,u42,u43,u44,u45,u46,u47,u48,u49,u50,u51,u52,u53,u54,u55,u56,u57,u58,u59,u60,u61,u62,u63,u64,u65,u66,u67,u68,u69,u70,u71,u72,u73,u74,u75,u76,u77,u78,u79,u80,u81,u82,u83,u84,u85,u86,u87,u88,u89,u90,u91,u92,u93,u94,u95,u96,u97,u98,u99,u100,u101,u102,u103,u104,u105,u106,u107,u108,u109,u110,u111,u112,u113,u114,u115,u116,u117,u118,u119,u120,u121,u122,u123,u124,u125,u126,u127,u128,u129,u130,u131,u132,u133,u134,u135,u136,u137,u138,u139,u140,u141,u142,u143,u144,undef],[]⟩ wr:=by
 conv=>arg 2;whnf
 have b6:=HC.few;have cC:((m+1:Nat):Int)-1=(m:Int):=by omega
 rw[cC]at hst;have bv:=O hst;obtain⟨ag,ap⟩:∃ag:Int,ag=0:=⟨0,rfl⟩;have dD:wr.cell? (U W0.1.size 4)=some (G ag):=by rw[ap];exact hst.wok.c4
 have cQ:(ag == 0)=true:=by rw[ap];rfl
 clear ap;have aq:=hst.wok.c2;obtain⟨cD,dt,dz⟩:=Jej HC.tk (NO rfl) hf2;obtain⟨q,A,rfl,cK⟩:=HC.tokAt cD;obtain⟨du,bT,bR⟩:=cK wr bv.bel;have aZ:aB wr W0.1.size 1 (aI q A T.length cap):=bv.wok.c1;obtain⟨ba,bA⟩:=nm T.length;rw[bA]at aZ;obtain⟨Z,cc⟩:=nm (T[m].t);obtain⟨b,ca⟩:=nm (T[m].p);rw[cc]at bT dz;rw[ca]at bR;have y0:(0:Int)<=m:=by omega
 have y1:(m:Int)<ba:=by omega
 have cE:q<wr.1.size:=FT du hst.bel.size;have dP:m<200:=by omega
 have al:=O hSp1;have dd:=O (Jii hSp1 HGd HGR);clear hst cC cK dt b6;change Hid _ at hjg bA ca cc hev hA;go_wp2_with fail;go_quiet (fail);obtain⟨L,ae⟩:=nm (wr.drewN nq);have bw:Hid (ESt W0 yb (some (U q A)) T.length cap w X (m:Int) ((c':Nat):Int) 0 0 s1 s2 s3 d1 d2 d3 L):=O (ae▸bv.below (Below.drewN aS nq));have cn:Hid (IsArr (PE w X PD) L (aK s1 s2 s3 d1 d2 d3) a):=O (ae▸J9 hA (Below.drewN aS nq));have dl:aB L q (A+m*2) (aE Z):=ae▸bT;have dk:aB L q (A+m*2+1) (G b):=ae▸bR;have ce:aB L W0.1.size 1 (aI q A ba cap):=ae▸aZ;have cf:aB L W0.1.size 2 (G m):=ae▸aq;have dv:q<L.1.size:=ae▸cE;have dB:W0.1.size<L.1.size:=bw.wok.lt;rw[ae];clear ae bT bR aZ aq dD cE cQ bv hA;go_upto_region 3 with fail;go_cut [4]from 11 to 144 (fun dE av=>dE=aJ L.1.size 0/\av=(L.alloc (.cells #[aE Z,G b] 166)).drew)
 .go_region
  all_goals
   go_wp2;go_meet;exact⟨rfl,rfl⟩
 obtain⟨rfl,D⟩:=hcut;rename World=>wd;have b4:J L wd:=by rw[D];exact(aS.alloc aT _).drew
 have b0:wd.cell? (U L.1.size 0)=some (aE Z):=by rw[D];simp
 have b1:wd.cell? (U L.1.size 1)=some (G b):=by rw[D];simp
 have b5:L.1.size<wd.1.size:=by rw[D];simp
 obtain⟨z,cy⟩:=nm L.1.size;rw[cy]at b0 b1 b5⊢;have bn:=bw.below b4;have ct:Hid (X<z):=O (by have:=bw.xr;omega);have dQ:W0.1.size<z:=by omega
 have co:=O (J9 cn b4);have aq:=bn.wok.c2;have dr:=bn.wok.fr 2;have cN:wrap64 ((m:Int)-1)=(m:Int)-1:=by unfold wrap64;omega
 have cb:=bn.bsk (Y7 (i:=2) (u:=G ((m:Int)-1)) (Bs.of aS)) (bn.wok.set2 ((m:Int)-1));have a8:=O cb;have cp:Hid (IsArr (PE w X PD) (wd.setCell (U W0.1.size 2) (G ((m:Int)-1))) (aK s1 s2 s3 d1 d2 d3) a):=O (J5 co (fun hh=>by
  have aV:=cb.lt0;rcases hh with hh|hh
  .have:=HC.pd _ hh;omega
  omega) _ _)
 have bb:(wd.setCell (U W0.1.size 2) (G ((m:Int)-1))).cell? (U z 0)=some (aE Z):=celN (by omega) b0;have aU:(wd.setCell (U W0.1.size 2) (G ((m:Int)-1))).cell? (U z 1)=some (G b):=celN (by omega) b1;have be:z<(wd.setCell (U W0.1.size 2) (G ((m:Int)-1))).1.size:=by simpa using b5
 clear D b4 bn cb cy dl dk ce cf dv dB bw cn;go_upto_region 6 with fail;try rw[cN]
 obtain⟨a4,cO⟩:=nm (wd.setCell (U W0.1.size 2) (G ((m:Int)-1)));rw[cO]at a8 cp bb aU be⊢;clear cO b0 b1 b5 aq dr cN co wd;have b6:=HC.few;obtain⟨dy,cH,cI⟩:=Jlw HC.tk hpl;have bi:=(Nr hpl).1;obtain⟨W,dw⟩:∃W,m=W+1:=⟨m-1,by omega⟩;have b9:m-1=W:=by omega
 have cF:W<T.length:=by omega
 have b7:funB T[W].t=false:=by simpa only[b9]using cH
 have dA:(T[W].t.toList == [40])=false:=by simpa only[b9]using cI
 clear cH cI dy b9;have dJ:=O b7;obtain⟨bx,dY,bV,cL⟩:=HC.tokAt cF;injection bV with bV;injection bV with dp dq _;subst dp dq;obtain⟨bB,bU,-⟩:=cL a4 a8.bel;have aZ:a4.cell? (U W0.1.size 1)=some (aI q A ba cap):=by have:=a8.wok.c1;rw[bA]at this;exact this
 have aq:a4.cell? (U W0.1.size 2)=some (G W):=by have:=a8.wok.c2;rw[this];congr 2;omega
 obtain⟨cW,bI⟩:=nm (T[W].t);have d5:(0:Int)<=W:=by omega
 have d6:(W:Int)<ba:=by have:=I bA;omega
 rw[bI]at bU dA;have dK:=O bI;have cJ:=(HC.tk _ (ND cF)).vt.pos;have dc:Hid (∀au,Calls prog 85 #[aE cW] au fun e w'=>e=aD (.bool false)/\J au w'):=O (fun au=>by
  rw[<-b7,<-bI];exact Zi _ _ cJ)
 clear cL dw bI b7 b6 cJ;change Hid _ at bi;go_quiet (fail);obtain⟨a5,aY⟩:=nm (a4.drewN nq);have cs:Hid (J a4 a5):=O (aY▸Below.drewN aS nq);have ce:aB a5 W0.1.size 1 (aI q A ba cap):=aY▸aZ;have cf:aB a5 W0.1.size 2 (G W):=aY▸aq;have dm:aB a5 q (A+W*2) (aE cW):=aY▸bU;rw[aY];clear aY aZ aq bU;go_upto_if 73 with fail;go_cut [6]from 11 to 144 (fun dF av=>dF=.bool true/\J a4 av)
 .go_wp2_with fail;go_region_law (go_simp;go_at_call 85;refine aR (I dc _) fun H cB=>?_;have c9:=O ((I cs).trans (((FQ a5.1.size a5).drew.trans cB).mono cs.size));clear cB)
  all_goals
   go_wp2;go_meet;exact⟨rfl,c9⟩
 obtain⟨rfl,aW⟩:=hcut;rename World=>wg;have bH:=a8.below aW;have a9:=O bH;have cY:=O (J9 cp aW);have b0:=V aW be bb;have b1:=V aW be aU;have aX:z<wg.1.size:=FT be aW.size;obtain⟨bh,bB⟩:=dd;have bm:a.ok/\((c':Nat):Int)<=F:=Vf HC.ok e c (a,c') bh.2.2 HCF hev;have bo:(tokAt T m).t=Z/\(tokAt T m).p=b:=by
  rw[Yz cD];exact⟨cc,ca⟩
 have cG:m<=k:=by have:=Nr hpx;omega
 have ay:=O (I HTh j1 l m c' wg (Jt3 al).2 cG hpl (I HPre j1 _ al) bh.2.1 bB.2.1 bm.2 bH.bel bH.wok);have cM:TwoR Z (f2A Z):=bo.1▸bB.1;have b8:=bh.1;rw[bo.1]at b8;have de:=O bh.2.1;clear aW bH bh bB bb aU be ce cf dm cG;change Hid _ at bo bm b8 cM;cases hel:Js env F f1A f2A l c' with
 | inl x =>
  rw[hel]at ay;have ah:Hid (Js env F f1A f2A e0 c=.inl x):=O (Jam al (by simp only[Js,I hev,hel]));have cP:x.1≠0:=Jbi _ _ _ hel;have dS:(x.1 != 0)=true:=by simp[cP]
  clear hel cP;go_upto_region 12 with(go_at_call 84;refine ay.mono ?_;rintro dn ch ⟨Q,a1,a2,a3,s,f,y,rfl,dC,c5,Y⟩);obtain⟨af,R⟩:=nm (ch.alloc (.cells (aL a1 a2 a3 s f y) 133));have aw:Hid (ESt W0 yb (some (U q A)) T.length cap w X dC c5 x.1 ((x.2:Nat):Int) s1 s2 s3 d1 d2 d3 af):=O (R▸(a9.bsk Q Y).below (aS.alloc aT _));rw[R];have r0:=aw.r0;have r1:=aw.r1;have dM:=aw.e0;have dN:=aw.e1;have c4:=aw.wok.c4;clear R Q Y b0 b1 ay;go_wp2;refine FR (v:=.agg aF) (by simp[results,results66,go_sem,r0,r1]) rfl ?_;rw[ah];exact aw.err rfl rfl _ _ _ _ _ _
 | inr xq =>
  obtain⟨az,n⟩:=xq;rw[hel]at ay;have bE:az.ok/\((n:Nat):Int)<=F:=Vf HC.ok l c' (az,n) de bm.2 hel;obtain⟨d,bG⟩:=nm (f2A Z az a);have df:Hid (d.2=0->d.1.ok):=O (fun bY=>by
   have:=(b8.2 az a bE.1 bm.1).2;rw[bG]at this;exact this bY)
  have bZ:Hid (Js env F f1A f2A (.two (tokAt T m).t (tokAt T m).p l e) c=payP F d b n):=O (by
   simp only[Js,I hev,hel];rw[bo.1,bo.2,bG])
  have da:Hid (((n:Nat):Int)<=F):=O bE.2;have dg:=O bE.1;clear hel bE;change Hid _ at bG;go_upto_region 12 with(go_at_call 84;refine ay.mono ?_;rintro dn ar ⟨Q,bJ,bK,bL,bM,bN,bO,rfl,cw,Y⟩);obtain⟨H,bp⟩:=nm (ar.alloc (.cells (aL bJ bK bL bM bN bO) 133));have ab:J ar H:=bp▸(aS.alloc aT _);have ad:=(a9.bsk Q Y).below ab;have dh:=O ad;have cU:H.cell? (U ar.1.size 0)=some (E bJ bK bL):=by rw[<-bp];simp
  have cV:H.cell? (U ar.1.size 1)=some (E bM bN bO):=by rw[<-bp];simp
  have b2:∀S,PW wg PD S->S<ar.1.size->PE w X PD S:=fun S h _=>h.imp id (fun h=>by have aV:=a9.xl;have bz:=a9.xr;exact⟨by omega,by omega⟩);have c7:Hid (IsArr (PE w X PD) H (aK bJ bK bL bM bN bO) az):=O (by
   obtain⟨y1,ci,cj,ck,cl,cm,e,bX,bx⟩:=cw;exact⟨y1,ci,cj,ck,cl,cm,e,(bX.imp b2).below ab,(bx.imp b2).below ab⟩)
  have c8:Hid (IsArr (PE w X PD) H (aK s1 s2 s3 d1 d2 d3) a):=O (by
   obtain⟨y1,ci,cj,ck,cl,cm,e,bX,bx⟩:=cY;have bj:∀S,PE w X PD S->S<wg.1.size->ar.heap[S]?=wg.heap[S]?:=fun S h dx=>Q.block S dx (fun e=>by
    have aV:=a9.lt0;rcases h with h|h
    .have:=HC.pd _ h;omega
    omega)
   exact⟨y1,ci,cj,ck,cl,cm,e,(bX.keep Q.size bj).below ab,(bx.keep Q.size bj).below ab⟩)
  have dj:Hid (Calls prog 86 #[aK bJ bK bL bM bN bO,aE Z,aK s1 s2 s3 d1 d2 d3] H (RRes (PE w X PD) H d)):=O (by
   rw[<-bG];exact cM (PE w X PD) H (fun S cA=>NO ⟨by have:=ad.xl;have:=ad.xr;omega,by have:=ad.xr;omega⟩) _ _ az a c7 c8 dg bm.1)
  have cd:z≠W0.1.size:=by omega
  have bb:aB H z 0 (aE Z):=V ab (FT aX Q.size) ((Q.cell aX cd).trans b0);have aU:aB H z 1 (G b):=V ab (FT aX Q.size) ((Q.cell aX cd).trans b1);have ds:z<H.1.size:=FT aX (NE Q.size ab.size);obtain⟨dI,cx⟩:=nm ar.1.size;rw[cx]at cU cV⊢;rw[bp];have u0:=ad.x0;have u1:=ad.x1;have dR:=ad.xr;obtain⟨ag,ap⟩:∃ag:Int,ag=0:=⟨0,rfl⟩;have c4:H.cell? (U W0.1.size 4)=some (G ag):=by rw[ap];exact ad.wok.c4
  have cQ:(ag != 0)=false:=by rw[ap];rfl
  clear bp ab ad b2 cw Y Q b0 b1 aX ay cx ap cd;go_upto_region 16 with(go_at_call 86;refine dj.mono ?_;rintro e ch ⟨a1,a2,a3,s,f,y,rfl,cv,b3⟩;have ai:=O ((I dh).below b3);have cr:=O cv;have cR:=V b3 ds aU;have x0:=ai.x0;have x1:=ai.x1;have dG:=ai.y0;have dH:=ai.y1;clear cv b3 u0 u1 bb aU cU cV);obtain⟨a6,bq⟩:=nm ((ch.setCell (U X 0) (E a1 a2 a3)).setCell (U X 1) (E s f y));have B:Hid (ESt W0 yb (some (U q A)) T.length cap w X ((j1:Int)-1) ((n:Nat):Int) 0 0 a1 a2 a3 s f y a6):=O (bq▸ai.put a1 a2 a3 s f y);have bP:Hid (IsArr (PE w X PD) a6 (aK a1 a2 a3 s f y) (if d.2=0 then d.1 else eArr)):=O (by
   rw[<-bq];have bl:¬ PE w X PD X:=fun hh=>by
    rcases hh with hh|hh
    .have aV:=HC.pd _ hh;have bz:=ai.xl;have dO:=ai.lt0;omega
    exact hh.2 rfl
   exact J5 (J5 cr bl _ _) bl _ _)
  have n1:a6.cell? (U z 1)=some (G b):=by
   rw[<-bq,FZ _ _ _ _ (by intro e;injection e with e;have:=I ct;omega),FZ _ _ _ _ (by intro e;injection e with e;have:=I ct;omega)];exact cR
  rw[bq];clear bq ai cr cR x0 x1 dG dH;have bD:=(Jb bP).1;have dV:f<=200:=by
   rw[bD];split
   .rename_i bY;exact(df bY).few
   simp[eArr]
  have dT:n<=1000:=by have:=I da;have:=HC.f1;omega
  change Hid _ at bD;have cu:Hid (∀au,J W0 au->au.cell? (U yb 2)=some (G F)):=O (fun au cA=>by
   obtain⟨dL,dX,d4,dW,dZ,d7,cz,-⟩:=HC.desk;exact V cA cz.lt cz.c2)
  by_cases N:d.2=0
  .have a7:=O (Jdk a6 W0.1.size b B.wok.lt B.wok.c4);rw[N];change Hid _ at N;have c3:=B.wok.c3;have bW:=B.wok.fr 3;have x1:=B.x1;have br:IntKind.i64.wrap ((n:Int)+1)=((n+1:Nat):Int):=by rw[ZW];unfold wrap64;omega
   have an:IntKind.i64.wrap (((n+1:Nat):Int)+(f:Int))=((n+1+f:Nat):Int):=by rw[ZW];unfold wrap64;omega
   obtain⟨bS,bf⟩:=nm (n+1);obtain⟨g,bg⟩:=nm (bS+f);rw[bf]at br an;rw[bg]at an;go_upto_region 17 with(go_at_call 88;refine aR a7 fun af R=>?_;subst R);go_cut [5]from 11 to 144 (fun cg av=>cg=G 0/\av=(af.setCell (U W0.1.size 3) (G ((g:Nat):Int))).drew)
   .go_region_law (fail)
    all_goals
     go_wp2;go_meet;exact⟨rfl,rfl⟩
   obtain⟨rfl,D⟩:=hcut;rename World=>wi;have bQ:Hid (n+1+f=g):=O (by omega);have C:Hid (ESt W0 yb (some (U q A)) T.length cap w X ((j1:Int)-1) ((g:Nat):Int) 0 0 a1 a2 a3 s f y wi):=O (by
    rw[D];exact(B.bsk (Y7 (i:=3) (u:=G ((g:Nat):Int)) (Bs.of aS)) (B.wok.set3 ((g:Nat):Int))).below aS.drew)
   have cq:Hid (IsArr (PE w X PD) wi (aK a1 a2 a3 s f y) (if d.2=0 then d.1 else eArr)):=O (by
    rw[D];refine J9 (J5 bP (fun hh=>?_) _ _) aS.drew;have aV:=B.lt0;rcases hh with hh|hh
    .have:=HC.pd _ hh;omega
    omega)
   have aj:wi.cell? (U z 1)=some (G b):=by
    rw[D];exact celN (by omega) n1
   have bd:=C.wok.c3;have bc:=C.wok.c0;have bt:=cu wi C.bel;clear D bf bg c3 bW x1 br an n1 a7;by_cases ac:F<((g:Nat):Int)
   .have db:=O (Qt wi W0.1.size 10 b 0 C.wok.lt C.wok.c4 C.wok.c5 (C.wok.fr 4) (C.wok.fr 5) (by decide));have ah:Hid (Js env F f1A f2A (.two (tokAt T m).t (tokAt T m).p l e) c=.inl (10,b)):=O (by
     rw[bZ];unfold payP;rw[FU (by rw[N];simp),FY];have:=I bD;have bz:=I bQ;rw[FY (I N)]at this;omega)
    have am:decide (F<((g:Nat):Int))=true:=by simpa using ac
    go_wp2_with fail;go_quiet (fail);obtain⟨P,r⟩:=nm (wi.drewN nq);have ak:Hid (ESt W0 yb (some (U q A)) T.length cap w X ((j1:Int)-1) ((g:Nat):Int) 0 0 a1 a2 a3 s f y P):=O (r▸C.below (Below.drewN aS nq));have cT:aB P z 1 (G b):=r▸aj;have bu:=O (Qt P W0.1.size 10 b 0 ak.wok.lt ak.wok.c4 ak.wok.c5 (ak.wok.fr 4) (ak.wok.fr 5) (by decide));rw[r];clear r am ac bd bc bt aj db;go_wp2_with (go_at_call 88;refine aR bu fun H Y=>?_);have di:=O ((ak.bsk (Y7 (i:=5) (u:=G b) (Y7 (i:=4) (u:=G 10) (Bs.of aS))) (ak.wok.set45 10 b)));try rw[Y]
    try clear Y
    go_roundg j1
    case measure=>have:=I hjg;have:=I bi;omega
    exact⟨_,_,_,_,_,_,NO ⟨_,_,_,Jam al ah,by simp,di⟩⟩
   have ah:Hid (Js env F f1A f2A (.two (tokAt T m).t (tokAt T m).p l e) c=.inr (d.1,g)):=O (by
    rw[bZ];unfold payP;have bj:=I bD;have bz:=I bQ;rw[FY (I N)]at bj;rw[FU (by rw[N];simp),FU (by omega),<-bz,bj,Pj])
   have cZ:Hid (IsArr (PE w X PD) wi (aK a1 a2 a3 s f y) d.1):=O (by
    have:=I cq;rw[FY (I N)]at this;exact this)
   have am:decide (F<((g:Nat):Int))=false:=by simpa using ac
   go_wp2_with fail;go_quiet (fail);obtain⟨P,r⟩:=nm (wi.drewN nq);have aa:Hid (ESt W0 yb (some (U q A)) T.length cap w X ((j1:Int)-1) ((g:Nat):Int) 0 0 a1 a2 a3 s f y P):=O (r▸C.below (Below.drewN aS nq));have c6:Hid (IsArr (PE w X PD) P (aK a1 a2 a3 s f y) d.1):=O (r▸J9 cZ (Below.drewN aS nq));rw[r];clear r am ac bd bc bt aj;go_wp2;go_roundg j1
   case measure=>have:=I hjg;have:=I bi;omega
   exact⟨_,_,_,_,_,_,NN ⟨j1,_,d.1,g,al,ah,FP _,aa,c6⟩⟩
  have a7:=O (Qt a6 W0.1.size d.2 b 0 B.wok.lt B.wok.c4 B.wok.c5 (B.wok.fr 4) (B.wok.fr 5) N);change Hid _ at N;go_upto_region 17 with(go_at_call 88;refine aR a7 fun af R=>?_;subst R);obtain⟨af,R⟩:=nm ((a6.setCell (U W0.1.size 4) (G d.2)).setCell (U W0.1.size 5) (G b));have ax:Hid (ESt W0 yb (some (U q A)) T.length cap w X ((j1:Int)-1) ((n:Nat):Int) d.2 ((b:Nat):Int) a1 a2 a3 s f y af):=O (by
   rw[<-R];exact B.bsk (Y7 (i:=5) (u:=G b) (Y7 (i:=4) (u:=G d.2) (Bs.of aS))) (B.wok.set45 d.2 b))
  have cX:Hid (IsArr (PE w X PD) af (aK a1 a2 a3 s f y) (if d.2=0 then d.1 else eArr)):=O (by
   have aV:=B.lt0;have bl:¬ PE w X PD W0.1.size:=fun hh=>by
    rcases hh with hh|hh
    .have:=HC.pd _ hh;omega
    omega
   rw[<-R];exact J5 (J5 bP bl _ _) bl _ _)
  have cS:af.cell? (U z 1)=some (G b):=by
   rw[<-R,celO (by omega),celO (by omega)];exact n1
  rw[R];clear R n1 a7;have c3:=ax.wok.c3;have bW:=ax.wok.fr 3;have x1:=ax.x1;have br:IntKind.i64.wrap ((n:Int)+1)=((n+1:Nat):Int):=by rw[ZW];unfold wrap64;omega
  have an:IntKind.i64.wrap (((n+1:Nat):Int)+(f:Int))=((n+1+f:Nat):Int):=by rw[ZW];unfold wrap64;omega
  obtain⟨bS,bf⟩:=nm (n+1);obtain⟨g,bg⟩:=nm (bS+f);rw[bf]at br an;rw[bg]at an;go_cut [5]from 11 to 144 (fun cg av=>cg=G d.2/\av=(af.setCell (U W0.1.size 3) (G ((g:Nat):Int))).drew)
  .go_region_law (fail)
   all_goals
    go_wp2;go_meet;exact⟨rfl,rfl⟩
  obtain⟨rfl,D⟩:=hcut;rename World=>wi;have bQ:Hid (n+1+f=g):=O (by omega);have C:Hid (ESt W0 yb (some (U q A)) T.length cap w X ((j1:Int)-1) ((g:Nat):Int) d.2 ((b:Nat):Int) a1 a2 a3 s f y wi):=O (by
   rw[D];exact(ax.bsk (Y7 (i:=3) (u:=G ((g:Nat):Int)) (Bs.of aS)) (ax.wok.set3 ((g:Nat):Int))).below aS.drew)
  have cq:Hid (IsArr (PE w X PD) wi (aK a1 a2 a3 s f y) (if d.2=0 then d.1 else eArr)):=O (by
   rw[D];refine J9 (J5 cX (fun hh=>?_) _ _) aS.drew;have aV:=ax.lt0;rcases hh with hh|hh
   .have:=HC.pd _ hh;omega
   omega)
  have aj:wi.cell? (U z 1)=some (G b):=by
   rw[D];exact celN (by omega) cS
  have bd:=C.wok.c3;have bc:=C.wok.c0;have bt:=cu wi C.bel;clear D bf bg c3 bW x1 br an cS;have ah:Hid (Js env F f1A f2A (.two (tokAt T m).t (tokAt T m).p l e) c=.inl (d.2,b)):=O (by
   rw[bZ];unfold payP;rw[FY (I N)])
  by_cases ac:F<((g:Nat):Int)
  .skip
   have am:decide (F<((g:Nat):Int))=true:=by simpa using ac
   go_wp2_with fail;go_quiet (fail);obtain⟨P,r⟩:=nm (wi.drewN nq);have aa:Hid (ESt W0 yb (some (U q A)) T.length cap w X ((j1:Int)-1) ((g:Nat):Int) d.2 ((b:Nat):Int) a1 a2 a3 s f y P):=O (r▸C.below (Below.drewN aS nq));have cT:aB P z 1 (G b):=r▸aj;have bu:=O (Fi P W0.1.size 10 b d.2 aa.wok.lt aa.wok.c4 N);rw[r];clear r am ac bd bc bt aj;go_wp2_with (go_at_call 88;refine aR bu fun H Y=>?_);try rw[Y]
   try subst Y
   go_roundg j1
   case measure=>have:=I hjg;have:=I bi;omega
   exact⟨_,_,_,_,_,_,NO ⟨_,_,_,Jam al ah,N,aa⟩⟩
  have am:decide (F<((g:Nat):Int))=false:=by simpa using ac
  go_wp2_with fail;go_quiet (fail);obtain⟨P,r⟩:=nm (wi.drewN nq);have aa:Hid (ESt W0 yb (some (U q A)) T.length cap w X ((j1:Int)-1) ((g:Nat):Int) d.2 ((b:Nat):Int) a1 a2 a3 s f y P):=O (r▸C.below (Below.drewN aS nq));have cT:aB P z 1 (G b):=r▸aj;have bu:=O (Fi P W0.1.size 10 b d.2 aa.wok.lt aa.wok.c4 N);rw[r];clear r am ac bd bc bt aj;go_wp2;go_roundg j1
  case measure=>have:=I hjg;have:=I bi;omega
  exact⟨_,_,_,_,_,_,NO ⟨_,_,_,Jam al ah,N,aa⟩⟩
end Go.Proofs.YtjobgpahajhbnaaGreatDoor
