import PyProof.Rows.All
import Wide.All
import OpenK.AllK
import Wide.FinOn
import PySem.Challenge.RW_carpetkin_k23_programs_read
set_option Elab.async false
structure PySem.W.Fast:Prop where(tw2116876900765084340 tw11970580731531949122 tw10010636047554785084 tw823827324993178203 tw11826808055707610982 tw15554676619039568953 tw6517164781792808457 tw14715237825277795948 tw17435816622525414939 tw7575643429145096626 tw10485280984383174173 tw7531087960263517408 tw219070557673894132 tw5811252095403441829 tw16754608578269424753 tw7100575238215884314 tw18125837510060564983 tw13625011183197537492 tw11121199571226851160 tw5680446932579441684 tw15212553864867173510 tw6213289690854297261 tw10978430702755138535 tw10689987183924846447 tw12149301663049098418 tw18197344495062193440 tw2192458732419703043 tw4685470912287066787 tw18219317514930528085 tw7246540108274684177 tw14354827212143349217 tw2536795960280225799 tw16009185518905999150 tw10419357076550643484 tw1260048934199747161 tw1983042838852522667 tw14248364721359985928 tw729498844233966139 tw3378205671269165925 tw10194344085295856936 tw14759285955513888504 tw15220692779442500220 tw13423320903965074997 tw8548868556347288031 tw9009456002258175448 tw7223566018816514993 tw7061306971394238369 tw17774520278131617142 tw9831540569715124921 tw2992249936795450660 tw15062950980528426171 tw17394317248226364776 tw16463978050278729104 tw4445773330086834808 tw12088391406412950177 tw13630375237390518906 tw5820942350802483895 tw5705221217311381042 tw1336172882577232497 tw5069009929655141612 tw1790416309972368269 tw14503631714617750867 tw3228818908098558420 tw7939423142751469034 tw3839582266407354991 tw5433923510056717412 tw4273295684623556967 tw14115747922092593 tw15091873540249897501 tw1681722025524432121 tw9202483755233841782 tw3398819356066795540 tw8972587274594483893 tw10222211513959732772 tw9761062544045423947 tw10754495721765163026 tw1349860385013233126 tw14303733808805850294 tw11030212388390393631 tw13451713185754003359 tw2797409137167739366 tw1698979194648338390 tw14922321391300207414 tw3501133457439260304 tw12980131080588590045 tw7041727153989685857 tw12904577339012016881 tw8436643820843004246 tw11831932835916021662 tw16497455174780118857 tw1531243244493778443 tw8565291097578659779 tw9851554310615379529 tw12517387103859158799 tw1184806491134722030 tw15182762378954220027 tw4898135582554198679 tw4858800254851010117 tw5002781714599443116 tw12146022607576782698 tw1264707800794671008 tw12550684749005205505 tw14726469754604048717 tw1678744895130746494 tw8654514630770031287 tw9043769777137784421 tw14189520370299927290 tw14302100734161629934 tw3997542317598778568 tw995977459782713641 tw16968443338251739463 tw12730962396499712925 tw16372618604310847707 tw883201036743368174 tw10765210513919093839 tw9669759508637155874 tw18228158774341436970 tw16628051618671958731 tw3492765468316190309 tw5612366888696141958 tw14270174319574510226 tw14775615954373004761 tw13471504991675022459 tw9536505887703802046 tw17193408938736340378 tw752159217358184325 tw7998998822772007013 tw12422353966042061047 tw16930980721306698101 tw8851417109177689136 tw5005895603283446564 tw920884926090243882 tw9153394834312135023 tw16476820877137220317 tw16532535808446175141 tw10960659225646740091 tw1801072277800634788 tw12910406321009785419 tw7344715869465222826 tw2704754434805996525 tw17836102973550551891 tw14020804800474507749 tw16734463226499002729 tw5085754788989102937 tw6487465315842091110 tw127263292725288776 tw15087128069430534564 tw6717777181499424758 tw5758564707909540486 tw6409564034634561299 tw3027738030514117957 tw5806560968171626833 tw6575863550806225622 tw11965399142102896626 tw7456640796386280532 tw15434554115221931081 tw2227553094218678446 tw17945401066337050769 tw13040467632348948854 tw3083343225721849365 tw18318555128885772804 tw4907384474768655343 tw11828086417446401629 tw8962111021991665966 tw1679057430926091139 tw14954334212795784789 tw12768937027048187763 tw8360559114279662201 tw5350042226160274876 tw2112864170097769001 tw1111037054732198419 tw7605616704843659172 tw14341109738511067437 tw6008669193319451038 tw8918180543336703632 tw6883232107509713228 tw7126471601072138386 tw299328738235993803 tw16894606324737059579 tw13778556284848066629 tw12598450830225276673 tw10756688054290318586 tw2601869364293736790 tw12660248396889330533 tw12263153892640664092 tw12220415726820592342 tw6638062124543708744 tw16175709656603400318 tw2138616642332390411 tw9210896468139450813 tw16716290539392458319 tw11489844495127587146 tw431783876883711291 tw47790735019587912 tw9778025072721657275 tw8897541735084639660 tw5116246450742530224 tw4603825595327866502 tw432567316298587921 tw16551493265264453147 tw12839101244435988543 tw12188363271414718061 tw18111627525572394077 tw9087601080591216093 tw2906643310925782060 tw10761274967217528364 tw1259166215844296267 tw10265950529995319930 tw7543409585565761346 tw17944773742473054408 tw12045470851421676082 tw11774639809478364003 tw9419843941931112753 tw17046170539878447152 tw5396569788573313244 tw3808068041464337994 tw4169944299838508453 tw16970900618492791189 tw7987446755168007892 tw6866765728252775588 tw11287556191797324365 tw7902196488139375697 tw11878932417885445958 tw12500695469133217762 tw6003207285746915306 tw16569793301361406788 tw10122338578547730692 tw3686915204956400386 tw4282145611404701328 tw4293608699395128755 tw13081039575498224780 tw3630300085846087306 tw13969407586805569660 tw11058098315764026907 tw3252226422089736990 tw11129778274740995236 tw13391795494163219967 tw15007112173334959947 tw6735674947046892239 tw13372953581243605993 tw11895869883406226480 tw17230694693315760442 tw13258013063987181993 tw12691887965027795621 tw5361096464898468160:True)
set_option maxRecDepth 100000
set_option maxHeartbeats 0
open_top topX for PySem.Challenge.rw_carpetkin_k23_programs_read
set_option hygiene false
local macro_rules
|`(tactic|simp! [$a,*])=>`(tactic|simp (disch:=omega) only [$a,*])
|`(tactic|simp! [$a,*] at $l:ident)=>`(tactic|simp (disch:=omega) only [$a,*] at $l:ident)
local macro_rules
|`(tactic|ext a)=>`(tactic|(refine a0D (d5 p6 O.kc_Plain O.fi_Plain_text (by lia) rfl (d5 p5 O.kc_Named O.fi_Named_text (by lia) rfl (d5 g.Za5 O.kc_Beside O.fi_Beside_text (by lia) rfl (d5 g.Zbe O.kc_Above O.fi_Above_text (by lia) rfl (d5 g.Za6 O.kc_Across O.fi_Across_text (by lia) rfl (d5 g.Zbj O.kc_Down O.fi_Down_text (by lia) rfl (d5 g.Za7 O.kc_Turned O.fi_Turned_text (by lia) rfl (d5 g.Zbk O.kc_Dyed O.fi_Dyed_text (by lia) rfl M8)))))))) hr ?_))
|`(tactic|ext b)=>`(tactic|(refine b6 ?_ ?_))
|`(tactic|ext c)=>`(tactic|(refine a0D (d5 p6 O.kc_Plain O.fi_Plain_text (by decide) rfl (d5 p5 O.kc_Named O.fi_Named_text (by decide) rfl (d5 Za5 O.kc_Beside O.fi_Beside_text (by decide) rfl (d5 Zbe O.kc_Above O.fi_Above_text (by decide) rfl (d5 Za6 O.kc_Across O.fi_Across_text (by decide) rfl (d5 Zbj O.kc_Down O.fi_Down_text (by decide) rfl (d5 Za7 O.kc_Turned O.fi_Turned_text (by decide) rfl (d5 Zbk O.kc_Dyed O.fi_Dyed_text (by decide) rfl M8)))))))) hr ?_))
|`(tactic|ext d)=>`(tactic|(intro pins s σ H x y v u Q I rx ry h;obtain⟨F,ra,rb,rz,s0,h1,h2,h3,k⟩:=h))
|`(tactic|ext e)=>`(tactic|(obtain⟨rx,e1,hm⟩:=bind_some hm;obtain⟨ry,e2,hm⟩:=bind_some hm;refine⟨F,ρ,rx,he,e1,λv F1 H1 o1=>⟨?_,⟨F1,ρ,ry,he.ext o1.x,e2,λu F2 H2 o2=>⟨F2,u,rx,ry,r,rfl,o2.x.fh,o1.rep.ext o2.x,o2.rep,hm,λz F3 H3 o3=>k z F3 H3 (B5.trans (o1.x.trans o2.x) o3)⟩⟩⟩⟩))
|`(tactic|ext f)=>`(tactic|(intro pins s σ H xs us Q I rv h;obtain⟨F,x,rx,rz,rfl,s0,h1,h2,k⟩:=h))
|`(tactic|ext g)=>`(tactic|(obtain⟨rx,e1,hm⟩:=bind_some hm;obtain⟨ry,e2,hm⟩:=bind_some hm;obtain⟨rz,e3,hm⟩:=bind_some hm;refine⟨F,ρ,rx,he,e1,λv F1 H1 o1=>⟨?_,⟨F1,ρ,ry,he.ext o1.x,e2,λu F2 H2 o2=>⟨F2,ρ,rz,(he.ext o1.x).ext o2.x,e3,λw F3 H3 o3=>⟨F3,u,w,rx,ry,rz,r,rfl,o3.x.fh,(o1.rep.ext o2.x).ext o3.x,o2.rep.ext o3.x,o3.rep,hm,λz F4 H4 o4=>k z F4 H4 (B5.trans ((o1.x.trans o2.x).trans o3.x) o4)⟩⟩⟩⟩⟩))
|`(tactic|ext h)=>`(tactic|(intro X hP hw hK hc i pins s σ H E I hf st hg;subst hP hw hK))
|`(tactic|ext i)=>`(tactic|(intro X hP hw hK hc i pins s σ H E I hf ⟨hz,hI,⟨a,b,hO⟩,s1,s2⟩ hg;subst hP hw hK;have hd:X.A.handled=ζ:=I.ok.hd hc))
|`(tactic|ext j)=>`(tactic|(refine d0 ?_;refine d7 ?_))
|`(tactic|ext k)=>`(tactic|(obtain⟨its2,rv2,pl2,_⟩:=I.list q2;have pt2:=pl2.isList;have e1:=rv1.length;have e2:=rv2.length))
|`(tactic|ext l)=>`(tactic|(have q:∀(z:String) (l:List Nat),AD z=S l→∀(w:List Nat) (v:PV),o9 (.v v) (.v (.int 0))=ξ (.v (row w))→x9 (m2 B7 (m2 o9 (b0 0) (mC (.int 0))) (mC (.str (AD z)))) [ξ (.v v)]=ξ (w==l):=λz l hz w v hv=>W6 (r:= .v (row w)) (q:= .v (row l)) (Y8 rfl rfl hv) (T1 hz _) (a1I w l)))
|`(tactic|ext m)=>`(tactic|(rw [G9] at ok))
|`(tactic|ext n)=>`(tactic|(obtain⟨f0,f1,f2,f3,f4,f5⟩:=hf it (by simp)))
|`(tactic|ext o)=>`(tactic|(rw [show its.toArray.any (a4Q X.K H ra.rd)=its.any (a4Q X.K H ra.rd) by simp,a3t I rH rv c.2]))
|`(tactic|ext p)=>`(tactic|(rename_i ps qs;cases e2;refine⟨F,ρ,_,so.e,e3,λvs F1 H1 xx rl=> ?_⟩;obtain⟨v,r,rfl,rq,rr⟩:=rl;obtain⟨v',r',rfl,rq',rr'⟩:=rr;cases rr';obtain⟨a1,xs,rfl,h1,r1⟩:=rq;obtain⟨b1,ys,rfl,h2,r2⟩:=rq'))
|`(tactic|ext q)=>`(tactic|(intro pins s σ H x y v u Q I rx ry h))
|`(tactic|ext r)=>`(tactic|(have gl:x8 (.v (.list (L.map row)))=ξ (.v (.int (L.length:Nat))):=by rw [R5,AY]))
|`(tactic|ext s)=>`(tactic|(intro pins s σ H Q I h))
|`(tactic|ext t)=>`(tactic|(obtain⟨t,rfl⟩:=rx;obtain⟨t',rfl⟩:=ry))
|`(tactic|ext u)=>`(tactic|(subst w1 w2;refine wpAny_letOwnedTupleGo_zip a1 λh2 hz2 hs2=> ?_;have zlt:z<s.heap.objs.size:=AW hz;have htup:h2.get? s.heap.objs.size=ξ {cls:= .type "tuple",data:= .seq #[v1,v2]}:=(hs2.2 _ (Nat.ne_of_gt zlt)).trans a5))
|`(tactic|ext v)=>`(tactic|(refine j9 ?_ ?_ ?_))
|`(tactic|ext w)=>`(tactic|(intro pins s σ H x xs v us Q I rx rv h;obtain⟨F,y,ra,rb,rz,rfl,s0,h1,h2,h3,k⟩:=h;obtain⟨u,rfl,ru⟩:=a3i rv))
|`(tactic|ext x)=>`(tactic|(cases h3;cases h1;cases h2))
|`(tactic|ext y)=>`(tactic|(unfold y6;simp only [List.append_assoc,Ac,Aa]))
local macro_rules
|`(tactic|ext z)=>`(tactic|(intro pins s σ H x v vl vu lo hi sl Q I rx hs pl pu h;obtain⟨a,xs,rfl,hx,hw,q⟩:=h;cases rx;obtain⟨its,r,ht,hz⟩:=I.tuple hx;have hlen:its.toArray.size=xs.length:=by rw [Ar];exact r.length.symm))
|`(tactic|ext aa)=>`(tactic|(obtain⟨o,e,c,d⟩:=st;exact⟨o,e,λv z=>by rw [d] at z;cases z⟩))
|`(tactic|ext ab)=>`(tactic|(simp only [Ah,List.not_mem_nil,or_false] at hb))
|`(tactic|ext ac)=>`(tactic|(obtain⟨F,ρ,r,he,hm,k⟩:=h;obtain⟨rx,e1,hm⟩:=bind_some hm;obtain⟨ry,e2,hm⟩:=bind_some hm))
|`(tactic|ext ad)=>`(tactic|(rw [m5] at hl ⊢;have l1:=M3 hl;have l2:=M3 l1;have l3:=M3 l2))
|`(tactic|ext ae)=>`(tactic|(refine(J8 (ad _ _ _ _ rfl rfl (by decide))).trans ?_))
|`(tactic|ext af)=>`(tactic|(have he:=b3t (A:=A.in1) (s:=s) r r' rv rv' λp q x y u w hp' hq' rp' rq' rx' ry'=>ih A.in1 p q x y u w hu1 (Z5 okp hp') (Z5 okq hq') rp' rq' rx' ry';simp only [PyData.eqv]))
|`(tactic|ext ag)=>`(tactic|(have lw:=len;simp only [y6,AQ,AO,AX] at lw;have rd:=a9h ok dp (by simp only [moR];lia)))
|`(tactic|ext ah)=>`(tactic|(rename_i a b i;cases h4;cases h1;cases h2;cases h3;obtain⟨t,rfl⟩:=rx;obtain⟨t2,rfl⟩:=ru;obtain⟨t3,rfl⟩:=ru2))
|`(tactic|ext ai)=>`(tactic|(cases ru;obtain⟨_,_,_,_,o,_,_,e1,e2,_⟩:=I.hok a _ hq;exact PySem.W.kia_one PySem.W.kitx_dict I.kIn ⟨o,e1,e2.1⟩ kk (λz=>nomatch z) fin))
|`(tactic|ext aj)=>`(tactic|(obtain⟨rx,e1,h2⟩:=bind_some h2;refine⟨F,ρ,rx,h1,e1,λv F1 H1 o=> ?_⟩))
|`(tactic|ext ak)=>`(tactic|(have nn:=c1X r;obtain⟨w,iw,kw⟩:=c4n r;have qk:=a1I w M1;rw [kw] at qk;have qn:=c14 i L.length;have nb:=c10 (isK r) (decide (i+1=L.length))))
|`(tactic|ext al)=>`(tactic|(have lt:E2 [z8 m]=ξ (.v (row (m5 m))):=lt;simp only [y6,AQ,AO,AX] at len))
|`(tactic|ext am)=>`(tactic|(rw [show a2w f v ((k,x)::r)=(if k=f then(k,v)::r else(k,x)::a2w f v r) from rfl]))
|`(tactic|ext an)=>`(tactic|(obtain⟨j,h1,h2,h3,h4,h5⟩:=b02 he;obtain⟨w,ew,rw'⟩:=r.get h2;have hl:=r.length;have hn:=a6Z;have fin:EP X pins σ Q w s:=⟨z,H,I,rw',q⟩))
|`(tactic|ext ao)=>`(tactic|(refine j9 (PW.pt (E8 (l7 (m4 hu) (e9 1) b7) (B3 (l7 (m4 hu) (e9 1) b7)))) ?_ ?_))
|`(tactic|ext ap)=>`(tactic|(exact k _ F H (B5.here s0 rfl)))
|`(tactic|ext aq)=>`(tactic|(have s1:AD "beside"=S C7:=by decide+kernel))
|`(tactic|ext ar)=>`(tactic|(refine c9 d9 ?_ ?_))
|`(tactic|ext au)=>`(tactic|(exact(d0 (d7 L4))))
|`(tactic|ext av)=>`(tactic|(simp only [Ah,List.not_mem_nil,or_false,not_or] at hc))
|`(tactic|ext aw)=>`(tactic|(intro value slice pins s σ H x y v u Q I rx ry h hs))
|`(tactic|ext ax)=>`(tactic|(obtain⟨ps,e1,e⟩:=bind_some e;obtain⟨qs,e1,e2⟩:=bind_some e1;refine⟨F,ρ,qs,so.e,e1,λvs F1 H1 x rl=> ?_⟩;split at e2))
|`(tactic|ext ay)=>`(tactic|(obtain⟨b,ys,rfl,hs',r'⟩:=rq;cases ry;obtain⟨its2,rv',pl',hz'⟩:=I.tuple hs'.sq;cases rp;obtain⟨t,rfl⟩:=rx;simp only [PyData.eqv]))
|`(tactic|ext az)=>`(tactic|(exact k.extBut _ _ (by rw [hb];exact Ne.symm n') e))
local macro_rules
|`(tactic|ext a0)=>`(tactic|(exact k.extBut _ _ (by rw [hb];exact Ne.symm n) e))
|`(tactic|ext a1)=>`(tactic|(obtain⟨b,ys,rfl,hs',r'⟩:=rq;cases ry;obtain⟨its2,rv',pl',hz'⟩:=I.list hs';cases rp;obtain⟨t,rfl⟩:=rx;simp only [PyData.eqv]))
|`(tactic|ext a2)=>`(tactic|(rw [m5,K0] at hl;simp only [AQ,AO,AX] at hl))
|`(tactic|ext a3)=>`(tactic|(refine AG ?_;refine AG ?_;refine z.2.1.at ?_;simp only [Bool.not_true,if_false,BD];refine AG ?_;refine z3.at ?_))
|`(tactic|ext a4)=>`(tactic|(rw [B2] at h;rw [m5];exact B0 (B0 (B0 (B0 (by decide) (b8R ok.2.1)) (by decide)) (a5O n p (by lia) ok.2.2)) (by decide)))
|`(tactic|ext a5)=>`(tactic|(exact(a0X (a6S rfl rfl rfl Zcz hr (by decide) (b4 f9) (a9 (e9 3) c7) (λpins σ H s a C dd I x h0 hn e=>a0L I x h0 hn e)))))
|`(tactic|ext a6)=>`(tactic|(exact adI rfl (md (md (ml rfl (by lia)) rfl (by lia)) rfl (by lia))))
|`(tactic|ext a7)=>`(tactic|(have fz:∀(nn:MS) (a b c d:Option g0) (p:PV),a2t 4 nn [a,b,c,d,ξ (.v p)]=nn [a,b,c,d,ξ (.v p)]:=λ_ _ _ _ _ _=>rfl))
|`(tactic|ext a8)=>`(tactic|(obtain⟨b,ys,rfl,hs',r'⟩:=rq;cases ry;obtain⟨its2,rv',pl',hz'⟩:=I.tuple hs'.sq;cases rp;cases rx;simp only [PyData.eqv]))
|`(tactic|ext a9)=>`(tactic|(intro pins s σ H D I h))
|`(tactic|ext ba)=>`(tactic|(obtain⟨b,ys,rfl,hs',r'⟩:=rq;cases ry))
|`(tactic|ext bb)=>`(tactic|(rw [s0,s9];simp! [r9,k7,p8,j7,j0,j8,l9,u0,B9,p0,A7,n8,u9,o8,v7,AM,AT,Ae,Ag,Ab,Al,Ac,Aa,Ai,Aj,a74,a75,e]))
|`(tactic|ext bc)=>`(tactic|(simp! [a12,t7,r9,k7,p8,j7,j0,j8,l9,u0,B9,r6,w4,x6,b3e,AM,An,Ai,Aj,W4,a1m,rg,a1y,U1,decide_eq_true h4,a7h]))
|`(tactic|ext bd)=>`(tactic|(have hlt:b<h.objs.size:=AW e;refine c.keep b o (u.keep b o e hn hf hx) (λm=> ?_) λm=>by rw [hex b m] at e;cases e))
|`(tactic|ext be)=>`(tactic|(rw [if_neg Ao];unfold PySem.W.kitOne at e;rw [q,if_neg Ao] at e;have z:=PySem.W.kit_cls (M:=model prog w) kin e))
|`(tactic|ext bf)=>`(tactic|(have rd:J5 [row (m5 m)]=ξ (.v (A6 m)):=rd;have nn:=b4h m))
|`(tactic|ext bg)=>`(tactic|(obtain⟨b,ys,rfl,hs',r'⟩:=rq;cases ry;obtain⟨its2,rv',pl',hz'⟩:=I.list hs';cases rp;cases rx;simp only [PyData.eqv]))
|`(tactic|ext bh)=>`(tactic|(rename_i c;cases h3))
|`(tactic|ext bi)=>`(tactic|(obtain⟨u,rfl,ru⟩:=a3i rv))
|`(tactic|ext bj)=>`(tactic|(exact(d0 (d7 (c9 d9 (c9 d9 b7 (i8 g.Zbx hr (by lia) rfl (b4 f9) (a9 (C9 O.fld_parts (e9 0)) c7))) b7)))))
local macro_rules
|`(tactic|exists z0,$k,$s,$e)=>`(tactic|(refine n6 (k:=$k) D $s (λ_ _ _ _ _ _=>$e) λf cdv A outer s H E hr=> ?_;have S:=$s;have hu:=hr.units))
|`(tactic|exists z1,$k,$s,$e)=>`(tactic|(refine b5f (k:=$k) D $s (λ_ _ _ _ _ _=>$e) λf cdv A outer s H E hr hx=> ?_;have S:=$s;have hu:=hr.units))
|`(tactic|exists z2,$k,$s,$e)=>`(tactic|(refine P0 (k:=$k) D $s (λ_ _ _ _ _ _=>$e) λcdv A outer s H E hr=> ?_;have S:=$s;have hu:=hr.units))
|`(tactic|exists y0,$y,$n,$i,$d)=>`(tactic|refine a4C (ys:=$y) (N0:=$n) (λ_ _ h=>h) ?_ ⟨by kernel_rfl,rfl,of_decide_eq_true rfl,of_decide_eq_true rfl,of_decide_eq_true rfl⟩ ?_ (λC fp pins s H=>C6 (i:=$i) $d rfl (Or.inl rfl)) (λn h=>N8 (i:=$i) (Nat.le_of_eq h)) (λC fp pins s H=>a3H) ?_)
set_option linter.all false
noncomputable section
open PySem renaming Addr->AA,Value->AB,Shared->AC,Expr->AF,wpAny_bind->AG,wpAny->AH,starEach->AI,World->AJ,Program->AK,Around->AL,sizeLine->AN,wpAny_pure->AR
open PySem.Str renaming ofString->AD
open PySem.W renaming Frag->AE
open Option renaming bind_some->AM,map_some->An
open List renaming length_cons->AO,length_append->AQ,map_cons->AT,replicate->AU,length_nil->AX,length_map->AY,mem_cons_self->AZ,nil_append->Aa,replicate_zero->Ab,cons_append->Ac,map_nil->Ae,mem_cons_of_mem->Af,replicate_succ->Ag,mem_cons->Ah,set_cons_zero->Ai,set_cons_succ->Aj,append_nil->Al,range->Aq,size_toArray->Ar,getElem?_eq_some_iff->Au,mem_append->Av,getElem?_map->Aw,map_append->Ax,mem_append_right->Ay,mem_map->BA,getElem?_append_left->BB,map_map->BC,mem_of_getElem?->BE,getElem?_eq_getElem->BF,mem_append_left->BG,length_range->BI,getElem?_set_self->BJ
open PySem.Heap renaming get?_push_of_some->AS,lt_size->AW,get?_push_size->Am
open Nat renaming le_refl->AV,ne_of_lt->Ak,lt_of_lt_of_le->As,reduceLeDiff->Az,le_of_lt->BH
open Bool renaming false_ne_true->Ao,false_eq_true->BD
open Int renaming toNat_natCast->BK
open Option renaming some→ξ,none→ζ
theorem ω{α:Sort _}{a:α}:a=a:=Eq.trans rfl rfl
abbrev Δ(x:PySem.Str):Prop:=(x==("__debug__":PySem.Str))=false
abbrev Υ:=Option
open PySem.PyData renaming eqv->η
open PySem.PyData renaming eqvAll->θ
open Bool renaming and_eq_true->χ
abbrev ϡa:PySem.Str:="_law_carpet_here"
abbrev ϡb:PySem.Str:="_law_letters_here"
abbrev ϡc:PySem.Str:="_law_found"
abbrev ϡd:PySem.Str:="_law_wish"
abbrev ϡe:PySem.Str:="_law_goal_here"
abbrev ϡf:PySem.Str:="_law_movement_here"
abbrev ϡg:PySem.Str:="_law_due_here"
abbrev ϡh:PySem.Str:="_law_knots"
abbrev ϡi:PySem.Str:="_law_cell"
abbrev ϡj:PySem.Str:="_law_n"
open PySem PySem.Spec PyProof.Rows
namespace L2
abbrev Ψ(e:PySem.Expr)(es:List PySem.Expr)(v:PySem.Env):Prop:=AI (e::es) v=(false,eval e v)::AI es v
abbrev Φ₁(p:PySem.Pos)(es:List PySem.Expr)(v:PySem.Env):Prop:=(backTo p (AI es v)).any (·.1)=false
theorem δ{p:Prop}[Decidable p](h:decide p=true):p:=of_decide_eq_true h
theorem z9{α β γ:Type _}{p q r:α->β->γ->Prop}{C:Prop}(h:∃a b c,p a b c/\q a b c/\r a b c)(k:∀a b c,p a b c->q a b c->r a b c->C):C:=
 h.elim λa h=>h.elim λb h=>h.elim λc h=>k a b c h.1 h.2.1 h.2.2
theorem w8{α β:Type _}{p q r:α->β->Prop}{C:Prop}(h:∃a b,p a b/\q a b/\r a b)(k:∀a b,p a b->q a b->r a b->C):C:=
 h.elim λa h=>h.elim λb h=>k a b h.1 h.2.1 h.2.2
theorem a71{α β:Type _}{p q r s:α->β->Prop}{C:Prop}(h:∃a b,p a b/\q a b/\r a b/\s a b)(k:∀a b,p a b->q a b->r a b->s a b->C):C:=
 h.elim λa h=>h.elim λb h=>k a b h.1 h.2.1 h.2.2.1 h.2.2.2
abbrev Q8:=Sum Int Str
def b0x:Q8->AB->Bool
 | .inl k,v=>Value.isInt k v
 | .inr x,v=>Value.isStrOf x v
def c48(w:AJ):Q8->Int
 | .inl k=>hashInt k
 | .inr x=>hashStr w x
theorem J6:∀{k:Q8} {v:AB},b0x k v=true->(∃i t,k=Sum.inl i/\v=Value.int i t)\/(∃x t,k=Sum.inr x/\v=Value.str x t)
 | .inl i,v,h=>by
   obtain⟨t,e⟩:=Value.isInt_shape (k:=i) (v:=v) h;exact .inl ⟨i,t,rfl,e⟩
 | .inr x,v,h=>by
   obtain⟨t,e⟩:=Value.isStrOf_shape (x:=x) (v:=v) h;exact .inr ⟨x,t,rfl,e⟩
theorem b6q(i:Int)(t:Tok):b0x (.inl i) (.int i t)=true:=by simp [b0x,Value.isInt]
theorem b6r(x:Str)(t:Tok):b0x (.inr x) (.str x t)=true:=by simp [b0x,Value.isStrOf]
theorem c2X(a b:Int):decide ((Sum.inl a:Q8)=Sum.inl b)=(a==b):=by
 by_cases e:a=b
 ·subst e;simp
 ·have h:¬(Sum.inl a:Q8)=Sum.inl b:=λq=>e (Sum.inl.inj q);rw [decide_eq_false h];exact(beq_eq_false_iff_ne.mpr e).symm
theorem c20(a b:Str):decide ((Sum.inr a:Q8)=Sum.inr b)=decide (a=b):=by
 by_cases e:a=b
 ·subst e;simp
 ·have h:¬(Sum.inr a:Q8)=Sum.inr b:=λq=>e (Sum.inr.inj q);rw [decide_eq_false h,decide_eq_false e]
theorem c2Y(a:Int)(b:Str):decide ((Sum.inl a:Q8)=Sum.inr b)=false:=decide_eq_false (λq=>nomatch q)
theorem c2Z(a:Str)(b:Int):decide ((Sum.inr a:Q8)=Sum.inl b)=false:=decide_eq_false (λq=>nomatch q)
def R6(prog:AK)(w:AJ):PySem.KeyKind prog w Q8 where
 is:=b0x
 hash:=c48 w
 inj:=λv a b ha hb=>by
  rcases J6 ha with⟨i,t,rfl,rfl⟩|⟨x,t,rfl,rfl⟩
  ·rcases J6 hb with⟨j,u,rfl,e⟩|⟨y,u,rfl,e⟩
   ·injection e with e1 _;rw [e1]
   ·exact nomatch e
  ·rcases J6 hb with⟨j,u,rfl,e⟩|⟨y,u,rfl,e⟩
   ·exact nomatch e
   ·injection e with e1 _;rw [e1]
 byValue:=λk v h=>by
   rcases J6 h with⟨i,t,rfl,rfl⟩|⟨x,t,rfl,rfl⟩<;>rfl
 pyHash:=λhv h=>by
  rcases J6 hv with⟨i,t,rfl,rfl⟩|⟨x,t,rfl,rfl⟩
  ·exact wpAny_pyHash_int h
  ·exact wpAny_pyHash_str h
 eqBool:=λhu hv h=>by
  rcases J6 hu with⟨i,t,rfl,rfl⟩|⟨x,t,rfl,rfl⟩
  ·rcases J6 hv with⟨j,u,rfl,rfl⟩|⟨y,u,rfl,rfl⟩
   ·rw [c2X] at h;exact wpAny_eqBool_int h
   ·rw [c2Y] at h;exact SeqAt.EqAt.int_str i t y u _ _ _ _ h
  ·rcases J6 hv with⟨j,u,rfl,rfl⟩|⟨y,u,rfl,rfl⟩
   ·rw [c2Z] at h;exact SeqAt.EqAt.str_int x t j u _ _ _ _ h
   ·rw [c20] at h;exact wpAny_eqBool_str h
 «strs»:=λk x t v h=>by
  rcases J6 h with⟨i,u,rfl,e⟩|⟨y,u,rfl,e⟩
  ·exact nomatch e
  ·injection e with e1 _
   subst e1;cases v<;>rfl
theorem b2U(prog:AK)(w:AJ)(i:Int)(t:Tok):(R6 prog w).is (.inl i) (.int i t)=true:=b6q i t
theorem b2V(prog:AK)(w:AJ)(x:Str)(t:Tok):(R6 prog w).is (.inr x) (.str x t)=true:=b6r x t
inductive V where
 |non|bl (b:Bool)|int (i:Int)|str (x:Str)|byt (b:Array UInt8)|flt (b:UInt64)|ref (a:AA)|ty (n:String)
 deriving DecidableEq
def y4:V->AB->Prop
 | .non,u=>u=Value.none
 | .bl b,u=>u=Value.bool b
 | .int i,u=>∃t,u=Value.int i t
 | .str x,u=>∃t,u=Value.str x t
 | .byt b,u=>∃t,u=Value.bytes b t
 | .flt b,u=>∃t,u=Value.float b t
 | .ref a,u=>u=Value.ref a
 | .ty n,u=>u=Value.type n
abbrev y0:List V->List AB->Prop:=Paired y4
theorem y0.length{xs:List V}{us:List AB}(r:y0 xs us):xs.length=us.length:=Paired.length r
theorem y0.get:∀{xs:List V} {us:List AB} {i:Nat} {x:V},y0 xs us->xs[i]?=ξ x->∃u,us[i]?=ξ u/\y4 x u
 |_,_,_,_,.nil,e=>by simp at e
 |_,_,0,_,.cons r _,e=>by simp at e;subst e;exact⟨_,rfl,r⟩
 |_,_,i+1,x,.cons _ t,e=>by
  obtain⟨u,h1,h2⟩:=y0.get (i:=i) (x:=x) t (by simpa using e)
  exact⟨u,by simpa using h1,h2⟩
theorem y0.append:∀{xs ys:List V} {us ws:List AB},y0 xs us->y0 ys ws->y0 (xs++ys) (us++ws)
 |_,_,_,_,.nil,s=>s
 |_,_,_,_,.cons r t,s=> .cons r (y0.append t s)
theorem y0.take:∀{xs:List V} {us:List AB} (n:Nat),y0 xs us->y0 (xs.take n) (us.take n)
 |_,_,0,_=> .nil
 |_,_,_+1,.nil=> .nil
 |_,_,n+1,.cons r t=> .cons r (y0.take n t)
theorem y0.drop:∀{xs:List V} {us:List AB} (n:Nat),y0 xs us->y0 (xs.drop n) (us.drop n)
 |_,_,0,r=>r
 |_,_,_+1,.nil=> .nil
 |_,_,n+1,.cons _ t=>y0.drop n t
def a3j:Υ V->Υ AB->Prop
 |some v,ξ u=>y4 v u
 |none,ζ=>True
 |_,_=>False
def KV{κ:Type}:List (κ×V)->List (κ×AB)->Prop:=Paired λ(p:κ×V) (q:κ×AB)=>p.1=q.1/\y4 p.2 q.2
def kV:Q8->V
 | .inl i=> .int i
 | .inr x=> .str x
inductive HO where
 |lst (xs:List V)
 |tup (xs:List V)
 |dK (kvs:List (Q8×V))|dT (kvs:List (List Q8×V))
 |set (S:Int->Bool) (n:Nat)
 |ins (C dx:AA) (fs:List (Str×V))
 |own (x:AA)
 |xd (fs:List (Str×V))
 |met (f x:AA)
 |rng (lo hi:Int)
 |frz (o:Obj) (u:HO)
 |tbl (ps:Array AB)
 |ext (φ:Heap->Prop)
abbrev Hp:=AA->Υ HO
def A5(H:Hp)(a:AA)(o:HO):Hp:=λb=>if b=a then ξ o else H b
theorem p9{H:Hp}{a:AA}{o:HO}:A5 H a o a=ξ o:=by unfold A5;rw [if_pos rfl]
theorem l6{H:Hp}{a b:AA}{o:HO}(h:b≠a):A5 H a o b=H b:=by unfold A5;rw [if_neg h]
theorem a8a{H:Hp}{a:AA}{o u:HO}:A5 (A5 H a o) a u=A5 H a u:=by
 funext b;unfold A5;split<;>rfl
theorem n4{H:Hp}{a b:AA}{o:HO}(h:H a=ξ o)(h':H b=ζ):a≠b:=by
 intro e;subst e;rw [h] at h';cases h'
section
variable (P:AK)(w:AJ)
def F9(H:Hp)(h:Heap)(a:AA):HO->Prop
 | .lst xs=>xs.length<=AN/\∃(its:List AB) (n:Nat),y0 xs its/\h.get? a=ξ {cls:= .type "list",data:= .seq its.toArray n}
 | .tup xs=>xs.length<=AN/\∃its:List AB,y0 xs its/\IsTup h a its.toArray
 | .dK kvs=>kvs.length<=AN/\(a==sysModules)=false/\∃vs,KV kvs vs/\h.DictOf (R6 P w) a vs
 | .dT kvs=>kvs.length<=AN/\(a==sysModules)=false/\∃xs:List (List Q8×AA×AB),
  Paired (λ(p:List Q8×V) (q:List Q8×AA×AB)=>p.1=q.1/\H q.2.1=ξ (.tup (p.1.map kV))/\y4 p.2 q.2.2) kvs xs/\
  ∃o es ep,h.get? a=ξ o/\o.ExactDict/\o.data= .dict es ep/\es.toList=xs.map (entryOfKey (tupleKind (R6 P w)))/\(xs.map (·.1)).Nodup
 | .set S n=>h.SetOf (intKind P w) a S n
 | .ins C dx fs=>H dx=ξ (.own a)/\fs.length<=1000/\dx≠a/\h.get? a=ξ (PySem.W.instObj C dx)/\
  ∃mA,h.Ns1 dx mA/\(∀f,a3j (fs.lookup f) (mA f))/\PySem.Within mA (fs.map (·.1))
 | .own _=>∃o,h.get? a=ξ o
 | .xd fs=>∃mA,h.Ns1 a mA/\∀f,a3j (fs.lookup f) (mA f)
 | .rng lo hi=>∃t u v,h.get? a=ξ {cls:= .type "range",data:= .fields #[.int lo t,.int hi u,.int 1 v]}
 | .frz o u=>h.get? a=ξ o/\F9 H h a u
 | .tbl ps=>h.get? a=ξ {cls:= .none,data:= .fields ps}
 | .met f x=>h.get? a=ξ (PySem.W.methodObj (.ref f) (.ref x))
 | .ext φ=>φ h/\(∃o,h.get? a=ξ o)/\∀h1 h2:Heap,φ h1->(∀o,h1.get? a=ξ o->h2.get? a=ξ o)->φ h2
def HOk(H:Hp)(h:Heap):Prop:=∀a o,H a=ξ o->F9 P w H h a o
end
section
variable {P:AK}{w:AJ}{H H':Hp}{h h':Heap}{a:AA}{o:HO}
theorem F9.lt(x:F9 P w H h a o):a<h.objs.size:=by
 cases o with
 |lst xs=>obtain⟨_,_,_,_,e⟩:=x;exact AW e
 |tup xs=>obtain⟨_,_,_,p⟩:=x;exact p.lt
 |dK kvs=>obtain⟨_,_,_,_,o,_,_,e,_⟩:=x;exact AW e
 |dT kvs=>obtain⟨_,_,_,_,o,_,_,e,_⟩:=x;exact AW e
 |set S n=>obtain⟨o,_,_,_,e,_⟩:=x;exact AW e
 |ins C dx fs=>obtain⟨_,_,_,e,_⟩:=x;exact AW e
 |own y=>obtain⟨_,e⟩:=x;exact AW e
 |xd fs=>obtain⟨_,⟨_,_,_,e,_⟩,_⟩:=x;exact AW e
 |rng lo hi=>obtain⟨_,_,_,e⟩:=x;exact AW e
 |frz ob u=>obtain⟨e,_⟩:=x;exact AW e
 |tbl ps=>exact AW (show h.get? a=ξ _ from x)
 |met f y=>exact AW (show h.get? a=ξ _ from x)
 |ext φ=>obtain⟨_,⟨_,e⟩,_⟩:=x;exact AW e
theorem Paired.mapP{α β:Type}{F G:α->β->Prop}:∀{l₁:List α} {l₂:List β},Paired F l₁ l₂->(∀a b,F a b->G a b)->Paired G l₁ l₂
 |_,_,.nil,_=> .nil
 |_,_,.cons r t,f=> .cons (f _ _ r) (Paired.mapP t f)
theorem F9.stay(x:F9 P w H h a o)(k:∀b u,(b=a\/H b=ξ (.own a))->h.get? b=ξ u->h'.get? b=ξ u)
 (ho:∀b,H b=ξ (.own a)->H' b=ξ (.own a)) (ht:∀b xs,H b=ξ (.tup xs)->H' b=ξ (.tup xs)):F9 P w H' h' a o:=by
 induction o with
 |lst xs=>obtain⟨z,its,n,r,e⟩:=x;exact⟨z,its,n,r,k _ _ (.inl rfl) e⟩
 |tup xs=>obtain⟨z,its,r,ob,e,c⟩:=x;exact⟨z,its,r,ob,k _ _ (.inl rfl) e,c⟩
 |dK kvs=>obtain⟨z,y,vs,r,ob,es,ep,e,c⟩:=x;exact⟨z,y,vs,r,ob,es,ep,k _ _ (.inl rfl) e,c⟩
 |dT kvs=>
  obtain⟨z,y,xs,r,ob,es,ep,e,c⟩:=x
  exact⟨z,y,xs,Paired.mapP r λp q z=>⟨z.1,ht _ _ z.2.1,z.2.2⟩,ob,es,ep,k _ _ (.inl rfl) e,c⟩
 |set S n=>obtain⟨ob,es,ep,t,e,c⟩:=x;exact⟨ob,es,ep,t,k _ _ (.inl rfl) e,c⟩
 |ins C dx fs=>
  obtain⟨d,z,ne,e,mA,⟨od,es,ep,e2,c⟩,r⟩:=x
  exact⟨ho _ d,z,ne,k _ _ (.inl rfl) e,mA,⟨od,es,ep,k _ _ (.inr d) e2,c⟩,r⟩
 |own y=>obtain⟨ob,e⟩:=x;exact⟨ob,k _ _ (.inl rfl) e⟩
 |xd fs=>obtain⟨mA,⟨od,es,ep,e,c⟩,r⟩:=x;exact⟨mA,⟨od,es,ep,k _ _ (.inl rfl) e,c⟩,r⟩
 |rng lo hi=>obtain⟨t,u,v,e⟩:=x;exact⟨t,u,v,k _ _ (.inl rfl) e⟩
 |frz ob u ih=>obtain⟨e,q⟩:=x;exact⟨k _ _ (.inl rfl) e,ih q⟩
 |tbl ps=>
  have e:h.get? a=ξ {cls:= .none,data:= .fields ps}:=x
  show h'.get? a=ξ {cls:= .none,data:= .fields ps}
  exact k a _ (.inl rfl) e
 |met f y=>
  have e:h.get? a=ξ (PySem.W.methodObj (.ref f) (.ref y)):=x
  show h'.get? a=ξ (PySem.W.methodObj (.ref f) (.ref y))
  exact k a _ (.inl rfl) e
 |ext φ=>obtain⟨p,⟨o,e⟩,st⟩:=x;exact⟨st _ _ p λo q=>k _ _ (.inl rfl) q,⟨o,k _ _ (.inl rfl) e⟩,st⟩
theorem HOk.lt(x:HOk P w H h)(e:H a=ξ o):a<h.objs.size:=(x a o e).lt
theorem HOk.fresh(x:HOk P w H h)(e:h.objs.size<=a):H a=ζ:=by
 cases q:H a with
 |none=>rfl
 |some u=>exact absurd (As (x.lt q) e) (Nat.lt_irrefl _)
theorem HOk.kept(x:HOk P w H h)(k:∀b u,h.get? b=ξ u->h'.get? b=ξ u):HOk P w H h':=λa o e=>
 (x a o e).stay (λb u _ q=>k b u q) (λ_ q=>q) λ_ _ q=>q
theorem HOk.laid(x:HOk P w H h)(k:∀b u,h.get? b=ξ u->h'.get? b=ξ u)(hp:h.objs.size<=a)(new:F9 P w (A5 H a o) h' a o):HOk P w (A5 H a o) h':=λb u e=>by
 have hn:=x.fresh hp
 by_cases hb:b=a
 ·subst hb;rw [p9] at e;cases e;exact new
 ·rw [l6 hb] at e;exact(x b u e).stay (λc v _ q=>k c v q) (λc q=>by rw [l6 (n4 q hn)];exact q) λc xs q=>by rw [l6 (n4 q hn)];exact q
end
def Rd(H:Hp)(a:AA)(u:HO):Prop:=H a=ξ u\/∃o,H a=ξ (.frz o u)
theorem Rd.ok{P:AK}{w:AJ}{H:Hp}{h:Heap}{a:AA}{u:HO}(r:Rd H a u)(x:HOk P w H h):F9 P w H h a u:=by
 rcases r with r|⟨o,r⟩
 ·exact x a u r
 ·obtain⟨_,q⟩:=x a _ r;exact q
def Mut:Υ HO->Prop
 |some (.lst _)=>True
 |some (.dK _)=>True
 |some (.dT _)=>True
 |some (.set _ _)=>True
 |some (.ins _ _ _)=>True
 |some (.ext _)=>True
 |_=>False
section
variable {P:AK}{w:AJ}{H:Hp}{h h':Heap}{x e:AA}{o':HO}
theorem HOk.write(ok:HOk P w H h)(mu:Mut (H x))(he:e=x\/H e=ξ (.own x))(k:∀b u,b≠e->h.get? b=ξ u->h'.get? b=ξ u)(heo:∃u,h'.get? e=ξ u)
 (new:F9 P w (A5 H x o') h' x o'):HOk P w (A5 H x o') h':=λb u q=>by
 have nown:∀c y,H c=ξ (.own y)->c≠x:=λc y r z=>by subst z;rw [r] at mu;exact mu
 have ntup:∀c xs,H c=ξ (.tup xs)->c≠x:=λc xs r z=>by subst z;rw [r] at mu;exact mu
 by_cases hb:b=x
 ·subst hb;rw [p9] at q;cases q;exact new
 ·rw [l6 hb] at q
  by_cases hbe:b=e
  ·have q':H b=ξ (.own x):=by
    rcases he with z|z
    ·exact absurd (hbe.trans z) hb
    ·rw [hbe];exact z
   rw [q] at q';cases q';obtain⟨v,hv⟩:=heo;exact⟨v,by rw [hbe];exact hv⟩
  ·refine(ok b u q).stay (λc v hc r=>k c v ?_ r) (λc r=>by rw [l6 (nown c b r)];exact r) λc xs r=>by rw [l6 (ntup c xs r)];exact r
   rcases hc with rfl|hc
   ·exact hbe
   ·rintro rfl
    rcases he with z|z
    ·exact nown c b hc z
    ·rw [hc] at z;cases z;exact hb rfl
end
structure Un(fs ex:List AA)(H H':Hp)(h h':Heap):Prop where
 keep:∀b o,h.get? b=ξ o->H b=ζ->b∉fs->b∉ex->h'.get? b=ξ o
 slot:∀b o,h.get? b=ξ o->H b=ζ->b∈fs->b∉ex->∃sl,h'.get? b=ξ {o with slots:=sl}
 free:∀b o,h.get? b=ξ o->H b=ζ->b∉ex->H' b=ζ
 there:∀b o,h.get? b=ξ o->b∉ex->∃o',h'.get? b=ξ o'
 tups:∀b xs,H b=ξ (.tup xs)->H' b=ξ (.tup xs)
 frzs:∀b o u,H b=ξ (.frz o u)->H' b=ξ (.frz o u)
 tbls:∀b ps,H b=ξ (.tbl ps)->∃more,H' b=ξ (.tbl (ps++more))
section
variable {fs fs' ex ex':List AA}{H H1 H2:Hp}{h h1 h2 h':Heap}{a x e:AA}{o:HO}
theorem Un.any(u:Un fs ex H H1 h h1){b:AA}{ob:Obj}(q:h.get? b=ξ ob)(n:H b=ζ)(hx:b∉ex):∃sl,h1.get? b=ξ {ob with slots:=sl}:=by
 by_cases hb:b∈fs
 ·exact u.slot b ob q n hb hx
 ·exact⟨ob.slots,u.keep b ob q n hb hx⟩
theorem Un.kept(k:∀b u,h.get? b=ξ u->h'.get? b=ξ u):Un fs ex H H h h':=
 ⟨λb ob q _ _ _=>k b ob q,λb ob q _ _ _=>⟨ob.slots,k b ob q⟩,λ_ _ _ n _=>n,λb ob q _=>⟨ob,k b ob q⟩,λ_ _ q=>q,λ_ _ _ q=>q,λ_ ps q=>⟨#[],by rw [q];simp⟩⟩
theorem Un.refl:Un fs ex H H h h:=Un.kept λ_ _ q=>q
theorem Un.laid(k:∀b u,h.get? b=ξ u->h'.get? b=ξ u)(hp:h.objs.size<=a)(hn:H a=ζ):Un fs ex H (A5 H a o) h h' where
 keep:=λb u q _ _ _=>k b u q
 slot:=λb u q _ _ _=>⟨u.slots,k b u q⟩
 free:=λb u q n _=>by rw [l6 (Ak (As (AW q) hp))];exact n
 there:=λb u q _=>⟨u,k b u q⟩
 tups:=λb xs q=>by rw [l6 (n4 q hn)];exact q
 frzs:=λb u xs q=>by rw [l6 (n4 q hn)];exact q
 tbls:=λb ps q=>⟨#[],by rw [l6 (n4 q hn),q];simp⟩
theorem Un.write(mu:Mut (H x))(he:e=x\/H e=ξ (.own x))(k:∀b u,b≠e->h.get? b=ξ u->h'.get? b=ξ u)(heo:∃u,h'.get? e=ξ u):Un fs ex H (A5 H x o) h h':=by
 have hx:∀b,H b=ζ->b≠x:=λb n z=>by subst z;rw [n] at mu;exact mu
 have hb:∀b,H b=ζ->b≠e:=λb n z=>by
  subst z;rcases he with r|r
  ·exact hx b n r
  ·rw [n] at r;cases r
 have hm:∀b u,H b=ξ u->¬Mut (ξ u)->b≠x:=λb u q nm z=>by subst z;rw [q] at mu;exact nm mu
 refine⟨λb u q n _ _=>k b u (hb b n) q,λb u q n _ _=>⟨u.slots,k b u (hb b n) q⟩,λb u q n _=>by rw [l6 (hx b n)];exact n,λb u q _=> ?_,
  λb xs q=>by rw [l6 (hm b _ q λz=>z)];exact q,λb u xs q=>by rw [l6 (hm b _ q λz=>z)];exact q,λb ps q=>⟨#[],by rw [l6 (hm b _ q λz=>z),q];simp⟩⟩
 by_cases hbe:b=e
 ·subst hbe;exact heo
 ·exact⟨u,k b u hbe q⟩
end
def trk(h:Heap)(H:Hp):List AA:=(Aq h.objs.size).filter λa=>(H a).isSome
def b1k(h:Heap)(H:Hp):Heap:=PySem.W.hideAll h (trk h H)
theorem b6k(h:Heap)(H:Hp):(b1k h H).objs.size=h.objs.size:=PySem.W.hideAll_size _ _
theorem b8g{h:Heap}{H:Hp}{b:AA}{o:Obj}(e:h.get? b=ξ o)(n:H b=ζ):(b1k h H).get? b=ξ o:=
 PySem.W.hideAll_get _ e λhm=>by
  have q:(H b).isSome=true:=(List.mem_filter.mp hm).2;rw [n] at q;simp at q
theorem c0T{h:Heap}{H:Hp}{b:AA}{o:Obj}(e:(b1k h H).get? b=ξ o):h.get? b=ξ o/\H b=ζ:=by
 have e':h.get? b=ξ o:=PySem.W.of_hideAll (trk h H) e;refine⟨e', ?_⟩;cases q:H b with
 |none=>rfl
 |some x=>
  have hm:b∈trk h H:=List.mem_filter.mpr ⟨List.mem_range.mpr (AW e'),by simp [q]⟩
  have z:(b1k h H).get? b=ζ:=PySem.W.hideAll_none (trk h H) hm;rw [z] at e;cases e
structure Mod(K:AE)(mg:Str->Υ AB)(base:Heap):Prop where
 kin:K.In base
 glob:base.Ns mainGlobals mg
 blt:∃mb,base.Ns builtinsNs mb/\∀x:Str,x≠"__name__"->mb x=bootBuiltins x
 nolimit:base.NoLimit
structure Cx where
 prog:AK
 w:AJ
 K:AE
 mg:Str->Υ AB
 base:Heap
 A:AL
 N:List Str
 s₀:AC
 H₀:Hp
 env:Env
 outer:List Env
 stack:List Env
 ex:List AA
 fn:Str->Bool
 calm:Bool
 pn:List (AA×Obj)
 xe:AB->AC->Prop
def frs(l:List Env):List AA:=l.filterMap (·.frame)
abbrev Cx.fs(X:Cx):List AA:=frs X.outer
def Vis(sc:Scope)(x:Str):Prop:=sc.names.lookup x=ξ .local\/sc.names.lookup x=ξ .cell\/sc.names.lookup x=ξ .free
def Loc(sc:Scope)(x:Str):Prop:=sc.names.lookup x=ξ .local\/sc.names.lookup x=ξ .cell
def c41(env:Env)(h:Heap)(m:Str->Υ AB)(x:Str)(u:AB):Prop:=
 (env.kindOf x=ξ .local/\m x=ξ u)\/((env.kindOf x=ξ .cell\/env.kindOf x=ξ .free)/\∃c,env.cells.lookup x=ξ c/\h.IsCell c (ξ u))
structure Cx.Ok(X:Cx):Prop where
 mod:Mod X.K X.mg X.base
 kind:X.env.scope.kind= .function
 glob:X.env.globals=mainGlobals
 blt:X.env.builtins=builtinsNs
 above:X.s₀.heap.objs.size<=X.env.locals
 inj:∀x y c,X.env.cells.lookup x=ξ c->X.env.cells.lookup y=ξ c->x=y
 has:∀x,(X.env.kindOf x=ξ .cell\/X.env.kindOf x=ξ .free)->∃c,X.env.cells.lookup x=ξ c
 cab:∀x c,X.fn x=true->X.env.cells.lookup x=ξ c->X.s₀.heap.objs.size<=c
 hd:X.calm=true->X.A.handled=ζ
 frames:X.A.frames=ξ X.stack
 stk:X.stack=X.outer\/(X.stack=X.env::X.outer/\X.env.frame=ξ X.env.locals)
 exf:∀b∈X.ex,b≠X.env.locals/\∀x c,X.env.cells.lookup x=ξ c->c≠b
 bs:∀b o,X.base.get? b=ξ o->X.s₀.heap.get? b=ξ o/\X.H₀ b=ζ
 bsz:X.base.objs.size<=X.s₀.heap.objs.size
 noex:∀b o,X.base.get? b=ξ o->b∉X.ex
 exfs:∀b∈X.ex,b∉X.fs
 funs:X.s₀.heap.FunFrames X.base X.outer
 frf:∀b∈X.fs,X.H₀ b=ζ
structure Inv(X:Cx)(pins:List (AA×Obj))(σ:List (Υ V))(H:Hp)(s:AC):Prop where
 ok:X.Ok
 os:s.os=X.s₀.os
 bare:AllBare s.gens
 base:Un X.fs X.ex X.H₀ H X.s₀.heap s.heap
 loc:∃m,s.heap.Ns X.env.locals m/\∀(i:Nat) (x:Str) (v:V),X.N[i]?=ξ x->σ[i]?=ξ (ξ v)->Vis X.env.scope x->∃u,y4 v u/\c41 X.env s.heap m x u
 cell:∀x c,X.env.cells.lookup x=ξ c->∃v,s.heap.IsCell c v
 free:H X.env.locals=ζ
 freeC:∀x c,X.env.cells.lookup x=ξ c->H c=ζ
 pin:∀p∈X.pn++pins,s.heap.get? p.1=ξ p.2/\H p.1=ζ/\p.1≠X.env.locals/\p.1∉X.fs/\∀v,p.2.data≠.cell v
 hok:HOk X.prog X.w H s.heap
 len:σ.length=X.N.length
section
variable {X:Cx}{pins:List (AA×Obj)}{σ:List (Υ V)}{H H':Hp}{s:AC}{h':Heap}
theorem Cx.Ok.nofr(ok:X.Ok){b:AA}{o:Obj}(e:X.base.get? b=ξ o):b∉X.fs:=λhb=>by
 have:=(ok.funs.mem hb).1;rw [e] at this;cases this
theorem Inv.bs(I:Inv X pins σ H s):∀b o,X.base.get? b=ξ o->s.heap.get? b=ξ o/\H b=ζ:=λb o e=>
 ⟨I.base.keep b o (I.ok.bs b o e).1 (I.ok.bs b o e).2 (I.ok.nofr e) (I.ok.noex b o e),I.base.free b o (I.ok.bs b o e).1 (I.ok.bs b o e).2 (I.ok.noex b o e)⟩
theorem Inv.bk(I:Inv X pins σ H s):∀b o,X.base.get? b=ξ o->s.heap.get? b=ξ o:=λb o e=>(I.bs b o e).1
theorem Inv.mod(I:Inv X pins σ H s):Mod X.K X.mg X.base:=I.ok.mod
theorem Inv.kIn(I:Inv X pins σ H s):X.K.In s.heap:=I.ok.mod.kin.keeps I.bk
theorem Inv.lt(I:Inv X pins σ H s):X.env.locals<s.heap.objs.size:=by obtain⟨_,hn,_⟩:=I.loc;exact hn.lt
theorem Inv.sz(I:Inv X pins σ H s):X.s₀.heap.objs.size<=s.heap.objs.size:=Nat.le_trans I.ok.above (BH I.lt)
theorem Inv.nofs(I:Inv X pins σ H s){a:AA}(h:s.heap.objs.size<=a):a∉X.fs:=λhb=>by
 obtain⟨_,o,ho,_⟩:=I.ok.funs.mem hb;exact absurd (As (AW ho) (Nat.le_trans I.sz h)) (Nat.lt_irrefl _)
theorem Inv.cne(I:Inv X pins σ H s):∀x c,X.env.cells.lookup x=ξ c->c≠X.env.locals:=λx c e z=>by
 obtain⟨v,o,ho,hd⟩:=I.cell x c e;obtain⟨m,⟨o',es,ep,ho',hd',_⟩,_⟩:=I.loc;rw [z,ho'] at ho;cases ho;rw [hd'] at hd;cases hd
theorem Inv.funs(I:Inv X pins σ H s):s.heap.FunFrames X.base X.outer:=by
 have all:∀(l:List Env),(∀b∈frs l,b∈X.fs)->X.s₀.heap.FunFrames X.base l->s.heap.FunFrames X.base l:=by
  intro l
  induction l with
  |nil=>intro _ _;trivial
  |cons env r ih=>
   intro hs hl;obtain⟨hk,⟨L,o,hf,hn,ho,hd⟩,hr⟩:=hl;have hL:L∈X.fs:=hs L (by unfold frs;rw [List.filterMap_cons,hf];exact AZ)
   obtain⟨sl,e⟩:=I.base.slot L o ho (I.ok.frf L hL) hL λz=>I.ok.exfs L z hL;exact⟨hk,⟨L,_,hf,hn,e,hd⟩,ih (λb hb=>hs b (by unfold frs;rw [List.filterMap_cons,hf];exact Af _ hb)) hr⟩
 exact all X.outer (λ_ hb=>hb) I.ok.funs
theorem Inv.stack(I:Inv X pins σ H s):s.heap.FunFrames X.base X.stack:=by
 rcases I.ok.stk with e|⟨e,hf⟩
 ·rw [e];exact I.funs
 ·rw [e];obtain⟨m,hn,_⟩:=I.loc;refine .cons (by rw [I.ok.kind];decide) hf hn ?_ I.funs
  exact Heap.get?_none_of_le (Nat.le_trans I.ok.bsz I.ok.above)
theorem Inv.stkSub(I:Inv X pins σ H s):∀b∈frs X.stack,b∈X.env.locals::X.fs:=λb hb=>by
 rcases I.ok.stk with e|⟨e,hf⟩
 ·rw [e] at hb;exact Af _ hb
 ·rw [e] at hb;unfold frs at hb;rw [List.filterMap_cons,hf] at hb;exact hb
theorem Inv.stkFree(I:Inv X pins σ H s):∀b∈frs X.stack,H b=ζ:=λb hb=>by
 rcases Ah.mp (I.stkSub b hb) with e|hb
 ·rw [e];exact I.free
 ·obtain⟨_,o,ho,_⟩:=I.ok.funs.mem hb;exact I.base.free b o ho (I.ok.frf b hb) λz=>I.ok.exfs b z hb
theorem Inv.step{g':Array GenState}{t':Nat}{d':Drawn}{ch:List AA}(I:Inv X pins σ H s)
 (hch:∀b∈ch,(b∈X.ex\/X.s₀.heap.objs.size<=b)/\b≠X.env.locals/\(∀x c,X.env.cells.lookup x=ξ c->c≠b)/\∀p∈X.pn++pins,p.1≠b)
 (keep:∀b o,b≠X.env.locals->b∉X.fs->b∉ch->s.heap.get? b=ξ o->H b=ζ->h'.get? b=ξ o)
 (slot:∀b o,b≠X.env.locals->b∈X.fs->b∉ch->s.heap.get? b=ξ o->H b=ζ->∃sl,h'.get? b=ξ {o with slots:=sl}) (free:∀b o,b∉ch->s.heap.get? b=ξ o->H b=ζ->H' b=ζ)
 (there:∀b o,b∉ch->s.heap.get? b=ξ o->∃o',h'.get? b=ξ o')
 (tups:∀b xs,H b=ξ (.tup xs)->H' b=ξ (.tup xs)) (frzs:∀b o u,H b=ξ (.frz o u)->H' b=ξ (.frz o u)) (tbls:∀b ps,H b=ξ (.tbl ps)->∃more,H' b=ξ (.tbl (ps++more)))
 (ns:∀m,s.heap.Ns X.env.locals m->h'.Ns X.env.locals m) (hok:HOk X.prog X.w H' h') (hg:AllBare g'):
 Inv X pins σ H' {s with heap:=h',gens:=g',drawn:=d',toks:=t'}:=by
 have neL:∀b o,X.s₀.heap.get? b=ξ o->b≠X.env.locals:=λb o e=>Ak (As (AW e) I.ok.above)
 have neC:∀b o,X.s₀.heap.get? b=ξ o->b∉X.ex->b∉ch:=λb o e hx hb=>by
  rcases(hch b hb).1 with z|z
  ·exact hx z
  ·exact absurd (As (AW e) z) (Nat.lt_irrefl _)
 have cellK:∀x c,X.env.cells.lookup x=ξ c->∀v,s.heap.IsCell c v->h'.IsCell c v:=λx c e v ⟨o,ho,hd⟩=>by
  have nch:c∉ch:=λz=>(hch c z).2.2.1 x c e rfl
  by_cases hc:c∈X.fs
  ·obtain⟨sl,q⟩:=slot c o (I.cne x c e) hc nch ho (I.freeC x c e);exact⟨_,q,hd⟩
  ·exact⟨o,keep c o (I.cne x c e) hc nch ho (I.freeC x c e),hd⟩
 refine⟨I.ok,I.os,hg,⟨λb o e n hb hx=> ?_,λb o e n hb hx=> ?_,λb o e n hx=> ?_,λb o e hx=> ?_,λb xs e=>tups b xs (I.base.tups b xs e),λb o xs e=>frzs b o xs (I.base.frzs b o xs e),λb ps e=> ?_⟩, ?_,λx c e=> ?_, ?_,λx c e=> ?_,λp hp=> ?_,hok,I.len⟩
 ·exact keep b o (neL b o e) hb (neC b o e hx) (I.base.keep b o e n hb hx) (I.base.free b o e n hx)
 ·obtain⟨sl,e1⟩:=I.base.slot b o e n hb hx
  obtain⟨sl',e2⟩:=slot b _ (neL b o e) hb (neC b o e hx) e1 (I.base.free b o e n hx)
  exact⟨sl',e2⟩
 ·obtain⟨o',e1⟩:=I.base.there b o e hx
  exact free b o' (neC b o e hx) e1 (I.base.free b o e n hx)
 ·obtain⟨o',e1⟩:=I.base.there b o e hx
  exact there b o' (neC b o e hx) e1
 ·obtain⟨m1,e1⟩:=I.base.tbls b ps e
  obtain⟨m2,e2⟩:=tbls b _ e1
  exact⟨m1++m2,by rw [e2,Array.append_assoc]⟩
 ·obtain⟨m,hn,hl⟩:=I.loc
  refine⟨m,ns m hn,λi x v e1 e2 e3=> ?_⟩
  obtain⟨u,r,l⟩:=hl i x v e1 e2 e3
  refine⟨u,r, ?_⟩
  rcases l with l|⟨k,c,e,z⟩
  ·exact .inl l
  ·exact .inr ⟨k,c,e,cellK x c e _ z⟩
 ·obtain⟨v,z⟩:=I.cell x c e
  exact⟨v,cellK x c e v z⟩
 ·obtain⟨m,⟨o,_,_,ho,_⟩,_⟩:=I.loc
  exact free _ o (λz=>(hch _ z).2.1 rfl) ho I.free
 ·obtain⟨v,o,ho,hd⟩:=I.cell x c e
  exact free c o (λz=>(hch c z).2.2.1 x c e rfl) ho (I.freeC x c e)
 ·obtain⟨e,n,ne,nf,d⟩:=I.pin p hp
  have nch:p.1∉ch:=λz=>(hch p.1 z).2.2.2 p hp rfl
  exact⟨keep p.1 p.2 ne nf nch e n,free p.1 p.2 nch e n,ne,nf,d⟩
theorem Inv.un{t':Nat}(I:Inv X pins σ H s)(u:Un X.fs [] H H' s.heap h')(hok:HOk X.prog X.w H' h'):Inv X pins σ H' {s with heap:=h',toks:=t'}:=by
 obtain⟨m,⟨o,es,ep,ho,r⟩,_⟩:=id I.loc;obtain⟨sl,hL⟩:=u.any ho I.free (by simp)
 exact I.step (g':=s.gens) (d':=s.drawn) (ch:=[]) (λ_ z=>nomatch z) (λb o _ hb _ e n=>u.keep b o e n hb (by simp)) (λb o _ hb _ e n=>u.slot b o e n hb (by simp)) (λb o _ e n=>u.free b o e n (by simp)) (λb o _ e=>u.there b o e (by simp)) u.tups u.frzs u.tbls (λm' hm=>by
  obtain⟨o',es',ep',ho',r'⟩:=hm;rw [ho] at ho';cases ho';exact⟨_,es',ep',hL,r'⟩) hok I.bare
theorem Inv.call{g':Array GenState}{t':Nat}{d':Drawn}{ch:List AA}(I:Inv X pins σ H s)(u:Un (frs X.stack) ch H H' s.heap h')(hok:HOk X.prog X.w H' h')(hg:AllBare g')
 (hch:∀b∈ch,(b∈X.ex\/X.s₀.heap.objs.size<=b)/\b≠X.env.locals/\(∀x c,X.env.cells.lookup x=ξ c->c≠b)/\∀p∈X.pn++pins,p.1≠b):
 Inv X pins σ H' {s with heap:=h',gens:=g',drawn:=d',toks:=t'}:=by
 obtain⟨m,⟨o,es,ep,ho,r⟩,_⟩:=id I.loc
 obtain⟨sl,hL⟩:=u.any ho I.free λz=>(hch _ z).2.1 rfl
 exact I.step (ch:=ch) hch (λb o hL hb hc e n=>u.keep b o e n (λz=>(Ah.mp (I.stkSub b z)).elim hL hb) hc) (λb o _ _ hc e n=>u.any e n hc) (λb o hc e n=>u.free b o e n hc) (λb o hc e=>u.there b o e hc) u.tups u.frzs u.tbls (λm' hm=>by
  obtain⟨o',es',ep',ho',r'⟩:=hm;rw [ho] at ho';cases ho';exact⟨_,es',ep',hL,r'⟩) hok hg
theorem Inv.turned{t':Nat}{it:AA}(I:Inv X pins σ H s)(k:∀b o,b≠it->s.heap.get? b=ξ o->h'.get? b=ξ o)(hn:H it=ζ)(hL:it≠X.env.locals)
 (h1:it∈X.ex\/X.s₀.heap.objs.size<=it) (h2:∀x c,X.env.cells.lookup x=ξ c->c≠it) (h3:∀p∈X.pn++pins,p.1≠it):Inv X pins σ H {s with heap:=h',toks:=t'}:=by
 have nit:∀b u,H b=ξ u->b≠it:=λb u e z=>by rw [z,hn] at e;cases e
 refine I.step (g':=s.gens) (d':=s.drawn) (ch:=[it]) (λb hb=> ?_) (λb o _ _ hc e _=>k b o (λz=>hc (by simp [z])) e) (λb o _ _ hc e _=>⟨o.slots,k b o (λz=>hc (by simp [z])) e⟩) (λ_ _ _ _ n=>n)
  (λb o hc e=>⟨o,k b o (λz=>hc (by simp [z])) e⟩) (λ_ _ e=>e) (λ_ _ _ e=>e) (λb ps e=>⟨#[],by rw [e];simp⟩) (λm hm=> ?_) (λb u e=> ?_) I.bare
 ·have e:b=it:=by simpa using hb
  subst e
  exact⟨h1,hL,h2,h3⟩
 ·obtain⟨o,es,ep,ho,r⟩:=hm
  exact⟨o,es,ep,k _ o (Ne.symm hL) ho,r⟩
 ·refine(I.hok b u e).stay (λc v hc q=>k c v ?_ q) (λ_ q=>q) λ_ _ q=>q
  rcases hc with z|z
  ·rw [z];exact nit b u e
  ·exact nit c _ z
theorem Inv.tok(I:Inv X pins σ H s)(t:Nat):Inv X pins σ H {s with toks:=t}:=I.un (h':=s.heap) (t':=t) Un.refl I.hok
theorem Inv.kept{t':Nat}(I:Inv X pins σ H s)(k:∀b u,s.heap.get? b=ξ u->h'.get? b=ξ u):Inv X pins σ H {s with heap:=h',toks:=t'}:=I.un (Un.kept k) (I.hok.kept k)
theorem Inv.laid{a:AA}{o:HO}{t':Nat}(I:Inv X pins σ H s)(k:∀b u,s.heap.get? b=ξ u->h'.get? b=ξ u)(hp:s.heap.objs.size<=a)(new:F9 X.prog X.w (A5 H a o) h' a o):
 Inv X pins σ (A5 H a o) {s with heap:=h',toks:=t'}:=I.un (Un.laid k hp (I.hok.fresh hp)) (I.hok.laid k hp new)
theorem Inv.write{x e:AA}{o:HO}{t':Nat}(I:Inv X pins σ H s)(mu:Mut (H x))(he:e=x\/H e=ξ (.own x))(k:∀b u,b≠e->s.heap.get? b=ξ u->h'.get? b=ξ u)(heo:∃u,h'.get? e=ξ u)
 (new:F9 X.prog X.w (A5 H x o) h' x o):Inv X pins σ (A5 H x o) {s with heap:=h',toks:=t'}:=I.un (Un.write mu he k heo) (I.hok.write mu he k heo new)
theorem Inv.weak{σ':List (Υ V)}(I:Inv X pins σ H s)(hl:σ'.length=σ.length)(w:∀(i:Nat) v,σ'[i]?=ξ (ξ v)->σ[i]?=ξ (ξ v)):Inv X pins σ' H s:=
 ⟨I.ok,I.os,I.bare,I.base,let ⟨m,hn,hl'⟩:=I.loc;⟨m,hn,λi x v e1 e2 e3=>hl' i x v e1 (w i v e2) e3⟩,I.cell,I.free,I.freeC,I.pin,I.hok,hl.trans I.len⟩
theorem Inv.pins_of{pins':List (AA×Obj)}(I:Inv X pins σ H s)(h:∀p∈pins',s.heap.get? p.1=ξ p.2/\H p.1=ζ/\p.1≠X.env.locals/\p.1∉X.fs/\∀v,p.2.data≠.cell v):Inv X pins' σ H s:=
 ⟨I.ok,I.os,I.bare,I.base,I.loc,I.cell,I.free,I.freeC,λp hp=>(Av.mp hp).elim (λz=>I.pin p (BG _ z)) (h p),I.hok,I.len⟩
theorem a82{N:List Str}(hN:N.Nodup){i j:Nat}{x:Str}(a:N[i]?=ξ x)(b:N[j]?=ξ x):i=j:=by
 obtain⟨h1,e1⟩:=Au.mp a;obtain⟨h2,e2⟩:=Au.mp b;exact(List.getElem_inj hN).mp (e1.trans e2.symm)
theorem b0V{M:Model}{A:AL}{E:AB->AC->Prop}{i:Nat}{x:Str}{v:V}{u:AB}{Q:Unit->AC->Prop}(I:Inv X pins σ H s)(hN:X.N.Nodup)(hi:X.N[i]?=ξ x)(hx:Loc X.env.scope x)(r:y4 v u)
 (h:∀s',Inv X pins (σ.set i (ξ v)) H s'->(∃a,Heap.SameBut a s.heap s'.heap/\(a=X.env.locals\/X.env.cells.lookup x=ξ a))->Q () s') (hf:X.fn x=true\/X.env.scope.names.lookup x=ξ .local:=by first|exact .inl rfl|exact .inr rfl|assumption):AH M A (storeName X.env x u) Q E s:=by
 obtain⟨m,hn,hl⟩:=id I.loc
 have hcls:(X.env.scope.kind== .class||(X.env.scope.kind== .module && X.env.locals !=X.env.globals))=false:=by rw [I.ok.kind];rfl
 have hiσ:i<σ.length:=by rw [I.len];exact(Au.mp hi).1
 have cne:=I.cne
 have tracked:∀{a:AA} {h':Heap},(∃o,s.heap.get? a=ξ o/\H a=ζ)->Heap.SameBut a s.heap h'->HOk X.prog X.w H h':=λ {a h'} ha hs b ob e=>by
  obtain⟨_,_,hfree⟩:=ha;refine(I.hok b ob e).stay (λc w' hc q=>(hs.2 c ?_).trans q) (λ_ q=>q) λ_ _ q=>q;rintro rfl;rcases hc with rfl|hc
  ·rw [hfree] at e;cases e
  ·rw [hfree] at hc;cases hc
 rcases hx with hk|hk
 ·refine wpAny_storeName_local hk hn (λh' hn' hs=> ?_) hcls
  obtain⟨oL,_,_,hoL,_⟩:=id hn
  refine h _ ⟨I.ok,I.os,I.bare,⟨λb o e n hb hx=> ?_,λb o e n hb hx=> ?_,I.base.free,λb o e hx=> ?_,I.base.tups,I.base.frzs,I.base.tbls⟩,⟨_,hn',λj y v' e1 e2 e3=> ?_⟩,λy c e=> ?_,I.free,I.freeC,λp hp=> ?_,tracked ⟨oL,hoL,I.free⟩ hs,by simpa using I.len⟩ ⟨_,hs,.inl rfl⟩
  ·exact(hs.2 b (Ak (As (AW e) I.ok.above))).trans (I.base.keep b o e n hb hx)
  ·obtain⟨sl,e1⟩:=I.base.slot b o e n hb hx
   exact⟨sl,(hs.2 b (Ak (As (AW e) I.ok.above))).trans e1⟩
  ·obtain⟨o',e1⟩:=I.base.there b o e hx
   exact⟨o',(hs.2 b (Ak (As (AW e) I.ok.above))).trans e1⟩
  ·by_cases hj:j=i
   ·subst hj
    rw [hi] at e1;cases e1
    rw [BJ hiσ] at e2
    cases e2
    exact⟨u,r,.inl ⟨hk,by simp⟩⟩
   ·rw [List.getElem?_set_ne (Ne.symm hj)] at e2
    obtain⟨u',r',q⟩:=hl j y v' e1 e2 e3
    refine⟨u',r', ?_⟩
    rcases q with⟨k,e⟩|⟨k,c,e,z⟩
    ·refine .inl ⟨k, ?_⟩
     have:y≠x:=λe=>hj (a82 hN e1 (e▸hi))
     simp [this,e]
    ·exact .inr ⟨k,c,e,z.sameBut hs (cne y c e)⟩
  ·obtain⟨w',z⟩:=I.cell y c e
   exact⟨w',z.sameBut hs (cne y c e)⟩
  ·obtain⟨e,n,ne,nf,d⟩:=I.pin p hp
   exact⟨(hs.2 p.1 ne).trans e,n,ne,nf,d⟩
 ·have hfn:X.fn x=true:=by
   rcases hf with z|z
   ·exact z
   ·rw [z] at hk;cases hk
  obtain⟨c,hc⟩:=I.ok.has x (.inl hk);obtain⟨w',z⟩:=I.cell x c hc;refine wpAny_storeName_cell I.ok.kind hk hc z (λh' hc' hs=> ?_);obtain⟨oc,hoc,hocd⟩:=id z;refine h {s with heap:=h'} ⟨I.ok,I.os,I.bare,⟨λb o e n hb hx=> ?_,λb o e n hb hx=> ?_,I.base.free,λb o e hx=> ?_,I.base.tups,I.base.frzs,I.base.tbls⟩,⟨m,hn.sameBut hs (Ne.symm (cne x c hc)),λj y v' e1 e2 e3=> ?_⟩,λy c' e=> ?_,I.free,I.freeC,λp hp=> ?_,tracked ⟨oc,hoc,I.freeC x c hc⟩ hs,by simpa using I.len⟩ ⟨c,hs,.inr hc⟩
  ·exact(hs.2 b (Ak (As (AW e) (I.ok.cab x c hfn hc)))).trans (I.base.keep b o e n hb hx)
  ·obtain⟨sl,e1⟩:=I.base.slot b o e n hb hx;exact⟨sl,(hs.2 b (Ak (As (AW e) (I.ok.cab x c hfn hc)))).trans e1⟩
  ·obtain⟨o',e1⟩:=I.base.there b o e hx;exact⟨o',(hs.2 b (Ak (As (AW e) (I.ok.cab x c hfn hc)))).trans e1⟩
  ·by_cases hj:j=i
   ·subst hj;rw [hi] at e1;cases e1;rw [BJ hiσ] at e2;cases e2;exact⟨u,r,.inr ⟨.inl hk,c,hc,hc'⟩⟩
   ·rw [List.getElem?_set_ne (Ne.symm hj)] at e2;obtain⟨u',r',q⟩:=hl j y v' e1 e2 e3;refine⟨u',r', ?_⟩;rcases q with q|⟨k,c',e,z'⟩
    ·exact .inl q
    ·refine .inr ⟨k,c',e,z'.sameBut hs ?_⟩;rintro rfl;exact hj (a82 hN e1 (I.ok.inj _ _ _ e hc▸hi))
  ·by_cases hcc:c'=c
   ·subst hcc;exact⟨_,hc'⟩
   ·obtain⟨w2,z2⟩:=I.cell y c' e;exact⟨w2,z2.sameBut hs hcc⟩
  ·obtain⟨e,n,ne,nf,d⟩:=I.pin p hp;refine⟨(hs.2 p.1 ?_).trans e,n,ne,nf,d⟩;intro q;rw [q,hoc] at e;have q':oc=p.2:=Option.some.inj e;exact d w' (by rw [<-q'];exact hocd)
theorem a6D{M:Model}{A:AL}{E:AB->AC->Prop}{i:Nat}{x:Str}{v:V}{u:AB}{Q:Unit->AC->Prop}(I:Inv X pins σ H s)(hN:X.N.Nodup)(hi:X.N[i]?=ξ x)(hx:Loc X.env.scope x)(r:y4 v u)
 (h:∀s',Inv X pins (σ.set i (ξ v)) H s'->Q () s') (hf:X.fn x=true\/X.env.scope.names.lookup x=ξ .local:=by first|exact .inl rfl|exact .inr rfl|assumption):AH M A (storeName X.env x u) Q E s:=
 b0V I hN hi hx r (λs' I' _=>h s' I') hf
theorem Inv.call'{s':AC}{ch:List AA}(I:Inv X pins σ H s)(ho:s'.os=s.os)(u:Un (frs X.stack) ch H H' s.heap s'.heap)(hok:HOk X.prog X.w H' s'.heap)(hg:AllBare s'.gens)
 (hch:∀b∈ch,(b∈X.ex\/X.s₀.heap.objs.size<=b)/\b≠X.env.locals/\(∀x c,X.env.cells.lookup x=ξ c->c≠b)/\∀p∈X.pn++pins,p.1≠b):Inv X pins σ H' s':=by
 obtain⟨h',g',d',t',o'⟩:=s'
 have e:o'=s.os:=ho
 subst e
 exact I.call (g':=g') (t':=t') (d':=d') u hok hg hch
end
abbrev XK:=AB->Υ AA->Hp->Prop
abbrev St:=List (Υ V)
abbrev VK:=V->Hp->Prop
abbrev TE:=St->Hp->VK->Prop
abbrev TT:=St->Hp->(Bool->Hp->Prop)->Prop
abbrev TA:=St->Hp->(List V->Hp->Prop)->Prop
structure U7 where
 nx:St->Hp->Prop
 rt:VK
 bk:St->Hp->Prop:=λ_ _=>False
 ct:St->Hp->Prop:=λ_ _=>False
abbrev TS:=U7->St->Hp->Prop
def EP(X:Cx)(pins:List (AA×Obj))(σ:St)(Q:VK)(u:AB)(s':AC):Prop:=∃v H',Inv X pins σ H' s'/\y4 v u/\Q v H'
def TP(X:Cx)(pins:List (AA×Obj))(σ:St)(Q:Bool->Hp->Prop)(b:Bool)(s':AC):Prop:=∃H',Inv X pins σ H' s'/\Q b H'
def AP(X:Cx)(pins:List (AA×Obj))(σ:St)(Q:List V->Hp->Prop)(us:List AB)(s':AC):Prop:=∃vs H',Inv X pins σ H' s'/\y0 vs us/\Q vs H'
def SP(X:Cx)(pins:List (AA×Obj))(D:U7)(f:Flow)(s':AC):Prop:=
 match f with
 | .next=>∃σ' H',Inv X pins σ' H' s'/\D.nx σ' H'
 | .brk=>∃σ' H',Inv X pins σ' H' s'/\D.bk σ' H'
 | .cont=>∃σ' H',Inv X pins σ' H' s'/\D.ct σ' H'
 | .ret u=>∃v σ' H',Inv X pins σ' H' s'/\y4 v u/\D.rt v H'
def PE(X:Cx)(e:AF)(t:TE):Prop:=
 ∀pins s σ (H:Hp) (Q:VK),Inv X pins σ H s->t σ H Q->AH (model X.prog X.w) X.A (eval e X.env) (EP X pins σ Q) X.xe s
def PT(X:Cx)(e:AF)(t:TT):Prop:=
 ∀pins s σ (H:Hp) (Q:Bool->Hp->Prop),Inv X pins σ H s->t σ H Q->AH (model X.prog X.w) X.A (isTrue e X.env (eval e X.env)) (TP X pins σ Q) X.xe s
def PW(X:Cx)(e:AF)(t:TT):Prop:=
 ∀(whole:Sem AB) (pins:List (AA×Obj)) (s:AC) (σ:St) (H:Hp) (Q:Bool->Hp->Prop),Inv X pins σ H s->t σ H Q->AH (model X.prog X.w) X.A (isTrue e X.env whole) (TP X pins σ Q) X.xe s
theorem PW.pt{X:Cx}{e:AF}{t:TT}(h:PW X e t):PT X e t:=h _
def PA(X:Cx)(es:List AF)(t:TA):Prop:=
 ∀(pos:Pos) (pins:List (AA×Obj)) (s:AC) (σ:St) (H:Hp) (Q:List V->Hp->Prop),Inv X pins σ H s->t σ H Q->AH (model X.prog X.w) X.A (spliced (backTo pos (AI es X.env))) (AP X pins σ Q) X.xe s
def PS(X:Cx)(st:Stmt)(t:TS):Prop:=
 ∀pins s σ (H:Hp) (D:U7),Inv X pins σ H s->t D σ H->AH (model X.prog X.w) X.A (exec st X.env) (SP X pins D) X.xe s
def PSs(X:Cx)(st:List Stmt)(t:TS):Prop:=
 ∀pins s σ (H:Hp) (D:U7),Inv X pins σ H s->t D σ H->AH (model X.prog X.w) X.A (execs st X.env) (SP X pins D) X.xe s
theorem M9{α:Type}{t:Sem α}{Q Q':α->AC->Prop}{M:Model}{A:AL}{E:AB->AC->Prop}{s:AC}(h:AH M A t Q E s)(hQ:∀a s,Q a s->Q' a s):AH M A t Q' E s:=wpAny_mono h hQ λ_ _ x=>x
section
variable {X:Cx}
def a9A(i:Nat):TE:=λσ H Q=>∃v,σ[i]?=ξ (ξ v)/\Q v H
def tC(v:V):TE:=λ_ H Q=>Q v H
theorem c3y{i:Nat}{x:Str}{pos:Pos}(hN:X.N[i]?=ξ x)(hv:Vis X.env.scope x)(hd:Δ x:=by decide)(hcd:(x==("__classdict__":Str))=false:=by decide):PE X (.Name x pos) (a9A i):=by
 ext s
 obtain⟨v,e,h⟩:=h;obtain⟨m,hn,hl⟩:=I.loc;obtain⟨u,r,l⟩:=hl i x v hN e hv;have fin:EP X pins σ Q u s:=⟨v,H,I,r,h⟩;rcases l with⟨hk,hm⟩|⟨hk,c,hc,hcell⟩
 ·exact wpAny_Name (wpAny_loadName_local I.ok.kind hk hn hm fin) hd
 ·rcases hk with hk|hk
  ·exact wpAny_Name (wpAny_loadName_cell I.ok.kind hk hc hcell fin) hd
  ·exact wpAny_Name (wpAny_loadName_free I.ok.kind hk hc hcell fin hcd) hd
theorem c3s{i j pos}:PE X (.Constant (.int i) j pos) (tC (.int i)):=λ_ _ _ H _ I h=>wpAny_Constant_int ⟨.int i,H,I.tok _,⟨_,rfl⟩,h⟩
theorem c4A{b j pos}:PE X (.Constant (.bool b) j pos) (tC (.bl b)):=λ_ _ _ H _ I h=>Constant_bool ⟨.bl b,H,I,rfl,h⟩
theorem c3u{j pos}:PE X (.Constant .none j pos) (tC .non):=λ_ _ _ H _ I h=>Constant_none ⟨.non,H,I,rfl,h⟩
theorem c3x{x j pos}:PE X (.Constant (.str x) j pos) (tC (.str x)):=λ_ _ _ H _ I h=>Calls.Constant_str ⟨.str x,H,I.tok _,⟨_,rfl⟩,h⟩
def Gl(X:Cx)(x:Str):Prop:=X.env.kindOf x=ξ .globalImplicit
theorem a0p{E:AB->AC->Prop}{pins:List (AA×Obj)}{s:AC}{σ:St}{H:Hp}{x:Str}{u:AB}{pos:Pos}{Q:AB->AC->Prop}(I:Inv X pins σ H s)(hg:Gl X x)(hm:X.mg x=ξ u)(h:Q u s)
 (hd:Δ x:=by decide):AH (model X.prog X.w) X.A (eval (.Name x pos) X.env) Q E s:=
 Calls.Name_function_global I.ok.kind hg (Calls.loadGlobal_global (by rw [I.ok.glob];exact I.mod.glob.keeps I.bk) hm h) hd
theorem a3X{E:AB->AC->Prop}{pins:List (AA×Obj)}{s:AC}{σ:St}{H:Hp}{x:Str}{u:AB}{pos:Pos}{Q:AB->AC->Prop}(I:Inv X pins σ H s)(hg:Gl X x)(hm:X.mg x=ζ)(hv:bootBuiltins x=ξ u)(h:Q u s)
 (hn:x≠"__name__":=by decide) (hd:Δ x:=by decide):AH (model X.prog X.w) X.A (eval (.Name x pos) X.env) Q E s:=by
 obtain⟨mb,h1,h2⟩:=I.mod.blt
 exact Calls.Name_function_global I.ok.kind hg (Calls.loadGlobal_builtin (by rw [I.ok.glob];exact I.mod.glob.keeps I.bk) hm (by rw [I.ok.blt];exact h1.keeps I.bk) ((h2 x hn).trans hv) h) hd
theorem K7{x:Str}{v:V}{u:AB}{pos:Pos}(hg:Gl X x)(hm:X.mg x=ξ u)(r:y4 v u)(hd:Δ x:=by decide):PE X (.Name x pos) (tC v):=
 λ_ _ _ H _ I h=>a0p I hg hm ⟨v,H,I,r,h⟩ hd
theorem D7{x:Str}{v:V}{u:AB}{pos:Pos}(hg:Gl X x)(hm:X.mg x=ζ)(hv:bootBuiltins x=ξ u)(r:y4 v u)(hn:x≠"__name__":=by decide)(hd:Δ x:=by decide):PE X (.Name x pos) (tC v):=
 λ_ _ _ H _ I h=>a3X I hg hm hv ⟨v,H,I,r,h⟩ hn hd
variable {a b:AF}{ta tb:TE}{pos:Pos}
variable {tA tB':TT}{rest:List AF}
def c5i(t u:TT):TT:=λσ H Q=>t σ H λc H1=>if c=true then u σ H1 Q else Q false H1
def tOr(t u:TT):TT:=λσ H Q=>t σ H λc H1=>if c=true then Q true H1 else u σ H1 Q
def c5p(t:TT):TT:=λσ H Q=>t σ H λc H1=>Q (!c) H1
theorem c1e(ha:PT X a tA):PW X (.BoolOp .And [a] pos) tA:=by
 intro wh pins s σ H Q I h;refine isTrue_and (M9 (ha pins s σ H Q I h) λc s1 e=> ?_);cases c with
 |true=>exact isTrue_and_nil e
 |false=>exact e
theorem c3E(ha:PT X a tA):PW X (.BoolOp .Or [a] pos) tA:=by
 intro wh pins s σ H Q I h;refine isTrue_or (M9 (ha pins s σ H Q I h) λc s1 e=> ?_);cases c with
 |false=>exact isTrue_or_nil e
 |true=>exact e
theorem c3D(ha:PT X a tA)(hb:PW X (.BoolOp .And (b::rest) pos) tB'):PW X (.BoolOp .And (a::b::rest) pos) (c5i tA tB'):=by
 intro wh pins s σ H Q I h;refine isTrue_and (M9 (ha pins s σ H _ I h) λc s1 ⟨H1,I1,q1⟩=> ?_);cases c with
 |true=>exact hb wh pins s1 σ H1 Q I1 q1
 |false=>exact⟨H1,I1,q1⟩
theorem c4F(ha:PT X a tA)(hb:PW X (.BoolOp .Or (b::rest) pos) tB'):PW X (.BoolOp .Or (a::b::rest) pos) (tOr tA tB'):=by
 intro wh pins s σ H Q I h;refine isTrue_or (M9 (ha pins s σ H _ I h) λc s1 ⟨H1,I1,q1⟩=> ?_);cases c with
 |true=>exact⟨H1,I1,q1⟩
 |false=>exact hb wh pins s1 σ H1 Q I1 q1
theorem c3C(ha:PT X a tA):PT X (.UnaryOp .Not a pos) (c5p tA):=by
 ext s
 exact isTrue_not (ha pins s σ H (λc H1=>Q (!c) H1) I h)
def c4M(ta tb:TE):TE:=λσ H Q=>ta σ H λx H1=>∃c,x= .bl c/\if c=true then tb σ H1 Q else Q (.bl false) H1
def c4P(ta:TE):TE:=λσ H Q=>ta σ H λx H1=>∃c,x= .bl c/\Q (.bl (!c)) H1
theorem c3w{op}{t:TE}(h:PE X a t):PE X (.BoolOp op [a] pos) t:=λpins s σ H Q I hw=>BoolOp_one (h pins s σ H Q I hw)
theorem c3q(ha:PE X a ta)(hb:PE X (.BoolOp .And (b::rest) pos) tb):PE X (.BoolOp .And (a::b::rest) pos) (c4M ta tb):=by
 ext s
 refine BoolOp_and (M9 (ha pins s σ H _ I h) λv s1 h0=>w8 h0 λx H1 I1 r1 q1=> ?_);obtain⟨c,rfl,q1⟩:=q1;cases r1;refine wpAny_truthy_bool ?_;cases c with
 |true=>exact hb pins s1 σ H1 Q I1 q1
 |false=>exact⟨.bl false,H1,I1,rfl,q1⟩
theorem c3v(ha:PE X a ta):PE X (.UnaryOp .Not a pos) (c4P ta):=by
 ext s
 refine UnaryOp_ (M9 (ha pins s σ H _ I h) λv s1 h0=>w8 h0 λx H1 I1 r1 q1=> ?_);obtain⟨c,rfl,q1⟩:=q1;cases r1;exact not_of (wpAny_truthy_bool ⟨.bl (!c),H1,I1,rfl,q1⟩)
end
def Y7(K:AE)(H:Hp)(a:AA)(xs:List V):Prop:=
 Rd H a (.lst xs)\/
  ∃(o:Obj) (its:Array AB) (n:Nat),K.lookup a=ξ o/\o.cls= .type "list"/\o.dict=ζ/\o.data= .seq its n/\its.size<=AN/\y0 xs its.toList
def SqT(K:AE)(H:Hp)(a:AA)(xs:List V):Prop:=
 Rd H a (.tup xs)\/
  ∃(o:Obj) (its:Array AB) (n:Nat),K.lookup a=ξ o/\o.cls= .type "tuple"/\o.data= .seq its n/\its.size<=AN/\y0 xs its.toList
def c43:AB->Υ V
 | .none=>ξ .non
 | .bool b=>ξ (.bl b)
 | .int i _=>ξ (.int i)
 | .str x _=>ξ (.str x)
 | .bytes b _=>ξ (.byt b)
 | .float b _=>ξ (.flt b)
 | .ref a=>ξ (.ref a)
 | .type n=>ξ (.ty n)
 |_=>ζ
theorem y4.abs{x:V}{u:AB}(r:y4 x u):c43 u=ξ x:=by
 cases x with
 |non=>cases r;rfl
 |bl _=>cases r;rfl
 |int _=>obtain⟨t,rfl⟩:=r;rfl
 |str _=>obtain⟨t,rfl⟩:=r;rfl
 |byt _=>obtain⟨t,rfl⟩:=r;rfl
 |flt _=>obtain⟨t,rfl⟩:=r;rfl
 |ref _=>cases r;rfl
 |ty _=>cases r;rfl
theorem y4.inj{x y:V}{u:AB}(r:y4 x u)(q:y4 y u):x=y:=Option.some.inj (r.abs.symm.trans q.abs)
theorem y0.inj:∀{xs ys:List V} {us:List AB},y0 xs us->y0 ys us->xs=ys
 |_,_,_,.nil,.nil=>rfl
 |_,_,_,.cons r t,.cons r' t'=>by rw [r.inj r',y0.inj t t']
section
variable {X:Cx}{pins:List (AA×Obj)}{σ:St}{H:Hp}{s:AC}{a:AA}{xs ys:List V}
theorem Y7.of{K:AE}(h:H a=ξ (.lst xs)):Y7 K H a xs:= .inl (.inl h)
theorem Inv.list(I:Inv X pins σ H s)(h:Y7 X.K H a xs):∃its:List AB,y0 xs its/\PlainL s.heap a its.toArray/\xs.length<=AN:=by
 rcases h with h|⟨o,its,n,hk,hc,hd,hs,hz,r⟩
 ·obtain⟨z,its,n,r,e⟩:=h.ok I.hok;exact⟨its,r,⟨_,n,e,rfl,rfl,rfl⟩,z⟩
 ·refine⟨its.toList,r,⟨o,n,I.kIn a o hk,hc,hd,by simpa using hs⟩, ?_⟩
  have e:=r.length;simp only [Array.length_toList] at e
  lia
theorem Inv.tuple(I:Inv X pins σ H s)(h:SqT X.K H a xs):∃its:List AB,y0 xs its/\IsTup s.heap a its.toArray/\xs.length<=AN:=by
 rcases h with h|⟨o,its,n,hk,hc,hs,hz,r⟩
 ·obtain⟨z,its,r,p⟩:=h.ok I.hok;exact⟨its,r,p,z⟩
 ·refine⟨its.toList,r,⟨o,I.kIn a o hk,hc,n,by simpa using hs⟩, ?_⟩
  have e:=r.length;simp only [Array.length_toList] at e
  lia
theorem Inv.list_inj(I:Inv X pins σ H s)(h:Y7 X.K H a xs)(h':Y7 X.K H a ys):xs=ys:=by
 obtain⟨its,r,⟨o,n,e,_,_,d⟩,_⟩:=I.list h;obtain⟨its',r',⟨o',n',e',_,_,d'⟩,_⟩:=I.list h';rw [e] at e';cases e';rw [d] at d';injection d' with d1 _
 have:its=its':=by simpa using congrArg Array.toList d1
 subst this;exact r.inj r'
theorem Inv.tuple_inj(I:Inv X pins σ H s)(h:SqT X.K H a xs)(h':SqT X.K H a ys):xs=ys:=by
 obtain⟨its,r,⟨o,e,_,n,d⟩,_⟩:=I.tuple h;obtain⟨its',r',⟨o',e',_,n',d'⟩,_⟩:=I.tuple h';rw [e] at e';cases e';rw [d] at d';injection d' with d1 _
 have:its=its':=by simpa using congrArg Array.toList d1
 subst this;exact r.inj r'
end
abbrev Cx.wish(X:Cx)(E:AB->AC->Prop):Cx:={X with xe:=E}
abbrev Cx.nox(X:Cx):Cx:=X.wish λ_ _=>False
theorem Cx.Ok.wish{X:Cx}(ok:X.Ok)(E:AB->AC->Prop):(X.wish E).Ok:=
 ⟨ok.mod,ok.kind,ok.glob,ok.blt,ok.above,ok.inj,ok.has,ok.cab,ok.hd,ok.frames,ok.stk,ok.exf,ok.bs,ok.bsz,ok.noex,ok.exfs,ok.funs,ok.frf⟩
theorem Cx.Ok.unwish{X:Cx}{E:AB->AC->Prop}(ok:(X.wish E).Ok):X.Ok:=
 ⟨ok.mod,ok.kind,ok.glob,ok.blt,ok.above,ok.inj,ok.has,ok.cab,ok.hd,ok.frames,ok.stk,ok.exf,ok.bs,ok.bsz,ok.noex,ok.exfs,ok.funs,ok.frf⟩
section
variable {X:Cx}{pins:List (AA×Obj)}{σ:St}{H:Hp}{s:AC}{E:AB->AC->Prop}
theorem Inv.wish(I:Inv X pins σ H s)(E:AB->AC->Prop):Inv (X.wish E) pins σ H s:=⟨I.ok.wish E,I.os,I.bare,I.base,I.loc,I.cell,I.free,I.freeC,I.pin,I.hok,I.len⟩
theorem Inv.unwish(I:Inv (X.wish E) pins σ H s):Inv X pins σ H s:=⟨I.ok.unwish,I.os,I.bare,I.base,I.loc,I.cell,I.free,I.freeC,I.pin,I.hok,I.len⟩
theorem SP.unwish{D:U7}{f:Flow}{s':AC}(h:SP (X.wish E) pins D f s'):SP X pins D f s':=by
 cases f with
 |next=>obtain⟨σ',H',I,q⟩:=h;exact⟨σ',H',I.unwish,q⟩
 |brk=>obtain⟨σ',H',I,q⟩:=h;exact⟨σ',H',I.unwish,q⟩
 |cont=>obtain⟨σ',H',I,q⟩:=h;exact⟨σ',H',I.unwish,q⟩
 |ret u=>obtain⟨v,σ',H',I,r,q⟩:=h;exact⟨v,σ',H',I.unwish,r,q⟩
theorem PSs.nox{st:List Stmt}{t:TS}(h:PSs X.nox st t):PSs X st t:=λpins s σ H D I hw=>
 wpAny_mono (h pins s σ H D (I.wish _) hw) (λ_ _ q=>q.unwish) λ_ _ z=>False.elim z
end
section
variable {X:Cx}{st:Stmt}{rest:List Stmt}{t u:TS}{e:AF}{te:TE}{pos:Pos}
def b9B:TS:=λD σ H=>D.nx σ H
def b65(t u:TS):TS:=λD σ H=>t {D with nx:=u D} σ H
theorem a0s:PSs X [] b9B:=λ_ _ σ H _ I h=>wpAny_execs_nil ⟨σ,H,I,h⟩
theorem D6(h1:PS X st t)(h2:PSs X rest u):PSs X (st::rest) (b65 t u):=by
 ext a9
 refine wpAny_execs_cons (M9 (h1 pins s σ H {D with nx:=u D} I h) λf s1 q=> ?_)
 cases f with
 |next=>
  obtain⟨σ',H',I',q⟩:=q;exact h2 pins s1 σ' H' D I' q
 |ret v=>exact q
 |brk=>exact q
 |cont=>exact q
theorem b5L(h1:PS X st t):PSs X [st] t:=by
 ext a9
 refine wpAny_execs_cons (M9 (h1 pins s σ H D I h) λf s1 q=> ?_);cases f with
 |next=>exact wpAny_execs_nil q
 |ret v=>exact q
 |brk=>exact q
 |cont=>exact q
theorem Inv.quiet{pins:List (AA×Obj)}{σ:St}{H:Hp}{s:AC}(I:Inv X pins σ H s):interactive X.env=false:=by simp [interactive,I.ok.kind]
def c4N(te:TE):TS:=λD σ H=>te σ H λ_ H1=>D.nx σ H1
theorem b1N(he:PE X e te)(hs:swapsWith e ζ pos.line X.env=pure false:=by rfl):PS X (.Expr e pos) (c4N te):=by
 ext a9
 exact wpAny_Expr_any (M9 (he pins s σ H _ I h) λv s1 h0=>w8 h0 λx H1 I1 r1 q1=>⟨σ,H1,I1,q1⟩) I.quiet hs
def c5q(te:TE):TS:=λD σ H=>te σ H D.rt
theorem b9e(he:PE X e te):PS X (.Return (ξ e) pos) (c5q te):=by
 ext a9
 exact wpAny_Return_some (M9 (he pins s σ H _ I h) λv s1 h0=>w8 h0 λx H1 I1 r1 q1=>⟨x,σ,H1,I1,r1,q1⟩)
def c5n(c:TT)(t u:TS):TS:=λD σ H=>c σ H λb H1=>if b=true then t D σ H1 else u D σ H1
theorem c13{c:AF}{a b:List Stmt}{tc:TT}(hc:PT X c tc)(ha:PSs X a t)(hb:PSs X b u):PS X (.If c a b pos) (c5n tc t u):=by
 ext a9
 refine wpAny_If (M9 (hc pins s σ H _ I h) λd s1 ⟨H1,I1,q1⟩=> ?_);cases d with
 |true=>exact ha pins s1 σ H1 D I1 q1
 |false=>exact hb pins s1 σ H1 D I1 q1
end
abbrev TG:=V->St->Hp->(St->Hp->Prop)->Prop
abbrev TGs:=List V->St->Hp->(St->Hp->Prop)->Prop
def PG(X:Cx)(target:AF)(t:TG):Prop:=
 ∀pins s σ (H:Hp) (v:V) (u:AB) (Q:St->Hp->Prop),Inv X pins σ H s->y4 v u->t v σ H Q->
  AH (model X.prog X.w) X.A (assign target X.env u) (λ_ s'=>∃σ' H',Inv X pins σ' H' s'/\Q σ' H') X.xe s
def PGs(X:Cx)(ts:List AF)(t:TGs):Prop:=
 ∀pins s σ (H:Hp) (vs:List V) (us:List AB) (Q:St->Hp->Prop),Inv X pins σ H s->y0 vs us->t vs σ H Q->
  AH (model X.prog X.w) X.A (assignInOrder ((assignEach ts X.env).map (·.2)) us) (λ_ s'=>∃σ' H',Inv X pins σ' H' s'/\Q σ' H') X.xe s
abbrev TIp:=V->V->Hp->VK->Prop
def PIp(X:Cx)(op:Operator)(t:TIp):Prop:=
 ∀pins s σ (H:Hp) (x y:V) (v u:AB) (Q:VK),Inv X pins σ H s->y4 x v->y4 y u->t x y H Q->
  AH (model X.prog X.w) X.A (inplaceOp op v u) (EP X pins σ Q) X.xe s
section
variable {X:Cx}{pos:Pos}
def b2E(i:Nat):TG:=λv σ H Q=>Q (σ.set i (ξ v)) H
theorem C6{i:Nat}{x:Str}(hN:X.N.Nodup)(hi:X.N[i]?=ξ x)(hx:Loc X.env.scope x)(hf:X.fn x=true\/X.env.scope.names.lookup x=ξ .local:=by first|exact .inl rfl|exact .inr rfl|assumption):PG X (.Name x pos) (b2E i):=by
 intro pins s σ H v u Q I r h;exact wpAny_assign_Name (a6D I hN hi hx r (λs' I'=>⟨_,H,I',h⟩) hf)
def c4h:TGs:=λvs σ H Q=>vs=[]/\Q σ H
def c1U(t:TG)(u:TGs):TGs:=λvs σ H Q=>∃v r,vs=v::r/\t v σ H λσ' H'=>u r σ' H' Q
theorem b1M:PGs X [] c4h:=by
 intro pins s σ H vs us Q I r h;obtain⟨e,h⟩:=h;subst e;cases r;exact assignInOrder_nil ⟨σ,H,I,h⟩
theorem a2v{e:AF}{es:List AF}{t:TG}{u:TGs}(h1:PG X e t)(h2:PGs X es u)
 (hs:(assignEach (e::es) X.env).map (·.2)=assign e X.env::(assignEach es X.env).map (·.2):=by rfl):PGs X (e::es) (c1U t u):=by
 intro pins s σ H vs us Q I r h
 obtain⟨v,vr,e1,h⟩:=h
 subst e1
 cases r with
 |cons r rr=>
  rw [hs]
  refine assignInOrder_cons (M9 (h1 pins s σ H _ _ _ I r h) λ_ s1 ⟨σ1,H1,I1,q1⟩=> ?_)
  exact h2 pins s1 σ1 H1 _ _ Q I1 rr q1
def c4i(K:AE)(n:Nat)(t:TGs):TG:=λv σ H Q=>∃a xs,v= .ref a/\SqT K H a xs/\xs.length=n/\t xs σ H Q
theorem b4K{es:List AF}{k:Nat}{t:TGs}{n:Nat}(hc:X.calm=true)(h:PGs X es t)
 (hn:(assignEach es X.env).length=n:=by rfl) (hst:(assignEach es X.env).findIdx? (·.1)=ζ:=by rfl):PG X (.Tuple es k pos) (c4i X.K n t):=by
 intro pins s σ H v u Q I r hw
 obtain⟨a,xs,e1,hq,hl,hw⟩:=hw
 subst e1
 cases r
 obtain⟨its,rv,ht,hz⟩:=I.tuple hq
 refine assign_Tuple_tuple (I.ok.hd hc) ht (by simp [hn,<-hl,rv.length]) hst λh' hx=> ?_
 have I1:Inv X pins σ H {s with heap:=h'}:=I.kept (t':=s.toks) λb o e=>hx b o (Ak (AW e)) e
 exact h pins _ σ H xs _ Q I1 (by simpa using rv) hw
def c5j(te:TE)(g:TG):TS:=λD σ H=>te σ H λx H1=>g x σ H1 D.nx
theorem b9f{i:Nat}{x:Str}{e:AF}{te:TE}{pos':Pos}(hN:X.N.Nodup)(hi:X.N[i]?=ξ x)(hx:Loc X.env.scope x)(he:PE X e te)(hs:swapsWith e (ξ (.Name x pos')) pos.line X.env=pure false:=by rfl)(hf:X.fn x=true\/X.env.scope.names.lookup x=ξ .local:=by first|exact .inl rfl|exact .inr rfl|assumption):
 PS X (.Assign [.Name x pos'] e pos) (c5j te (b2E i)):=by
 intro pins s σ H D I h
 refine wpAny_Assign_Name (M9 (he pins s σ H _ I h) λv s1 h0=>w8 h0 λy H1 I1 r1 q1=> ?_) hs
 exact a6D I1 hN hi hx r1 (λs2 I2=>⟨_,H1,I2,q1⟩) hf
def c5k(i:Nat)(te:TE)(ti:TIp):TS:=λD σ H=>∃x,σ[i]?=ξ (ξ x)/\te σ H λy H1=>ti x y H1 λz H2=>D.nx (σ.set i (ξ z)) H2
theorem c3B{i:Nat}{x:Str}{e:AF}{te:TE}{op:Operator}{ti:TIp}{pos':Pos}(hN:X.N.Nodup)(hi:X.N[i]?=ξ x)(hx:Loc X.env.scope x)(he:PE X e te)(ho:PIp X op ti)(hf:X.fn x=true\/X.env.scope.names.lookup x=ξ .local:=by first|exact .inl rfl|exact .inr rfl|assumption):
 PS X (.AugAssign (.Name x pos') op e pos) (c5k i te ti):=by
 intro pins s σ H D I h
 obtain⟨v,e1,h⟩:=h
 obtain⟨m,hn,hl⟩:=I.loc
 have vis:Vis X.env.scope x:=by rcases hx with k|k;exact .inl k;exact .inr (.inl k)
 obtain⟨u,r,l⟩:=hl i x v hi e1 vis
 refine wpAny_AugAssign_Name ?_
 have go:AH (model X.prog X.w) X.A (eval e X.env) (λw s₂=>AH (model X.prog X.w) X.A (inplaceOp op u w) (λr s₃=>AH (model X.prog X.w) X.A (storeName X.env x r) (λ_=>SP X pins D .next) X.xe s₃) X.xe s₂) X.xe s:=by
  refine M9 (he pins s σ H _ I h) λw s1 h0=>w8 h0 λy H1 I1 r1 q1=> ?_;refine M9 (ho pins s1 σ H1 v y u w _ I1 r r1 q1) λz s2 h0=>w8 h0 λzv H2 I2 r2 q2=> ?_;exact a6D I2 hN hi hx r2 (λs3 I3=>⟨_,H2,I3,q2⟩) hf
 rcases l with⟨hk,hm⟩|⟨hk,c,hc,hcell⟩
 ·exact wpAny_loadName_local I.ok.kind hk hn hm go
 ·rcases hk with hk|hk
  ·exact wpAny_loadName_cell I.ok.kind hk hc hcell go
  ·rcases hx with k|k
   ·have:X.env.scope.names.lookup x=ξ .free:=hk
    rw [k] at this;cases this
   ·have:X.env.scope.names.lookup x=ξ .free:=hk
    rw [k] at this;cases this
def c3N(c:TT)(tb:TS):TS:=λD σ H=>∃W:Nat->St->Hp->Prop,(∃m,W m σ H)/\∀m σ H,W m σ H->
 c σ H λb H1=>if b=true then ∃N:St->Hp->Prop,(∀σ' H',N σ' H'->∃m',m'<m/\W m' σ' H')/\tb {D with nx:=N,ct:=N,bk:=D.nx} σ H1 else D.nx σ H1
theorem b9h{c:AF}{body:List Stmt}{tc:TT}{tb:TS}(hp:PassesOwn (model X.prog X.w) X.A X.env X.xe)(hc:PT X c tc)(hb:PSs X body tb):PS X (.While c body [] pos) (c3N tc tb):=by
 ext a9
 obtain⟨W,⟨m0,w0⟩,turn⟩:=h;refine wpAny_While (codeAny_whileLoop (λn s'=>∃σ' H',Inv X pins σ' H' s'/\W n σ' H') ?_ m0 ⟨σ,H,I,w0⟩);rintro n s1 ⟨σ1,H1,I1,w1⟩;refine wpAny_passesOwn hp (M9 (hc pins s1 σ1 H1 _ I1 (turn n σ1 H1 w1)) λb s2 ⟨H2,I2,q2⟩=> ?_);cases b with
 |true=>
  obtain⟨N,hN,q2⟩:=q2;rw [if_pos rfl];refine wpAny_passesOwn hp (M9 (hb pins s2 σ1 H2 _ I2 q2) λf s3 q3=> ?_);cases f with
  |next=>
   obtain⟨σ3,H3,I3,n3⟩:=q3;obtain⟨m',hm,w3⟩:=hN σ3 H3 n3;exact⟨m',hm,σ3,H3,I3,w3⟩
  |cont=>
   obtain⟨σ3,H3,I3,n3⟩:=q3;obtain⟨m',hm,w3⟩:=hN σ3 H3 n3;exact⟨m',hm,σ3,H3,I3,w3⟩
  |brk=>exact q3
  |ret v=>exact q3
 |false=>
  rw [if_neg Ao];exact wpAny_execs_nil ⟨σ1,H2,I2,q2⟩
end
structure It where
 go:Nat->Hp->Prop
 yld:Nat->Hp->V->Hp->Prop
 stop:Nat->Hp->Prop
def a5e(X:Cx)(pins:List (AA×Obj))(H:Hp)(b:AA):Prop:=
 H b=ζ/\b≠X.env.locals/\b∉X.fs/\(b∈X.ex\/X.s₀.heap.objs.size<=b)/\(∀x c,X.env.cells.lookup x=ξ c->c≠b)/\∀p∈X.pn++pins,p.1≠b
theorem Inv.fpOk{X:Cx}{pins:List (AA×Obj)}{σ:St}{H H':Hp}{s:AC}{b:AA}(I:Inv X pins σ H s)(hb:s.heap.objs.size<=b)(hn:H' b=ζ):a5e X pins H' b:=by
 refine⟨hn,Nat.ne_of_gt (As I.lt hb),I.nofs hb,.inr (Nat.le_trans I.sz hb),λx c e z=> ?_,λp hp z=> ?_⟩
 ·obtain⟨v,q⟩:=I.cell x c e;exact absurd (As q.lt (by rw [z];exact hb)) (Nat.lt_irrefl _)
 ·exact absurd (As (AW (I.pin p hp).1) (by rw [z];exact hb)) (Nat.lt_irrefl _)
structure b01(P:AK)(w:AJ)(K:AE)(tg:AF)(J:It)(fp:List AA)(it:AA)(tn:Nat->Heap->Prop):Prop where
 mem:it∈fp
 obj:∀i h,tn i h->∀b∈fp,∃o,h.get? b=ξ o/\∀v,o.data≠.cell v
 keep:∀i h h',tn i h->(∀b∈fp,∀o,h.get? b=ξ o->h'.get? b=ξ o)->tn i h'
 item:∀(X:Cx),X.prog=P->X.w=w->X.K=K->X.calm=true->∀(i:Nat) (pins:List (AA×Obj)) (s:AC) (σ:St) (H:Hp) (E:AB->AC->Prop),Inv X pins σ H s->(∀b∈fp,a5e X pins H b)->tn i s.heap->J.go i H->
  AH (model P w) X.A (pyNext (.ref it)) (λr s1=>∃u,r=ξ u/\
   AH (model P w) X.A (letOwnedTupleGo tg (.ref it) u) (λ_ s2=>∃x H',Inv X pins σ H' s2/\y4 x u/\J.yld i H x H'/\tn (i+1) s2.heap/\∀b∈fp,H' b=ζ) E s1) E s
 done:∀(X:Cx),X.prog=P->X.w=w->X.K=K->X.calm=true->∀(i:Nat) (pins:List (AA×Obj)) (s:AC) (σ:St) (H:Hp) (E:AB->AC->Prop),Inv X pins σ H s->(∀b∈fp,a5e X pins H b)->tn i s.heap->J.stop i H->
   AH (model P w) X.A (pyNext (.ref it)) (λr s1=>r=ζ/\Inv X pins σ H s1) E s
 self:∀(A:AL) (i:Nat) (s:AC) (Q:AB->AC->Prop) (E:AB->AC->Prop),tn i s.heap->Q (.ref it) s->AH (model P w) A (pyIter (.ref it)) Q E s
abbrev TI:=St->Hp->(It->Hp->Prop)->Prop
def PIE(X:Cx)(pins:List (AA×Obj))(σ:St)(tg:AF)(R:It->Hp->Prop)(itv:AB)(s2:AC):Prop:=
 ∃(it:AA) (fp:List AA) (tn:Nat->Heap->Prop) (J:It) (H':Hp),itv= .ref it/\Inv X pins σ H' s2/\b01 X.prog X.w X.K tg J fp it tn/\tn 0 s2.heap/\(∀b∈fp,a5e X pins H' b)/\R J H'
def PI(X:Cx)(tg iter:AF)(wi:TI):Prop:=
 ∀pins s σ (H:Hp) (R:It->Hp->Prop),Inv X pins σ H s->wi σ H R->
  AH (model X.prog X.w) X.A (eval iter X.env) (λv s1=>AH (model X.prog X.w) X.A (pyIter v) (PIE X pins σ tg R) X.xe s1) X.xe s
theorem b5l{M:Model}{A:AL}{E:AB->AC->Prop}{s:AC}{tg:AF}{it:AA}{u:AB}{o:Obj}{n:String}{vs:Array AB}{Q:Unit->AC->Prop}(ho:s.heap.get? it=ξ o)(hc:o.cls= .type n)(hd:o.data= .fields vs)
 (hn:["enumerate","zip","dict_itemiterator","dict_reverseitemiterator","odict_iterator","itertools.zip_longest","itertools.pairwise"].contains n=false) (hQ:Q () s):AH M A (letOwnedTupleGo tg (.ref it) u) Q E s:=by
 unfold letOwnedTupleGo
 cases tg<;>first
  |exact AR hQ
  |(cases u<;>first
   |exact AR hQ
   |(refine AG (wpAny_load ho ?_)
     rw [hc,hd]
     show AH M A (if(["enumerate","zip","dict_itemiterator","dict_reverseitemiterator","odict_iterator","itertools.zip_longest","itertools.pairwise"].contains n && vs[0]?==ξ (rawInt _))=true then _ else _) Q E s
     rw [if_neg (by intro h;rw [hn,Bool.false_and] at h;cases h)]
     exact AR hQ))
def Itl(K:AE)(a:AA):It:=
 ⟨λi H=>∃xs x,Y7 K H a xs/\xs[i]?=ξ x,λi H x H'=>H'=H/\∀xs,Y7 K H a xs->xs[i]?=ξ x,λi H=>∃xs,Y7 K H a xs/\xs.length<=i⟩
def Itt(K:AE)(a:AA):It:=
 ⟨λi H=>∃xs x,SqT K H a xs/\xs[i]?=ξ x,λi H x H'=>H'=H/\∀xs,SqT K H a xs->xs[i]?=ξ x,λi H=>∃xs,SqT K H a xs/\xs.length<=i⟩
def Itr(lo:Int)(n:Nat):It:=⟨λi _=>i<n,λi H x H'=>H'=H/\x= .int (lo+i),λi _=>n<=i⟩
theorem b68{P:AK}{w:AJ}{K:AE}{tg:AF}(a it:AA):b01 P w K tg (Itl K a) [it] it (λi h=>h.IsListIter it a i) where
 mem:=by simp
 obj:=λi h st b hb=>by
  have e:b=it:=by simpa using hb
  subst e
  ext aa
 keep:=λi h h' st k=>st.at λo e=>k it (by simp) o e
 item:=by
  ext h
  obtain⟨xs,x,hq,hx⟩:=hg;obtain⟨its,rv,p,hz⟩:=I.list hq;obtain⟨u,hu,ru⟩:=rv.get hx
  ext n
  refine wpAny_pyNext_list_item st p.isList (x:=u) (by simpa using hu) λh' st' sb=> ?_
  have I1:Inv X pins σ H {s with heap:=h'}:=I.turned (t':=s.toks) (λb o hb e=>(sb.2 b hb).trans e) f0 f1 f3 f4 f5
  obtain⟨o,e,c,d⟩:=id st';exact⟨u,rfl,b5l (s:={s with heap:=h'}) e c d (by decide) ⟨x,H,I1,ru,⟨rfl,λys hy=>by rw [I.list_inj hy hq];exact hx⟩,st',λb hb=>(hf b hb).1⟩⟩
 done:=by
   ext h
   obtain⟨xs,hq,hx⟩:=hg;obtain⟨its,rv,p,hz⟩:=I.list hq
   ext n
   have hl:=rv.length;exact wpAny_pyNext_list_end (I.ok.hd hc) st p.isList (by simp;lia) λh' eb=>⟨rfl,I.turned (t':=s.toks) (λb o hb e=>eb b o hb e) f0 f1 f3 f4 f5⟩
 self:=λ_ _ _ _ _ st h=>wpAny_pyIter_listiter st h
theorem b4Y{P:AK}{w:AJ}{K:AE}{tg:AF}(a it:AA):b01 P w K tg (Itt K a) [it] it (λi h=>h.IsTupleIter it a i) where
 mem:=by simp
 obj:=λi h st b hb=>by
  have e:b=it:=by simpa using hb
  subst e
  ext aa
 keep:=λi h h' st k=>st.at λo e=>k it (by simp) o e
 item:=by
  ext h
  obtain⟨xs,x,hq,hx⟩:=hg;obtain⟨its,rv,p,hz⟩:=I.tuple hq;obtain⟨u,hu,ru⟩:=rv.get hx
  ext n
  refine wpAny_pyNext_tuple_item st (show s.heap.IsTuple a its.toArray from p) (x:=u) (by simpa using hu) λh' st' sb=> ?_
  have I1:Inv X pins σ H {s with heap:=h'}:=I.turned (t':=s.toks) (λb o hb e=>(sb.2 b hb).trans e) f0 f1 f3 f4 f5
  obtain⟨o,e,c,d⟩:=id st';exact⟨u,rfl,b5l (s:={s with heap:=h'}) e c d (by decide) ⟨x,H,I1,ru,⟨rfl,λys hy=>by rw [I.tuple_inj hy hq];exact hx⟩,st',λb hb=>(hf b hb).1⟩⟩
 done:=by
   ext h
   obtain⟨xs,hq,hx⟩:=hg;obtain⟨its,rv,p,hz⟩:=I.tuple hq
   ext n
   have hl:=rv.length;exact wpAny_pyNext_tuple_end (I.ok.hd hc) st (show s.heap.IsTuple a its.toArray from p) (by simp;lia) λh' eb=>⟨rfl,I.turned (t':=s.toks) (λb o hb e=>eb b o hb e) f0 f1 f3 f4 f5⟩
 self:=λ_ _ _ _ _ st h=>wpAny_pyIter_tupleiter st h
theorem b4X{P:AK}{w:AJ}{K:AE}{tg:AF}(it:AA)(lo:Int)(n:Nat):b01 P w K tg (Itr lo n) [it] it (λi h=>IsRangeIter h it (lo+(i:Nat)*1) ((n:Int) - (i:Nat)) 1) where
 mem:=by simp
 obj:=λi h st b hb=>by
  have e:b=it:=by simpa using hb
  subst e;exact⟨_,st,λv z=>by
   have z':Data.fields _=Data.cell v:=z;cases z'⟩
 keep:=λi h h' st k=>k it (by simp) _ st
 item:=by
  ext h
  ext n
  have W:=Walks.range (prog:=X.prog) (w:=X.w) (I.ok.hd hc) it lo 1 n;refine W.item i s _ _ hg st λv h' tk hv st' kk=> ?_;obtain⟨t,rfl⟩:=hv;have I1:Inv X pins σ H {s with heap:=h',toks:=tk}:=I.turned (λb o hb e=>kk b o (by simpa using hb) e) f0 f1 f3 f4 f5
  refine⟨_,rfl,b5l (s:={s with heap:=h',toks:=tk}) (n:="range_iterator") st' rfl rfl (by decide) ⟨.int (lo+i),H,I1,⟨t, ?_⟩,⟨rfl,rfl⟩,st',λb hb=>(hf b hb).1⟩⟩
  rw [Int.mul_one]
 done:=by
   ext h
   ext n
   exact wpAny_pyNext_range_end (I.ok.hd hc) st (by have:n<=i:=hg;lia) λh' eb=>⟨rfl,I.turned (t':=s.toks) (λb o hb e=>eb b o hb e) f0 f1 f3 f4 f5⟩
 self:=λ_ _ _ _ _ st h=>wpAny_pyIter_rangeiter st h
section
variable {X:Cx}{tg:AF}
theorem b3i{pins:List (AA×Obj)}{σ:St}{H:Hp}{s:AC}{R:It->Hp->Prop}{E:AB->AC->Prop}{lo hi:Int}{t u v:Tok}{tk:Nat}(I:Inv X pins σ H s)(h1: -(2 ^ 62)<=lo)(h2:lo<2 ^ 62)(h3: -(2 ^ 62)<=hi)(h4:hi<2 ^ 62)
 (q:R (Itr lo (hi - lo).toNat) H):AH (model X.prog X.w) X.A (pyIter (.ref s.heap.objs.size)) (PIE X pins σ tg R) E {s with heap:=s.heap.push {cls:= .type "range",data:= .fields #[.int lo t,.int hi u,.int 1 v]},toks:=tk}:=by
 refine wpAny_pyIter_range (IsRange.new ..) (small_one h1 h2 h3 h4) ?_
 have I1:Inv X pins σ H {s with heap:=s.heap.push {cls:= .type "range",data:= .fields #[.int lo t,.int hi u,.int 1 v]},toks:=tk}:=I.kept λb o e=>AS _ e
 refine⟨(s.heap.push {cls:= .type "range",data:= .fields #[.int lo t,.int hi u,.int 1 v]}).objs.size,[(s.heap.push {cls:= .type "range",data:= .fields #[.int lo t,.int hi u,.int 1 v]}).objs.size],_,_,H,rfl,
  I1.kept (t':=tk) λb o e=>AS _ e,b4X _ lo (hi - lo).toNat, ?_,λb hb=> ?_,q⟩
 ·have e1:lo+((0:Nat):Int)*1=lo:=by simp
  have e2:(((hi - lo).toNat:Nat):Int) - ((0:Nat):Int)=Builtin.Range.rangeSize lo hi 1:=by rw [rangeSize_one];split<;>lia
  show IsRangeIter _ _ (lo+((0:Nat):Int)*1) ((((hi - lo).toNat:Nat):Int) - ((0:Nat):Int)) 1
  rw [e1,e2]
  exact Am _ rfl
 ·have e:b=(s.heap.push {cls:= .type "range",data:= .fields #[.int lo t,.int hi u,.int 1 v]}).objs.size:=by simpa using hb
  subst e
  exact I1.fpOk (AV _) (I1.hok.fresh (AV _))
def c4j(ta:TA):TI:=λσ H R=>ta σ H λvs H1=>∃j:Int,vs=[.int j]/\ -(2 ^ 62)<=j/\j<2 ^ 62/\R (Itr 0 j.toNat) H1
def c4k(ta:TA):TI:=λσ H R=>ta σ H λvs H1=>∃i j:Int,vs=[.int i,.int j]/\(-(2 ^ 62)<=i/\i<2 ^ 62/\ -(2 ^ 62)<=j/\j<2 ^ 62)/\R (Itr i (j - i).toNat) H1
theorem b6N{a:AF}{ta:TA}{p pos:Pos}(hg:Gl X "range")(hm:X.mg "range"=ζ)(ha:PA X [a] ta)(hs:AI [a] X.env=[(false,eval a X.env)]:=by rfl):PI X tg (.Call (.Name "range" p) [a] [] pos) (c4j ta):=by
 intro pins s σ H R I h;refine Call_ (a3X I hg hm boot_range (PyProof.Rows.callWith_type1 (M9 (ha pos pins s σ H _ I h) λus s1 h0=>w8 h0 λvs H1 I1 r1 q1=> ?_) hs rfl));obtain⟨j,e,q1,q2,q⟩:=q1;subst e;cases r1 with
 |cons r rr=>
  cases rr;obtain⟨t,rfl⟩:=r;exact call_range_1 (b3i I1 (by lia) (by lia) q1 q2 (by simpa using q))
theorem b6O{a b:AF}{ta:TA}{p pos:Pos}(hg:Gl X "range")(hm:X.mg "range"=ζ)(ha:PA X [a,b] ta)(hs:AI [a,b] X.env=[(false,eval a X.env),(false,eval b X.env)]:=by rfl)(hs2:AI [b] X.env=[(false,eval b X.env)]:=by rfl):
 PI X tg (.Call (.Name "range" p) [a,b] [] pos) (c4k ta):=by
 intro pins s σ H R I h
 refine Call_ (a3X I hg hm boot_range (PyProof.Rows.callWith_type1 (M9 (ha pos pins s σ H _ I h) λus s1 h0=>w8 h0 λvs H1 I1 r1 q1=> ?_) (by rw [hs,hs2]) (by rw [hs2];rfl)))
 obtain⟨i,j,e,⟨q1,q2,q3,q4⟩,q⟩:=q1
 subst e
 cases r1 with
 |cons r rr=>
  cases rr with
  |cons r' rr=>
   cases rr
   obtain⟨t,rfl⟩:=r
   obtain⟨t',rfl⟩:=r'
   exact call_range_2 (b3i I1 q1 q2 q3 q4 q)
def c5m(wi:TI)(g:TG)(tb:TS):TS:=λD σ H=>wi σ H λJ H1=>∃W:Nat->Nat->St->Hp->Prop,(∃m,W 0 m σ H1)/\∀i m σ H,W i m σ H->
 (J.stop i H/\D.nx σ H)\/(J.go i H/\∃N:St->Hp->Prop,(∀σ' H',N σ' H'->∃m',m'<m/\W (i+1) m' σ' H')/\∀x H',J.yld i H x H'->g x σ H' λσ2 H2=>tb {D with nx:=N,ct:=N,bk:=D.nx} σ2 H2)
def a9f(fp:List AA)(h:Heap):List (AA×Obj):=fp.filterMap λb=>(h.get? b).map λo=>(b,o)
theorem a2V{fp:List AA}{h:Heap}{b:AA}{o:Obj}(hb:b∈fp)(e:h.get? b=ξ o):(b,o)∈a9f fp h:=List.mem_filterMap.mpr ⟨b,hb,by rw [e];rfl⟩
theorem b6D{fp:List AA}{h:Heap}{p:AA×Obj}(hp:p∈a9f fp h):p.1∈fp/\h.get? p.1=ξ p.2:=by
 obtain⟨b,hb,e⟩:=List.mem_filterMap.mp hp;cases q:h.get? b with
 |none=>rw [q] at e;cases e
 |some o=>
  rw [q] at e;have e':(b,o)=p:=Option.some.inj e;subst e';exact⟨hb,q⟩
theorem Inv.pinned{pins:List (AA×Obj)}{σ:St}{H:Hp}{s:AC}{fp:List AA}(I:Inv X pins σ H s)(hf:∀b∈fp,a5e X pins H b)(ho:∀b∈fp,∃o,s.heap.get? b=ξ o/\∀v,o.data≠.cell v):Inv X (pins++a9f fp s.heap) σ H s:=
 I.pins_of λp hp=>(Av.mp hp).elim (λz=>I.pin p (Ay _ z)) λz=>by
  obtain⟨hb,e⟩:=b6D z;obtain⟨f0,f1,f2,_⟩:=hf p.1 hb;obtain⟨o,e',d⟩:=ho p.1 hb;rw [e] at e';cases e';exact⟨e,f0,f1,f2,d⟩
theorem Inv.unpinned{pins pl:List (AA×Obj)}{σ:St}{H:Hp}{s:AC}(I:Inv X (pins++pl) σ H s):Inv X pins σ H s:=I.pins_of λp hp=>I.pin p (Ay _ (BG _ hp))
theorem a7a{iter:AF}{body:List Stmt}{wi:TI}{g:TG}{tb:TS}{pos:Pos}(hp:PassesOwn (model X.prog X.w) X.A X.env X.xe)(hc:X.calm=true)(hi:PI X tg iter wi)(hg:PG X tg g)(hb:PSs X body tb)
 (hs:∀x,foldedSetIterable iter X.env x=pure x:=by intro _;rfl):PS X (.For tg iter body [] pos) (c5m wi g tb):=by
 intro pins s σ H D I h
 refine wpAny_For (M9 (hi pins s σ H _ I h) λv s1 h1=>M9 h1 λitv s2 h2=> ?_) hs
 obtain⟨it,fp,tn,J,H2,e,I2,T,st2,f2,W,⟨m0,w0⟩,turn⟩:=h2
 subst e
 have stat:∀{H':Hp},(∀b∈fp,H' b=ζ)->∀b∈fp,a5e X pins H' b:=λhn b hb=>⟨hn b hb,(f2 b hb).2⟩
 refine codeAny_forLoop_any (λn s'=>∃i σ' H',Inv X pins σ' H' s'/\tn i s'.heap/\(∀b∈fp,H' b=ζ)/\W i n σ' H') ?_ m0 ⟨0,σ,H2,I2,st2,λb hb=>(f2 b hb).1,w0⟩
 rintro n s3 ⟨i,σ3,H3,I3,st3,fr3,w3⟩
 rcases turn i n σ3 H3 w3 with⟨stop,qn⟩|⟨go,N,hN,step⟩
 ·refine wpAny_passesOwn hp (M9 (T.done X rfl rfl rfl hc i pins s3 σ3 H3 X.xe I3 (stat fr3) st3 stop) λr s4 ⟨hr,I4⟩=> ?_)
  subst hr
  exact wpAny_execs_nil ⟨σ3,H3,I4,qn⟩
 ·refine wpAny_passesOwn hp (M9 (T.item X rfl rfl rfl hc i pins s3 σ3 H3 X.xe I3 (stat fr3) st3 go) λr s4 ⟨u,hr,h4⟩=> ?_)
  subst hr
  refine wpAny_passesOwn hp (M9 h4 λ_ s5 ⟨x,H5,I5,r5,y5,st5,fr5⟩=> ?_)
  have I5':=I5.pinned (stat fr5) (T.obj _ _ st5)
  refine wpAny_passesOwn hp (M9 (hg _ s5 σ3 H5 x u _ I5' r5 (step x H5 y5)) λ_ s6 ⟨σ6,H6,I6,q6⟩=> ?_)
  refine wpAny_passesOwn hp (M9 (hb _ s6 σ6 H6 _ I6 q6) λf s7 q7=> ?_)
  have again:∀{σ7:St} {H7:Hp},Inv X (pins++a9f fp s5.heap) σ7 H7 s7->N σ7 H7->∃m,m<n/\∃i σ' H',Inv X pins σ' H' s7/\tn i s7.heap/\(∀b∈fp,H' b=ζ)/\W i m σ' H':=λ {σ7 H7} I7 n7=>by
   obtain⟨m',hm,w7⟩:=hN σ7 H7 n7;refine⟨m',hm,i+1,σ7,H7,I7.unpinned,T.keep _ _ _ st5 λb hb o e=>(I7.pin (b,o) (Ay _ (Ay _ (a2V hb e)))).1,λb hb=> ?_,w7⟩;obtain⟨o,e,d⟩:=T.obj _ _ st5 b hb;exact(I7.pin (b,o) (Ay _ (Ay _ (a2V hb e)))).2.1
  cases f with
  |next=>obtain⟨σ7,H7,I7,n7⟩:=q7;exact again I7 n7
  |cont=>obtain⟨σ7,H7,I7,n7⟩:=q7;exact again I7 n7
  |brk=>obtain⟨σ7,H7,I7,q7⟩:=q7;exact⟨σ7,H7,I7.unpinned,q7⟩
  |ret v=>obtain⟨x7,σ7,H7,I7,r7,q7⟩:=q7;exact⟨x7,σ7,H7,I7.unpinned,r7,q7⟩
end
theorem b72{K:AE}{a:AA}{xs:List V}{g:TG}{tb:TS}{D:U7}{σ:St}{H:Hp}(Pv:Nat->St->Hp->Prop)(h0:Pv 0 σ H)(hl:∀i σ H,i<=xs.length->Pv i σ H->Y7 K H a xs)
 (hs:∀i x σ H,xs[i]?=ξ x->Pv i σ H->g x σ H λσ2 H2=>tb {D with nx:=Pv (i+1),ct:=Pv (i+1),bk:=D.nx} σ2 H2) (hd:∀σ H,Pv xs.length σ H->D.nx σ H):
 ∃W:Nat->Nat->St->Hp->Prop,(∃m,W 0 m σ H)/\∀i m σ H,W i m σ H->
  ((Itl K a).stop i H/\D.nx σ H)\/((Itl K a).go i H/\∃N:St->Hp->Prop,(∀σ' H',N σ' H'->∃m',m'<m/\W (i+1) m' σ' H')/\∀x H',(Itl K a).yld i H x H'->g x σ H' λσ2 H2=>tb {D with nx:=N,ct:=N,bk:=D.nx} σ2 H2):=by
 refine⟨λi m σ H=>m=xs.length - i/\i<=xs.length/\Pv i σ H,⟨xs.length,by simp,Nat.zero_le _,h0⟩, ?_⟩
 rintro i m σ H ⟨rfl,hi,p⟩
 have q:=hl i σ H hi p
 by_cases hlt:i<xs.length
 ·refine .inr ⟨⟨xs,xs[i],q,by simp [hlt]⟩,Pv (i+1),λσ' H' p'=>⟨xs.length - (i+1),by lia,rfl,hlt,p'⟩,λx H' y=> ?_⟩
  obtain⟨e,y⟩:=y
  subst e
  exact hs i x σ _ (y xs q) p
 ·have e:i=xs.length:=by lia
  subst e
  exact .inl ⟨⟨xs,q,AV _⟩,hd σ H p⟩
theorem c0k{K:AE}{a:AA}{xs:List V}{g:TG}{tb:TS}{D:U7}{σ:St}{H:Hp}(Pv:Nat->St->Hp->Prop)(h0:Pv 0 σ H)(hl:∀i σ H,i<=xs.length->Pv i σ H->SqT K H a xs)
 (hs:∀i x σ H,xs[i]?=ξ x->Pv i σ H->g x σ H λσ2 H2=>tb {D with nx:=Pv (i+1),ct:=Pv (i+1),bk:=D.nx} σ2 H2) (hd:∀σ H,Pv xs.length σ H->D.nx σ H):
 ∃W:Nat->Nat->St->Hp->Prop,(∃m,W 0 m σ H)/\∀i m σ H,W i m σ H->
  ((Itt K a).stop i H/\D.nx σ H)\/((Itt K a).go i H/\∃N:St->Hp->Prop,(∀σ' H',N σ' H'->∃m',m'<m/\W (i+1) m' σ' H')/\∀x H',(Itt K a).yld i H x H'->g x σ H' λσ2 H2=>tb {D with nx:=N,ct:=N,bk:=D.nx} σ2 H2):=by
 refine⟨λi m σ H=>m=xs.length - i/\i<=xs.length/\Pv i σ H,⟨xs.length,by simp,Nat.zero_le _,h0⟩, ?_⟩
 rintro i m σ H ⟨rfl,hi,p⟩
 have q:=hl i σ H hi p
 by_cases hlt:i<xs.length
 ·refine .inr ⟨⟨xs,xs[i],q,by simp [hlt]⟩,Pv (i+1),λσ' H' p'=>⟨xs.length - (i+1),by lia,rfl,hlt,p'⟩,λx H' y=> ?_⟩
  obtain⟨e,y⟩:=y
  subst e
  exact hs i x σ _ (y xs q) p
 ·have e:i=xs.length:=by lia
  subst e
  exact .inl ⟨⟨xs,q,AV _⟩,hd σ H p⟩
theorem b0o{lo:Int}{n:Nat}{g:TG}{tb:TS}{D:U7}{σ:St}{H:Hp}(Pv:Nat->St->Hp->Prop)(h0:Pv 0 σ H)
 (hs:∀i σ H,i<n->Pv i σ H->g (.int (lo+i)) σ H λσ2 H2=>tb {D with nx:=Pv (i+1),ct:=Pv (i+1),bk:=D.nx} σ2 H2) (hd:∀σ H,Pv n σ H->D.nx σ H):
 ∃W:Nat->Nat->St->Hp->Prop,(∃m,W 0 m σ H)/\∀i m σ H,W i m σ H->
  ((Itr lo n).stop i H/\D.nx σ H)\/((Itr lo n).go i H/\∃N:St->Hp->Prop,(∀σ' H',N σ' H'->∃m',m'<m/\W (i+1) m' σ' H')/\∀x H',(Itr lo n).yld i H x H'->g x σ H' λσ2 H2=>tb {D with nx:=N,ct:=N,bk:=D.nx} σ2 H2):=by
 refine⟨λi m σ H=>m=n - i/\i<=n/\Pv i σ H,⟨n,by simp,Nat.zero_le _,h0⟩, ?_⟩
 rintro i m σ H ⟨rfl,hi,p⟩
 by_cases hlt:i<n
 ·refine .inr ⟨hlt,Pv (i+1),λσ' H' p'=>⟨n - (i+1),by lia,rfl,hlt,p'⟩,λx H' y=> ?_⟩
  obtain⟨e,y⟩:=y
  subst e y
  exact hs i σ _ hlt p
 ·have e:i=n:=by lia
  subst e
  exact .inl ⟨AV _,hd σ H p⟩
abbrev R2:=V->V->Hp->VK->Prop
def OpR(X:Cx)(f:AB->AB->Sem AB)(r:R2):Prop:=
 ∀pins s σ (H:Hp) (x y:V) (v u:AB) (Q:VK),Inv X pins σ H s->y4 x v->y4 y u->r x y H Q->
  AH (model X.prog X.w) X.A (f v u) (EP X pins σ Q) X.xe s
def UnR(X:Cx)(f:AB->Sem AB)(r:V->Hp->VK->Prop):Prop:=
 ∀pins s σ (H:Hp) (x:V) (v:AB) (Q:VK),Inv X pins σ H s->y4 x v->r x H Q->
  AH (model X.prog X.w) X.A (f v) (EP X pins σ Q) X.xe s
def R7(X:Cx)(f:AB)(r:List V->Hp->VK->Prop):Prop:=
 ∀pins s σ (H:Hp) (xs:List V) (us:List AB) (Q:VK),Inv X pins σ H s->y0 xs us->r xs H Q->
  AH (model X.prog X.w) X.A (call f us) (EP X pins σ Q) X.xe s
def c42(X:Cx)(r:V->Hp->(Bool->Hp->Prop)->Prop):Prop:=
 ∀pins s σ (H:Hp) (x:V) (v:AB) (Q:Bool->Hp->Prop),Inv X pins σ H s->y4 x v->r x H Q->
  AH (model X.prog X.w) X.A (truthy v) (TP X pins σ Q) X.xe s
def tOp(r:R2)(ta tb:TE):TE:=λσ H Q=>ta σ H λx H1=>tb σ H1 λy H2=>r x y H2 Q
def tUn(r:V->Hp->VK->Prop)(ta:TE):TE:=λσ H Q=>ta σ H λx H1=>r x H1 Q
def rI(C:Int->Int->Prop)(g:Int->Int->V):R2:=λx y H Q=>∃i j,x= .int i/\y= .int j/\C i j/\Q (g i j) H
def rI0(g:Int->Int->V):R2:=λx y H Q=>∃i j,x= .int i/\y= .int j/\Q (g i j) H
def rU(g:Int->V):V->Hp->VK->Prop:=λx H Q=>∃i,x= .int i/\Q (g i) H
section
variable {X:Cx}{a b c:AF}{ta tb tc:TE}{pos:Pos}
theorem c2o(ha:PE X a ta)(hb:PE X b tb){pins:List (AA×Obj)}{s:AC}{σ:St}{H:Hp}{R:V->V->Hp->Prop}(I:Inv X pins σ H s)
 (h:ta σ H λx H1=>tb σ H1 λy H2=>R x y H2) {Q:AB->AC->Prop} {f:AB->AB->Sem AB}
 (hf:∀v u s2 x y H2,Inv X pins σ H2 s2->y4 x v->y4 y u->R x y H2->AH (model X.prog X.w) X.A (f v u) Q X.xe s2):
 AH (model X.prog X.w) X.A (eval a X.env) (λv s₁=>AH (model X.prog X.w) X.A (eval b X.env) (λu s₂=>AH (model X.prog X.w) X.A (f v u) Q X.xe s₂) X.xe s₁) X.xe s:=by
 refine M9 (ha pins s σ H _ I h) λv s1 h0=>w8 h0 λx H1 I1 r1 q1=> ?_
 refine M9 (hb pins s1 σ H1 _ I1 q1) λu s2 h0=>w8 h0 λy H2 I2 r2 q2=> ?_
 exact hf v u s2 x y H2 I2 r1 r2 q2
theorem c4C{op:Operator}{r:R2}(ho:OpR X (binaryOp op) r)(ha:PE X a ta)(hb:PE X b tb):PE X (.BinOp a op b pos) (tOp r ta tb):=by
 ext s
 exact wpAny_BinOp (c2o ha hb I h λv u s2 x y H2 I2 rx ry q=>ho pins s2 σ H2 x y v u Q I2 rx ry q)
theorem c4D{op:UnaryOp}{r:V->Hp->VK->Prop}(ho:UnR X (unaryOp op) r)(ha:PE X a ta):PE X (.UnaryOp op a pos) (tUn r ta):=by
 ext s
 exact UnaryOp_ (M9 (ha pins s σ H _ I h) λv s1 h0=>w8 h0 λx H1 I1 r1 q1=>ho pins s1 σ H1 x v Q I1 r1 q1)
theorem opI{f:AB->AB->Sem AB}{C:Int->Int->Prop}{g:Int->Int->Int}
 (rule:∀(i j:Int) (t u:Tok) (s:AC) (Q:AB->AC->Prop) (E:AB->AC->Prop),C i j->Q (.int (g i j) s.toks) {s with toks:=s.toks+1}->AH (model X.prog X.w) X.A (f (.int i t) (.int j u)) Q E s):
 OpR X f (rI C λi j=> .int (g i j)):=by
 intro pins s σ H x y v u Q I rx ry h
 obtain⟨i,j,rfl,rfl,hc,q⟩:=h
 obtain⟨t,rfl⟩:=rx
 obtain⟨t',rfl⟩:=ry
 exact rule i j t t' s _ _ hc ⟨.int (g i j),H,I.tok _,⟨_,rfl⟩,q⟩
theorem c3e{f:AB->AB->Sem AB}{g:Int->Int->Int}
 (rule:∀(i j:Int) (t u:Tok) (s:AC) (Q:AB->AC->Prop) (E:AB->AC->Prop),Q (.int (g i j) s.toks) {s with toks:=s.toks+1}->AH (model X.prog X.w) X.A (f (.int i t) (.int j u)) Q E s):
 OpR X f (rI0 λi j=> .int (g i j)):=by
 intro pins s σ H x y v u Q I rx ry h
 obtain⟨i,j,rfl,rfl,q⟩:=h
 obtain⟨t,rfl⟩:=rx
 obtain⟨t',rfl⟩:=ry
 exact rule i j t t' s _ _ ⟨.int (g i j),H,I.tok _,⟨_,rfl⟩,q⟩
theorem c0W{f:AB->AB->Sem AB}{g:Int->Int->Bool}
 (rule:∀(i j:Int) (t u:Tok) (s:AC) (Q:AB->AC->Prop) (E:AB->AC->Prop),Q (.bool (g i j)) s->AH (model X.prog X.w) X.A (f (.int i t) (.int j u)) Q E s):
 OpR X f (rI0 λi j=> .bl (g i j)):=by
 intro pins s σ H x y v u Q I rx ry h
 obtain⟨i,j,rfl,rfl,q⟩:=h
 obtain⟨t,rfl⟩:=rx
 obtain⟨t',rfl⟩:=ry
 exact rule i j t t' s _ _ ⟨.bl (g i j),H,I,rfl,q⟩
def a9F(i j:Int):Prop:=0<j/\j<1073741824
def b53(i j:Int):Prop:=0<=j/\j<=1000000/\i.natAbs<2 ^ 64
def b3y(i j:Int):Prop:=(-(2 ^ 64)<i/\i<2 ^ 64)\/(-(2 ^ 64)<j/\j<2 ^ 64)
theorem b3y.ok{i j:Int}(h:b3y i j):IntMulOk i j:=by
 rcases h with⟨h1,h2⟩|⟨h1,h2⟩
 ·exact .of_left (intBits_le_64 h1 h2)
 ·exact .of_right (intBits_le_64 h1 h2)
theorem c3f:OpR X (binaryOp .Add) (rI0 λi j=> .int (i+j)):=c3e λ_ _ _ _ _ _ _ q=>add_int q
theorem c3m:OpR X (binaryOp .Sub) (rI0 λi j=> .int (i - j)):=c3e λ_ _ _ _ _ _ _ q=>sub_int q
theorem c3j:OpR X (binaryOp .Mult) (rI b3y λi j=> .int (i*j)):=opI λ_ _ _ _ _ _ _ hc q=>mul_int q hc.ok
theorem c0Y:OpR X (binaryOp .FloorDiv) (rI a9F λi j=> .int (i / j)):=opI λi j _ _ _ _ _ hc q=>by
 have h1:(0:Int)<j:=hc.1;have h2:j<1073741824:=hc.2;exact floordiv_int (by lia) (by rw [Int.fdiv_eq_ediv_of_nonneg i (by lia)];exact q) (.inl (PyProof.noPylong_small (by lia)))
theorem c3i:OpR X (binaryOp .Mod) (rI (λ_ j=>0<j) λi j=> .int (i % j)):=opI λi j _ _ _ _ _ hc q=>by
 have h1:(0:Int)<j:=hc;exact mod_int' (by lia) (by rw [Int.fmod_eq_emod_of_nonneg i (by lia)];exact q)
theorem c3k:OpR X (binaryOp .Pow) (rI b53 λi j=> .int (i ^ j.toNat)):=opI λ_ _ _ _ _ _ _ hc q=>pow_int_small hc.1 hc.2.1 hc.2.2 q
theorem c0v:OpR X (inplaceOp .Add) (rI0 λi j=> .int (i+j)):=c3e λ_ _ _ _ _ _ _ q=>iadd_int q
theorem unI{f:AB->Sem AB}{g:Int->Int}
 (rule:∀(i:Int) (t:Tok) (s:AC) (Q:AB->AC->Prop) (E:AB->AC->Prop),Q (.int (g i) s.toks) {s with toks:=s.toks+1}->AH (model X.prog X.w) X.A (f (.int i t)) Q E s):
 UnR X f (rU λi=> .int (g i)):=by
 intro pins s σ H x v Q I rx h
 obtain⟨i,rfl,q⟩:=h
 obtain⟨t,rfl⟩:=rx
 exact rule i t s _ _ ⟨.int (g i),H,I.tok _,⟨_,rfl⟩,q⟩
theorem c3T:UnR X (unaryOp .USub) (rU λi=> .int (-i)):=unI λ_ _ _ _ _ q=>neg_int q
theorem b1d{pins:List (AA×Obj)}{σ:St}{H:Hp}{s:AC}{Q:VK}{k k':Bool}(I:Inv X pins σ H s)(q:Q (.bl k) H)(e:k=k'):EP X pins σ Q (.bool k') s:=by
 subst e;exact⟨.bl k,H,I,rfl,q⟩
theorem c4z:OpR X (compareOp .Lt) (rI0 λi j=> .bl (decide (i<j))):=c0W λ_ _ _ _ _ _ _ q=>lt_int q
theorem c4y:OpR X (compareOp .LtE) (rI0 λi j=> .bl (decide (i<=j))):=c0W λ_ _ _ _ _ _ _ q=>le_int q
theorem c4x:OpR X (compareOp .Gt) (rI0 λi j=> .bl (decide (j<i))):=c0W λ_ _ _ _ _ _ _ q=>gt_int q
theorem c4w:OpR X (compareOp .GtE) (rI0 λi j=> .bl (decide (j<=i))):=c0W λ_ _ _ _ _ _ _ q=>ge_int q
theorem b6J:OpR X (compareOp .Lt) (λx y H Q=>∃i j,x= .str i/\y= .str j/\Q (.bl (decide (i.cps.toList<j.cps.toList))) H):=by
 ext q
 obtain⟨i,j,rfl,rfl,q⟩:=h
 ext t
 exact lt_str (b1d I q rfl)
theorem b6I:OpR X (compareOp .In) (λx y H Q=>∃i j,x= .str i/\y= .str j/\Q (.bl (!(Builtin.Str.occurrences j i 0 j.length 1).isEmpty)) H):=by
 ext q
 obtain⟨i,j,rfl,rfl,q⟩:=h
 ext t
 exact in_str (b1d I q rfl)
theorem c3h:OpR X (compareOp .Is) (λx y H Q=>y= .non/\Q (.bl (decide (x= .non))) H):=by
 ext q
 obtain⟨rfl,q⟩:=h;cases ry;refine is_none_gen (b1d I q ?_);cases x<;>first
  |(cases rx;rfl)
  |(obtain⟨t,rfl⟩:=rx;rfl)
theorem b1I:OpR X (compareOp .NotIn) (λx y H Q=>∃i j,x= .str i/\y= .str j/\Q (.bl (!(!(Builtin.Str.occurrences j i 0 j.length 1).isEmpty))) H):=by
 ext q
 obtain⟨i,j,rfl,rfl,q⟩:=h
 ext t
 exact notIn_str (b1d I q rfl)
theorem c05{op:CmpOp}{r:R2}(ho:OpR X (compareOp op) r)(ha:PE X a ta)(hb:PE X b tb)(hm:behindInMarks op b=false):PE X (.Compare a [op] [b] pos) (tOp r ta tb):=by
 ext s
 exact wpAny_Compare1 (c2o ha hb I h λv u s2 x y H2 I2 rx ry q=>ho pins s2 σ H2 x y v u Q I2 rx ry q) hm
def c19(t:TE):TT:=λσ H Q=>t σ H λx H'=>∃k,x= .bl k/\Q k H'
theorem c1d{op:CmpOp}{r:R2}(ho:OpR X (compareOp op) r)(ha:PE X a ta)(hb:PE X b tb)(hm:behindInMarks op b=false):PT X (.Compare a [op] [b] pos) (c19 (tOp r ta tb)):=by
 ext s
 refine wpAny_isTrue_Compare1 (M9 (ha pins s σ H _ I h) λv s1 h0=>w8 h0 λx H1 I1 r1 q1=>M9 (hb pins s1 σ H1 _ I1 q1) λu s2 h0=>w8 h0 λy H2 I2 r2 q2=>
  M9 (ho pins s2 σ H2 x y v u _ I2 r1 r2 q2) λc s3 ⟨z,H3,I3,r3,k,e,q3⟩=> ?_) hm
 subst e;cases r3;exact wpAny_truthy_bool ⟨H3,I3,q3⟩
def b4V(r r':R2)(ta tb tc:TE):TE:=λσ H Q=>ta σ H λx H1=>tb σ H1 λy H2=>r x y H2 λz H3=>∃k,z= .bl k/\
 (if k=true then tc σ H3 λw' H4=>r' y w' H4 Q else Q (.bl false) H3)
theorem b84{op op':CmpOp}{r r':R2}(ho:OpR X (compareOp op) r)(ho':OpR X (compareOp op') r')(ha:PE X a ta)(hb:PE X b tb)(hc:PE X c tc)
 (hm:lastMarks [op,op'] [b,c]=false:=by with_unfolding_all rfl):PE X (.Compare a [op,op'] [b,c] pos) (b4V r r' ta tb tc):=by
 intro pins s σ H Q I h
 refine Compare_chain (M9 (ha pins s σ H _ I h) λv s1 h0=>w8 h0 λx H1 I1 r1 q1=>chain_link (M9 (hb pins s1 σ H1 _ I1 q1) λu s2 h0=>w8 h0 λy H2 I2 r2 q2=>
  M9 (ho pins s2 σ H2 x y v u _ I2 r1 r2 q2) λd s3 ⟨z,H3,I3,r3,k,e,q3⟩=> ?_)) hm
 subst e
 cases r3
 refine wpAny_truthy_bool ?_
 cases k with
 |false=>exact ite_ff ⟨.bl false,H3,I3,rfl,q3⟩
 |true=>exact ite_tt (chain_last (M9 (hc pins s3 σ H3 _ I3 q3) λw' s4 ⟨z',H4,I4,r4,q4⟩=>ho' pins s4 σ H4 y z' u w' Q I4 r2 r4 q4))
theorem b9j{op op':CmpOp}{r r':R2}(ho:OpR X (compareOp op) r)(ho':OpR X (compareOp op') r')(ha:PE X a ta)(hb:PE X b tb)(hc:PE X c tc)
 (hm:lastMarks [op,op'] [b,c]=false:=by with_unfolding_all rfl):PT X (.Compare a [op,op'] [b,c] pos) (c19 (b4V r r' ta tb tc)):=by
 intro pins s σ H Q I h
 refine isTrue_chain (M9 (ha pins s σ H _ I h) λv s1 h0=>w8 h0 λx H1 I1 r1 q1=>test_link (M9 (hb pins s1 σ H1 _ I1 q1) λu s2 h0=>w8 h0 λy H2 I2 r2 q2=>
  M9 (ho pins s2 σ H2 x y v u _ I2 r1 r2 q2) λd s3 ⟨z,H3,I3,r3,k,e,q3⟩=> ?_)) hm
 subst e
 cases r3
 refine wpAny_truthy_bool ?_
 cases k with
 |false=>
  obtain⟨k',e',q'⟩:=q3
  cases e'
  exact ite_ff ⟨H3,I3,q'⟩
 |true=>
  refine ite_tt (test_last (M9 (hc pins s3 σ H3 _ I3 q3) λw' s4 ⟨z',H4,I4,r4,q4⟩=>M9 (ho' pins s4 σ H4 y z' u w' _ I4 r2 r4 q4) λd' s5 ⟨z2,H5,I5,r5,k2,e2,q5⟩=> ?_))
  subst e2
  cases r5
  exact wpAny_truthy_bool ⟨H5,I5,q5⟩
def c2d(K:AE)(x:V)(H:Hp)(k:Bool):Prop:=
 match x with
 | .non=>k=false
 | .bl b=>k=b
 | .int i=>k=(i !=0)
 | .str y=>y.length<=AN/\k=((y.length:Int) !=0)
 | .byt y=>y.size<=AN/\k=((y.size:Int) !=0)
 | .ref p=>(∃xs,Y7 K H p xs/\k= !xs.isEmpty)\/(∃xs,SqT K H p xs/\k= !xs.isEmpty)\/∃kvs,H p=ξ (.dK kvs)/\k= !kvs.isEmpty
 |_=>False
theorem b4g{κ:Type}{kvs:List (κ×V)}{vs:List (κ×AB)}(r:KV kvs vs):(!vs.isEmpty)= !kvs.isEmpty:=by
 cases r<;>rfl
theorem a8M{xs:List V}{its:List AB}(r:y0 xs its):(!its.toArray.isEmpty)= !xs.isEmpty:=by
 cases r<;>simp
theorem a6Z:(AN:Nat)<2 ^ 63:=by rw [sizeLine_eq];decide
theorem c3O:c42 X (λx H Q=>∃k,c2d X.K x H k/\Q k H):=by
 intro pins s σ H x v Q I rx h;obtain⟨k,e,q⟩:=h;have hl:=a6Z;have hs:AN=16777216:=sizeLine_eq;cases x with
 |non=>
  cases rx;have e':k=false:=e;subst e';exact truthy_none ⟨H,I,q⟩
 |bl b=>
  cases rx;have e':k=b:=e;subst e';exact wpAny_truthy_bool ⟨H,I,q⟩
 |int i=>
  obtain⟨t,rfl⟩:=rx;have e':k=(i !=0):=e;subst e';exact PySem.P.truthy_int ⟨H,I,q⟩
 |str y=>
  obtain⟨t,rfl⟩:=rx;obtain⟨hy,e'⟩:y.length<=AN/\k=((y.length:Int) !=0):=e;subst e';exact PySem.P.truthy_str (by lia) ⟨H,I.tok _,q⟩
 |byt y=>
  obtain⟨t,rfl⟩:=rx;obtain⟨hy,e'⟩:y.size<=AN/\k=((y.size:Int) !=0):=e;subst e';exact PySem.W.truthy_bytes (by lia) ⟨H,I.tok _,q⟩
 |ref p=>
  cases rx;have e':(∃xs,Y7 X.K H p xs/\k= !xs.isEmpty)\/(∃xs,SqT X.K H p xs/\k= !xs.isEmpty)\/∃kvs,H p=ξ (.dK kvs)/\k= !kvs.isEmpty:=e;rcases e' with⟨xs,hx,e'⟩|⟨xs,hx,e'⟩|⟨kvs,hx,e'⟩
  ·subst e';obtain⟨its,r,pl,hz⟩:=I.list hx;have hlen:=r.length;exact wpAny_truthy_list pl.isList (by simp only [Ar];lia) ⟨H,I.tok _,by rw [a8M r];exact q⟩
  ·subst e';obtain⟨its,r,pl,hz⟩:=I.tuple hx;have hlen:=r.length;exact truthy_tuple pl (by simp only [Ar];lia) ⟨H,I.tok _,by rw [a8M r];exact q⟩
  ·subst e';obtain⟨hz,hS,vs,r,m⟩:kvs.length<=AN/\(p==sysModules)=false/\∃vs,KV kvs vs/\s.heap.DictOf (R6 X.prog X.w) p vs:=I.hok p _ hx;have hlen:kvs.length=vs.length:=Paired.length r;exact wpAny_truthy_dict hS m (by lia) ⟨H,I.tok _,by rw [b4g r];exact q⟩
 |_=>exact(show False from e).elim
theorem b9k(ha:PE X a ta)(he:∀whole,isTrue a X.env whole=(do let v<-whole;standAt a.pos;holding [v] (truthy v))):
 PT X a (λσ H Q=>ta σ H λx H'=>∃k,c2d X.K x H' k/\Q k H'):=by
 intro pins s σ H Q I h
 exact isTrue_plain (M9 (ha pins s σ H _ I h) λv s1 h0=>w8 h0 λx H1 I1 r1 q1=>c3O pins s1 σ H1 x v Q I1 r1 q1) (he _)
theorem b4I:OpR X (binaryOp .Add) (λx y H Q=>∃i j,x= .str i/\y= .str j/\i.length+j.length<=AN/\Q (.str (i++j)) H):=by
 ext q
 obtain⟨i,j,rfl,rfl,hz,q⟩:=h
 ext t
 exact add_str (λt' tk=>⟨.str (i++j),H,I.tok _,⟨_,rfl⟩,q⟩) hz
theorem a3i{x:V}{us:List AB}(r:y0 [x] us):∃u,us=[u]/\y4 x u:=by
 cases r with
 |cons r1 r2=>cases r2;exact⟨_,rfl,r1⟩
theorem c4X{x y:V}{us:List AB}(r:y0 [x,y] us):∃u w',us=[u,w']/\y4 x u/\y4 y w':=by
 cases r with
 |cons r1 r2=>
  cases r2 with
  |cons r3 r4=>cases r4;exact⟨_,_,rfl,r1,r3⟩
theorem b57(hc:X.calm=true):R7 X (.builtin "min") (λxs H Q=>∃i j,xs=[.int i,.int j]/\Q (.int (if j<i then j else i)) H):=by
 intro pins s σ H xs us Q I r h;obtain⟨i,j,rfl,q⟩:=h;obtain⟨u,w',rfl,⟨t,rfl⟩,⟨t',rfl⟩⟩:=c4X r;refine min_two_ints (I.ok.hd hc) λh' tk k=>⟨_,H,I.kept k, ?_,q⟩
 by_cases hj:j<i
 ·rw [if_pos hj,if_pos hj];exact⟨_,rfl⟩
 ·rw [if_neg hj,if_neg hj];exact⟨_,rfl⟩
end
structure b3K(h:Heap)(x dx C:AA)(mA:Str->Υ AB):Prop where
 obj:h.get? x=ξ (PySem.W.instObj C dx)
 ns:h.Ns1 dx mA
 ne:dx≠x
theorem a60{h:Heap}{dx:AA}{mA:Str->Υ AB}(n:h.Ns1 dx mA):∃od,h.get? dx=ξ od/\∀name,PySem.W.lookIn name od=ξ (mA name):=by
 obtain⟨o,es,ep,ho,hd,hk,_,hm⟩:=n;refine⟨o,ho,λname=> ?_⟩;have e:=hm name;unfold nsFind findBy at e;rw [<-Array.find?_toList] at e;unfold PySem.W.lookIn;rw [hd];dsimp only;split
 ·rename_i y q;rw [q] at e;exact congrArg ξ e
 ·rename_i q;rw [q] at e;have a:es.toList.any (·.refKey)=false:=by
   rw [List.any_eq_false];intro y hy;obtain⟨z,t,hkey⟩:=hk y (Array.mem_toList_iff.mp hy);simp [DictEntry.refKey,hkey]
  have a':¬es.toList.any (·.refKey)=true:=by rw [a];exact Ao
  rw [if_neg a'];exact congrArg ξ e
theorem b3K.look{h:Heap}{x dx C:AA}{mA:Str->Υ AB}(I:b3K h x dx C mA):∃od,PySem.W.InstAt h x (PySem.W.instObj C dx) C (ξ od)/\∀name,PySem.W.lookIn name od=ξ (mA name):=
 let ⟨od,ho,hl⟩:=a60 I.ns
 ⟨od,⟨I.obj,rfl,rfl,ho⟩,hl⟩
section
variable {prog:AK}{w:AJ}{A:AL}{E:AB->AC->Prop}{s:AC}{K:AE}{x dx C f:AA}{mA:Str->Υ AB}{name:Str}{v:AB}
theorem c0t{expr:Bool}{Q:AB->AC->Prop}(X:K.In s.heap)(I:b3K s.heap x dx C mA)(hg:PySem.W.plainGet K C name=true)(hh:PySem.W.hasDictIn K C=true)
 (ha:PySem.W.findIn K (.ref C) name=ξ ζ) (hv:mA name=ξ v) (hv':PySem.W.handedIn v=true) (h:Q v {s with toks:=s.toks+1}):
 AH (model prog w) A (getAttr (.ref x) name expr) Q E s:=by
 obtain⟨od,J,hl⟩:=I.look
 exact PySem.W.get_value X J (PySem.W.plainGet_of hg).1 (PySem.W.findObj_own hh ha rfl (by rw [hl,hv])) hv' h
theorem b8d{pl:Sem Bool}{Q:AB×List AB->AC->Prop}(X:K.In s.heap)(I:b3K s.heap x dx C mA)(hg:PySem.W.plainGet K C name=true)
 (hf:PySem.W.findIn K (.ref C) name=ξ (ξ (.ref f))) (ht:PySem.W.isFn K (.ref f)=true) (hv:mA name=ζ) (h:Q (.ref f,[.ref x]) s):
 AH (model prog w) A (getMethod (.ref x) name pl) Q E s:=by
 obtain⟨od,J,hl⟩:=I.look
 exact PySem.W.method_fn X J (PySem.W.plainGet_of hg).1 (PySem.W.plainGet_of hg).2 hf (beq_iff_eq.mp ht) (by show(PySem.W.lookIn name od).map (·.isSome)=ξ false;rw [hl,hv];rfl) h
theorem c1o{ns:List Str}{Q:Unit->AC->Prop}(X:K.In s.heap)(I:b3K s.heap x dx C mA)
 (hs:PySem.W.findIn K (.ref C) "__setattr__"=ξ (ξ (.builtin "object.__setattr__"))) (hp:PySem.W.plainOver K C=true) (ht:PySem.W.takerIn K C name=ξ ζ) (hh:PySem.W.hasDictIn K C=true)
 (hw:PySem.Within mA ns) (hsz:ns.length<=AN)
 (h:∀h',b3K h' x dx C (λy=>if y=name then ξ v else mA y)->Heap.SameBut dx s.heap h'->Q () {s with heap:=h',toks:=s.toks+2}):
 AH (model prog w) A (setAttr (.ref x) name v) Q E s:=by
 obtain⟨od,J,hl⟩:=I.look
 refine PySem.W.set_plain X J hs (PySem.W.osa_open (s:={s with toks:=s.toks+1}) (r:=ζ) X J hp ht λb=> ?_)
 obtain⟨cd,hc,hd'⟩:=PySem.W.any_some hh
 have hx:s.heap.get? x=ξ ⟨.ref C,ξ dx,.plain, #[]⟩:=I.obj
 refine AG (AR (AG (AG (wpAny_loadPart hx (AG (PySem.W.Looks.here (s:={s with toks:=s.toks+1}) (PySem.W.looks_clsIn X hc) ?_))))))
 rw [hd']
 refine AR (a:=ξ dx) (AG (AR (AG ?_)))
 refine wpAny_nsSet1 (s:={s with toks:=s.toks+1}) I.ns λh' hn2 hs2=> ?_
 obtain⟨oD,esD,epD,hoD,hdD,hcD⟩:=hn2.count (PySem.Within.cons name v hw)
 refine AG (wpAny_lookBehind hoD (by rw [hdD];exact pastItsLine_dict (Nat.le_trans hcD (by rw [AO];lia))) ?_)
 exact AR (h _ ⟨(hs2.2 _ (Ne.symm I.ne)).trans I.obj,hn2,I.ne⟩ hs2)
theorem b8I{R:Result->AC->Prop}{vs:List AB}{kw:List (Str×AB)}(X:K.In s.heap)(hm:PySem.W.makesIn K C=true)
 (hi:PySem.W.findIn K (.ref C) "__init__"=ξ (ξ (.ref f))) (hf:PySem.W.typeIn K (.ref f)=ξ (.type "function"))
 (h:codeAny (model prog w) (A.under (.builtin "type.__call__" ⟨.ref C::vs,kw⟩)) (.call (.ref f) ⟨.ref (s.heap.objs.size+1)::vs,kw⟩) (PySem.W.InitBack (s.heap.objs.size+1) R)
  {s with heap:=(s.heap.push PySem.W.emptyDict).push (PySem.W.instObj C s.heap.objs.size)}):
 codeAny (model prog w) A (.call (.ref C) ⟨vs,kw⟩) R s:=by
 obtain⟨hh,g,d,t,os⟩:=s
 exact PySem.W.make_core (PySem.W.makes_of X hm) (PySem.W.looks_findIn X hi) (λself=>PySem.W.bind_fn X self hf) (.inl rfl) h
end
def a2w(f:Str)(v:V):List (Str×V)->List (Str×V)
 |[]=>[(f,v)]
 |(g,x)::r=>if g=f then(g,v)::r else(g,x)::a2w f v r
theorem a30(f g:Str)(v:V):∀fs:List (Str×V),(a2w f v fs).lookup g=if g=f then ξ v else fs.lookup g
 |[]=>by
  show List.lookup g [(f,v)]=_
  by_cases h:g=f
  ·have hb:(g==f)=true:=beq_iff_eq.mpr h;simp only [List.lookup,hb,if_pos h]
  ·have hb:(g==f)=false:=beq_eq_false_iff_ne.mpr h;simp only [List.lookup,hb,if_neg h]
 |(k,x)::r=>by
  have ih:=a30 f g v r
  ext am
  by_cases hk:k=f
  ·rw [if_pos hk]
   by_cases h:g=k
   ·have hb:(g==k)=true:=beq_iff_eq.mpr h;simp only [List.lookup,hb,if_pos (h.trans hk)]
   ·have hb:(g==k)=false:=beq_eq_false_iff_ne.mpr h;simp only [List.lookup,hb,if_neg (λe:g=f=>h (e.trans hk.symm))]
  ·rw [if_neg hk]
   by_cases h:g=k
   ·have hb:(g==k)=true:=beq_iff_eq.mpr h;simp only [List.lookup,hb,if_neg (λe:g=f=>hk (h.symm.trans e))]
   ·have hb:(g==k)=false:=beq_eq_false_iff_ne.mpr h;simp only [List.lookup,hb];exact ih
theorem a2q(f:Str)(v:V):∀fs:List (Str×V),f∈(a2w f v fs).map (·.1)/\∀g,g∈fs.map (·.1)->g∈(a2w f v fs).map (·.1)
 |[]=>⟨by simp [a2w],λg h=>by simp at h⟩
 |(k,x)::r=>by
  obtain⟨i1,i2⟩:=a2q f v r
  ext am
  by_cases hk:k=f
  ·rw [if_pos hk];subst hk;exact⟨by simp,λg h=>by simpa using h⟩
  ·rw [if_neg hk];refine⟨?_,λg h=> ?_⟩
   ·rw [AT];exact Af _ i1
   ·rw [AT] at h ⊢;rcases Ah.mp h with e|e
    ·exact Ah.mpr (.inl e)
    ·exact Af _ (i2 g e)
theorem a7w(f:Str)(v:V):∀fs:List (Str×V),(a2w f v fs).length<=fs.length+1
 |[]=>by simp [a2w]
 |(k,x)::r=>by
  have ih:=a7w f v r
  ext am
  by_cases hk:k=f
  ·rw [if_pos hk,AO,AO];lia
  ·rw [if_neg hk,AO,AO];lia
theorem a3j.some_of{v:V}{o:Υ AB}(r:a3j (ξ v) o):∃u,o=ξ u/\y4 v u:=by
 cases o with
 |none=>exact(show False from r).elim
 |some u=>exact⟨u,rfl,r⟩
theorem a3j.none_of{o:Υ AB}(r:a3j ζ o):o=ζ:=by
 cases o with
 |none=>rfl
 |some u=>exact(show False from r).elim
theorem b0u{v:V}{u:AB}(r:y4 v u):PySem.W.handedIn u=true:=by
 cases v with
 |non=>cases(show u=Value.none from r);rfl
 |bl b=>cases(show u=Value.bool b from r);rfl
 |int i=>obtain⟨t,e⟩:=(show ∃t,u=Value.int i t from r);cases e;rfl
 |str x=>obtain⟨t,e⟩:=(show ∃t,u=Value.str x t from r);cases e;rfl
 |byt b=>obtain⟨t,e⟩:=(show ∃t,u=Value.bytes b t from r);cases e;rfl
 |flt b=>obtain⟨t,e⟩:=(show ∃t,u=Value.float b t from r);cases e;rfl
 |ref a=>cases(show u=Value.ref a from r);rfl
 |ty n=>cases(show u=Value.type n from r);rfl
section
variable {P:AK}{w:AJ}{H H':Hp}{h h':Heap}{a C dx:AA}{fs fs':List (Str×V)}
theorem a73(hok:HOk P w H h)(e:H a=ξ (.ins C dx fs)):∃mA,b3K h a dx C mA/\(∀f,a3j (fs.lookup f) (mA f))/\PySem.Within mA (fs.map (·.1))/\fs.length<=1000/\H dx=ξ (.own a):=by
 obtain⟨d,z,ne,ob,mA,n,r,q⟩:=(show F9 P w H h a (.ins C dx fs) from hok a _ e);exact⟨mA,⟨ob,n,ne⟩,r,q,z,d⟩
end
structure Cls(K:AE)(C:AA):Prop where
 pg:PySem.W.plainGet K C Str.empty=true
 hd:PySem.W.hasDictIn K C=true
 po:PySem.W.plainOver K C=true
 sa:PySem.W.findIn K (.ref C) "__setattr__"=ξ (ξ (.builtin "object.__setattr__"))
theorem Cls.get{K:AE}{C:AA}(c:Cls K C)(f:Str):PySem.W.plainGet K C f=true:=c.pg
def G5(K:AE)(C:AA)(f:Str):Prop:=PySem.W.findIn K (.ref C) f=ξ ζ
theorem G5.taker{K:AE}{C:AA}{f:Str}(n:G5 K C f):PySem.W.takerIn K C f=ξ ζ:=by
 unfold PySem.W.takerIn;rw [show PySem.W.findIn K (.ref C) f=ξ ζ from n]
 rfl
structure c3Z(K:AE)(C:AA)(m:Str)(f:AA):Prop where
 at_:PySem.W.findIn K (.ref C) m=ξ (ξ (.ref f))
 fn:PySem.W.isFn K (.ref f)=true
 kp:PySem.W.keepIn K (.ref f)=true
section
variable {X:Cx}{pins:List (AA×Obj)}{σ:St}{H:Hp}{s:AC}{a C dx:AA}{fs:List (Str×V)}{f:Str}{v:V}{A:AL}{E:AB->AC->Prop}
theorem b4b{b:Bool}{Q:AB->AC->Prop}(I:Inv X pins σ H s)(e:H a=ξ (.ins C dx fs))(c:Cls X.K C)(n:G5 X.K C f)(l:fs.lookup f=ξ v)
 (h:∀u s',Inv X pins σ H s'->y4 v u->Q u s'):AH (model X.prog X.w) A (getAttr (.ref a) f b) Q E s:=by
 obtain⟨mA,O,r,_,_,_⟩:=a73 I.hok e
 obtain⟨u,hu,ru⟩:=a3j.some_of (v:=v) (o:=mA f) (by rw [<-l];exact r f)
 exact c0t I.kIn O (c.get f) c.hd n hu (b0u ru) (h u _ (I.tok _) ru)
theorem b4c{m:Str}{g:AA}{pl:Sem Bool}{Q:AB×List AB->AC->Prop}(I:Inv X pins σ H s)(e:H a=ξ (.ins C dx fs))(c:Cls X.K C)(k:c3Z X.K C m g)(l:fs.lookup m=ζ)
 (h:Q (.ref g,[.ref a]) s):AH (model X.prog X.w) A (getMethod (.ref a) m pl) Q E s:=by
 obtain⟨mA,O,r,_,_,_⟩:=a73 I.hok e
 have hn:mA m=ζ:=a3j.none_of (by rw [<-l];exact r m)
 exact b8d I.kIn O (c.get m) k.at_ k.fn hn h
theorem b4T{y:V}{u:AB}{Q:Unit->AC->Prop}(I:Inv X pins σ H s)(e:H a=ξ (.ins C dx fs))(c:Cls X.K C)(n:G5 X.K C f)(hl:fs.length<1000)(ry:y4 y u)
 (h:∀s',Inv X pins σ (A5 H a (.ins C dx (a2w f y fs))) s'->Q () s'):AH (model X.prog X.w) A (setAttr (.ref a) f u) Q E s:=by
 obtain⟨mA,O,r,wi,_,ho⟩:=a73 I.hok e
 have hz:(fs.map (·.1)).length<=AN:=by rw [AY,sizeLine_eq];lia
 refine c1o I.kIn O c.sa c.po n.taker c.hd wi hz λh' O' sb=>h _ ?_
 have hd:∃o,h'.get? dx=ξ o:=by obtain⟨o,_,_,e',_⟩:=O'.ns;exact⟨o,e'⟩
 refine I.write (x:=a) (e:=dx) (by rw [e];exact True.intro) (.inr ho) (λb q hb z=>(sb.2 b hb).trans z) hd ?_
 refine⟨by rw [l6 O.ne];exact ho, ?_,O.ne,O'.obj,_,O'.ns,λg=> ?_,λg hg=> ?_⟩
 ·have:=a7w f y fs;lia
 ·show a3j ((a2w f y fs).lookup g) (if g=f then ξ u else mA g)
  rw [a30]
  by_cases q:g=f
  ·rw [if_pos q,if_pos q];exact ry
  ·rw [if_neg q,if_neg q];exact r g
 ·by_cases q:g=f
  ·rw [q];exact(a2q f y fs).1
  ·refine(a2q f y fs).2 g (wi g λz=>hg ?_)
   show(if g=f then ξ u else mA g)=ζ
   rw [if_neg q];exact z
theorem Inv.made(I:Inv X pins σ H s):Inv X pins σ (A5 (A5 H s.heap.objs.size (.own (s.heap.objs.size+1))) (s.heap.objs.size+1) (.ins C s.heap.objs.size []))
 {s with heap:=(s.heap.push PySem.W.emptyDict).push (PySem.W.instObj C s.heap.objs.size)}:=by
 have e1:(s.heap.push PySem.W.emptyDict).get? s.heap.objs.size=ξ PySem.W.emptyDict:=Am s.heap rfl
 have e2:((s.heap.push PySem.W.emptyDict).push (PySem.W.instObj C s.heap.objs.size)).get? (s.heap.objs.size+1)=ξ (PySem.W.instObj C s.heap.objs.size):=by
  have:=Am (s.heap.push PySem.W.emptyDict) (o:=PySem.W.instObj C s.heap.objs.size) rfl
  rwa [Heap.size_push] at this
 have e3:(s.heap.push PySem.W.emptyDict).Ns s.heap.objs.size (λ_=>ζ):=⟨PySem.W.emptyDict, #[],_,e1,rfl,(λe he=>absurd he (by simp)),λ_=>rfl⟩
 have I1:=I.laid (a:=s.heap.objs.size) (o:= .own (s.heap.objs.size+1)) (h':=s.heap.push PySem.W.emptyDict) (t':=s.toks) (λb u q=>AS _ q) (AV _) ⟨_,e1⟩
 refine I1.laid (a:=s.heap.objs.size+1) (o:= .ins C s.heap.objs.size []) (t':=s.toks) (λb u q=>AS _ q) (Nat.le_of_eq (Heap.size_push _ _)) ?_
 have ne:s.heap.objs.size≠s.heap.objs.size+1:=Ak (Nat.lt_succ_self _)
 refine⟨by rw [l6 ne,p9],Nat.zero_le _,ne,e2,λ_=>ζ,(Heap.Ns1.of_empty e3).at λo q=>AS _ q,λ_=>True.intro,λy hy=>absurd rfl hy⟩
theorem b45{prog:AK}{w:AJ}{env:Env}{e:AF}{f:Str}{pos:Pos}{s:AC}{Q:AB->AC->Prop}(hb:attributeBase e f env (eval e env)=eval e env)
 (h:AH (model prog w) A (eval e env) (λo s₁=>AH (model prog w) A (getAttr o f true) Q E s₁) E s):AH (model prog w) A (eval (.Attribute e f pos) env) Q E s:=
 Attribute_any_ h (by rw [arm_eval_Attribute,hb])
end
def c5l(K:AE)(ta:TE)(f:Str):TE:=λσ H Q=>ta σ H λx H1=>∃a C dx fs v,x= .ref a/\H1 a=ξ (.ins C dx fs)/\Cls K C/\G5 K C f/\fs.lookup f=ξ v/\Q v H1
def c4J(K:AE)(ta tv:TE)(f:Str):TS:=λD σ H=>tv σ H λy H1=>ta σ H1 λx H2=>∃a C dx fs,x= .ref a/\H2 a=ξ (.ins C dx fs)/\Cls K C/\G5 K C f/\fs.length<1000/\
 D.nx σ (A5 H2 a (.ins C dx (a2w f y fs)))
section
variable {X:Cx}{o e value:AF}{f:Str}{pos pos' tpos:Pos}{ta tv:TE}
theorem c3r(he:PE X e ta)(hb:attributeBase e f X.env (eval e X.env)=eval e X.env):PE X (.Attribute e f pos) (c5l X.K ta f):=by
 ext s
 refine b45 hb (M9 (he pins s σ H _ I h) λu s1 ⟨x,H1,I1,rx,a,C,dx,fs,v,ex,ea,c,n,l,q⟩=> ?_);subst ex;obtain rfl:u=Value.ref a:=rx;exact b4b I1 ea c n l λu' s2 I2 ru=>⟨v,H1,I2,ru,q⟩
theorem a0c(ha:PE X o ta)(hv:PE X value tv)(hs:swapsWith value (ξ (.Attribute o f pos')) pos.line X.env=pure false):PS X (.Assign [.Attribute o f pos'] value pos) (c4J X.K ta tv f):=by
 ext a9
 refine plainObj_wpAny_Assign_Attribute (M9 (hv pins s σ H _ I h) λu s1 h0=>w8 h0 λy H1 I1 ry q=>M9 (ha pins s1 σ H1 _ I1 q) λov s2 ⟨x,H2,I2,rx,a,C,dx,fs,ex,ea,c,n,l,q2⟩=> ?_) hs;subst ex;obtain rfl:ov=Value.ref a:=rx;exact b4T I2 ea c n l ry λs3 I3=>⟨σ,_,I3,q2⟩
end
section
variable {X:Cx}{pins:List (AA×Obj)}{σ:St}{H:Hp}{s:AC}{A:AL}{E:AB->AC->Prop}{Q:AB->AC->Prop}{c:AB}{b:Bool}
inductive a7M (K:AE) (H:Hp):V->AB->Prop where
 |non:a7M K H .non (.type "NoneType")
 |bl (x:Bool):a7M K H (.bl x) (.type "bool")
 |int (i:Int):a7M K H (.int i) (.type "int")
 |str (x:Str):a7M K H (.str x) (.type "str")
 |flt (x:UInt64):a7M K H (.flt x) (.type "float")
 |lst {a:AA} {xs:List V} (e:H a=ξ (.lst xs)):a7M K H (.ref a) (.type "list")
 |frz {a:AA} {o:Obj} {xs:List V} (e:H a=ξ (.frz o (.lst xs))):a7M K H (.ref a) (.type "list")
 |tup {a:AA} {xs:List V} (e:H a=ξ (.tup xs)):a7M K H (.ref a) (.type "tuple")
 |dK {a:AA} {kvs:List (Q8×V)} (e:H a=ξ (.dK kvs)):a7M K H (.ref a) (.type "dict")
 |dT {a:AA} {kvs:List (List Q8×V)} (e:H a=ξ (.dT kvs)):a7M K H (.ref a) (.type "dict")
 |ins {a C dx:AA} {fs:List (Str×V)} (e:H a=ξ (.ins C dx fs)) (cl:Cls K C) (ha:PySem.W.findIn K (.ref C) "__class__"=ξ (ξ (.builtin "object.__class__")))
  (hn:PySem.W.specialIn K (.builtin "object.__class__") "__get__"=ξ (ξ (.builtin "getset_descriptor.__get__"))) (htk:PySem.W.takesIn K (.builtin "object.__class__")=ξ true)
  (hm:PySem.W.mroIn K C (.type "object")=ξ true):a7M K H (.ref a) (.ref C)
theorem b6n{x:V}{u t:AB}(I:Inv X pins σ H s)(rx:y4 x u)(ty:a7M X.K H x t)(e:PySem.W.kitOne X.K t c=ξ b)(h:∀tk,Q (.bool b) {s with toks:=tk}):
 AH (model X.prog X.w) A (call (.builtin "isinstance") [u,c]) Q E s:=by
 cases ty with
 |non=>cases(show u=Value.none from rx);exact PySem.W.kia_one PySem.W.kitx_none I.kIn True.intro e (λz=>nomatch z) h
 |bl y=>cases(show u=Value.bool y from rx);exact PySem.W.kia_one PySem.W.kitx_bool I.kIn True.intro e (λz=>nomatch z) h
 |int i=>obtain⟨t,q⟩:=(show ∃t,u=Value.int i t from rx);cases q;exact PySem.W.kia_one PySem.W.kitx_int I.kIn True.intro e (λz=>nomatch z) h
 |str y=>obtain⟨t,q⟩:=(show ∃t,u=Value.str y t from rx);cases q;exact PySem.W.kia_one PySem.W.kitx_str I.kIn True.intro e (λz=>nomatch z) h
 |flt y=>obtain⟨t,q⟩:=(show ∃t,u=Value.float y t from rx);cases q;exact PySem.W.kia_one PySem.W.kitx_float I.kIn True.intro e (λz=>nomatch z) h
 | @lst a xs ea=>
   cases(show u=Value.ref a from rx)
   obtain⟨_,_,n,_,h1⟩:=(show F9 X.prog X.w H s.heap a (.lst xs) from I.hok a _ ea)
   exact PySem.W.kia_one PySem.W.kitx_list I.kIn ⟨_,h1,rfl⟩ e (λz=>nomatch z) h
 | @frz a ob xs ea=>
   cases(show u=Value.ref a from rx)
   obtain⟨_,_,_,n,_,h1⟩:=(show F9 X.prog X.w H s.heap a (.frz ob (.lst xs)) from I.hok a _ ea)
   exact PySem.W.kia_one PySem.W.kitx_list I.kIn ⟨_,h1,rfl⟩ e (λz=>nomatch z) h
 | @tup a xs ea=>
   cases(show u=Value.ref a from rx)
   obtain⟨_,_,_,p⟩:=(show F9 X.prog X.w H s.heap a (.tup xs) from I.hok a _ ea)
   obtain⟨o,h1,h2,_⟩:=p
   exact PySem.W.kia_one PySem.W.kitx_tuple I.kIn ⟨o,h1,h2⟩ e (λz=>nomatch z) h
 | @dK a kvs ea=>
   cases(show u=Value.ref a from rx)
   obtain⟨_,_,vs,_,p⟩:=(show F9 X.prog X.w H s.heap a (.dK kvs) from I.hok a _ ea)
   obtain⟨o,es,ep,h1,h2,_⟩:=p
   exact PySem.W.kia_one PySem.W.kitx_dict I.kIn ⟨o,h1,h2.1⟩ e (λz=>nomatch z) h
 | @dT a kvs ea=>
   cases(show u=Value.ref a from rx)
   obtain⟨_,_,xs,_,o,es,ep,h1,h2,_⟩:=(show F9 X.prog X.w H s.heap a (.dT kvs) from I.hok a _ ea)
   exact PySem.W.kia_one PySem.W.kitx_dict I.kIn ⟨o,h1,h2.1⟩ e (λz=>nomatch z) h
 | @ins a C dx fs ea cl ha hn htk hm=>
   cases(show u=Value.ref a from rx)
   obtain⟨mA,O,_⟩:=a73 I.hok ea
   obtain⟨od,J,_⟩:=O.look
   exact PySem.W.kia_one (PySem.W.kitx_own (cl.get _) cl.hd ha hn htk hm) I.kIn J e (λz=>nomatch z) h
end
structure G3(k:Nat)(A:AL):Prop where
 hd:A.handled=ζ
 dp:A.depth+3*k+5<recursionLimit
 un:A.units+16*k+200<cLine
theorem G3.mono{j k:Nat}{A:AL}(r:G3 k A)(h:j<=k):G3 j A:=⟨r.hd,by have:=r.dp;lia,by have:=r.un;lia⟩
theorem G3.deeper{k:Nat}{A:AL}(r:G3 (k+1) A)(env:Env):G3 k (A.deeper env):=
 ⟨r.hd,by have:=r.dp;show A.depth+1+3*k+5<_;lia,by have:=r.un;show A.units+3+16*k+200<_;lia⟩
theorem b4r{A:AL}{C:AA}{us:List AB}{kw:List (Str×AB)}:(A.under (.builtin "type.__call__" ⟨.ref C::us,kw⟩)).depth=A.depth+1:=by
 first|rfl|simp [Around.under,Code.weight,Code.isCreation,Code.isGuard,Code.isCaller,Code.frames,Code.isFrame,guardIds]
theorem b4s{A:AL}{C:AA}{us:List AB}{kw:List (Str×AB)}:(A.under (.builtin "type.__call__" ⟨.ref C::us,kw⟩)).units=A.units+1:=by
 first|rfl|simp [Around.under,Code.cUnits,Code.frames,Code.isFrame]
theorem G3.make{k:Nat}{A:AL}(r:G3 (k+1) A)(C:AA)(us:List AB)(kw:List (Str×AB)):G3 k (A.under (.builtin "type.__call__" ⟨.ref C::us,kw⟩)):=
 ⟨r.hd,by have:=r.dp;rw [b4r];lia,by have:=r.un;rw [b4s];lia⟩
theorem G3.depth{k:Nat}{A:AL}(r:G3 k A):A.depth<recursionLimit:=by have:=r.dp;lia
theorem G3.units{k:Nat}{A:AL}(r:G3 k A):A.units+64<cLine:=by have:=r.un;lia
def b9C:TA:=λ_ H Q=>Q [] H
def b3r(ta:TE)(tr:TA):TA:=λσ H Q=>ta σ H λx H1=>tr σ H1 λxs H2=>Q (x::xs) H2
section
variable {X:Cx}{e:AF}{es:List AF}{te:TE}{t:TA}{pos:Pos}
theorem S5:PA X [] b9C:=λ_ _ _ _ H Q I h=>Calls.spliced_nil ⟨[],H,I,.nil,h⟩
theorem z7(ha:PE X e te)(hr:PA X es t)(hs:Ψ e es X.env:=by rfl):PA X (e::es) (b3r te t):=by
 intro pos pins s σ H Q I h;rw [hs];show AH _ _ (spliced ((false,eval e X.env)::backTo pos (AI es X.env))) _ _ s;refine Calls.spliced_cons (M9 (ha pins s σ H _ I h) λu s1 h0=>w8 h0 λx H1 I1 r1 q1=> ?_);exact M9 (hr pos pins s1 σ H1 _ I1 q1) λus s2 h0=>w8 h0 λxs H2 I2 r2 q2=>⟨x::xs,H2,I2,.cons r1 r2,q2⟩
def c5r(t:TA):TE:=λσ H Q=>t σ H λxs H1=>xs.length<=AN/\∀p,H1 p=ζ->Q (.ref p) (A5 H1 p (.tup xs))
def c5o(t:TA):TE:=λσ H Q=>t σ H λxs H1=>xs.length<=AN/\∀p,H1 p=ζ->Q (.ref p) (A5 H1 p (.lst xs))
theorem b88{x1}(h:PA X es t):PE X (.Tuple es x1 pos) (c5r t):=by
 intro pins s σ H Q I hq;refine wpAny_Tuple_spliced (M9 (h pos pins s σ H _ I hq) λus s1 h0=>a71 h0 λxs H1 I1 r z q=>⟨by rw [<-r.length];exact z, ?_⟩)
 have hf:H1 s1.heap.objs.size=ζ:=I1.hok.fresh (AV _);refine⟨.ref s1.heap.objs.size,A5 H1 s1.heap.objs.size (.tup xs),I1.laid (t':=s1.toks) (λb u e=>AS _ e) (AV _) ?_,rfl,q _ hf⟩;exact⟨z,us,r,⟨_,Am _ rfl,rfl,_,rfl⟩⟩
theorem c3t(h:PA X es t):PE X (.List es pos) (c5o t):=by
 intro pins s σ H Q I hq;refine wpAny_List_spliced (M9 (h pos pins s σ H _ I hq) λus s1 h0=>a71 h0 λxs H1 I1 r z q=>⟨by rw [<-r.length];exact z, ?_⟩)
 have hf:H1 s1.heap.objs.size=ζ:=I1.hok.fresh (AV _);refine⟨.ref s1.heap.objs.size,A5 H1 s1.heap.objs.size (.lst xs),I1.laid (t':=s1.toks) (λb u e=>AS _ e) (AV _) ?_,rfl,q _ hf⟩;exact⟨z,us,0,r,Am _ rfl⟩
end
abbrev Sp:=List V->Hp->VK->XK->Prop
abbrev CXT:=List Env->Hp->AC->XK->AB->AC->Prop
structure b3J(P:AK)(w:AJ)(K:AE)(mg:Str->Υ AB)(base:Heap)(A:AL)(outer:List Env)(s:AC)(H:Hp):Prop where
 frames:A.frames=ξ outer
 mod:Mod K mg base
 bs:∀b o,base.get? b=ξ o->s.heap.get? b=ξ o/\H b=ζ
 bsz:base.objs.size<=s.heap.objs.size
 funs:s.heap.FunFrames base outer
 frf:∀b∈frs outer,H b=ζ
 hok:HOk P w H s.heap
 bare:AllBare s.gens
def CE(outer:List Env)(P:AK)(w:AJ)(H:Hp)(s:AC)(Q:VK)(u:AB)(s':AC):Prop:=
 ∃v H',s'.os=s.os/\AllBare s'.gens/\Un (frs outer) [] H H' s.heap s'.heap/\HOk P w H' s'.heap/\y4 v u/\Q v H'
def CR(CX:CXT)(outer:List Env)(P:AK)(w:AJ)(H:Hp)(s:AC)(Q:VK)(E:XK)(r:Result)(s':AC):Prop:=
 match r with
 | .ok (.ret u)=>CE outer P w H s Q u s'
 | .ok _=>False
 | .error e=>CX outer H s E e s'
structure P4(P:AK)(w:AJ)(K:AE)(mg:Str->Υ AB)(base:Heap)(CX:CXT)(k:Nat)(f:AA)(fd:FuncData)(ps:List Str)(sp:Sp):Prop where
 len:∀vs H Q E,sp vs H Q E->vs.length=ps.length
 run:∀(A:AL) (outer:List Env) (s:AC) (H:Hp) (args:Args) (us:List AB) (vs:List V) (Q:VK) (E:XK),G3 k A->b3J P w K mg base A outer s H->BindsTo s fd args (ps.zip us)->y0 vs us->sp vs H Q E->
  codeAny (model P w) A (.call (.ref f) args) (CR CX outer P w H s Q E) s
theorem P4.mono{P:AK}{w:AJ}{K:AE}{mg:Str->Υ AB}{base:Heap}{CX:CXT}{j k:Nat}{f:AA}{fd:FuncData}{ps:List Str}{sp:Sp}(F:P4 P w K mg base CX j f fd ps sp)(h:j<=k):
 P4 P w K mg base CX k f fd ps sp:=⟨F.len,λA outer s H args us vs Q E hr=>F.run A outer s H args us vs Q E (hr.mono h)⟩
theorem P4.imp{P:AK}{w:AJ}{K:AE}{mg:Str->Υ AB}{base:Heap}{CX:CXT}{k:Nat}{f:AA}{fd:FuncData}{ps:List Str}{sp sp':Sp}(F:P4 P w K mg base CX k f fd ps sp)
 (h:∀vs H Q E,sp' vs H Q E->sp vs H Q E):P4 P w K mg base CX k f fd ps sp':=
 ⟨λvs H Q E q=>F.len vs H Q E (h _ _ _ _ q),λA outer s H args us vs Q E hr he hb hv hs=>F.run A outer s H args us vs Q E hr he hb hv (h _ _ _ _ hs)⟩
theorem b3J.make{P:AK}{w:AJ}{K:AE}{mg:Str->Υ AB}{base:Heap}{A:AL}{outer:List Env}{s:AC}{H:Hp}(e:b3J P w K mg base A outer s H)(C:AA)(us:List AB)(kw:List (Str×AB)):
 b3J P w K mg base (A.under (.builtin "type.__call__" ⟨.ref C::us,kw⟩)) outer s H:=⟨by first|exact e.frames|(simpa [Around.under,Code.envs,Code.isFrame,pushEnvs] using e.frames),e.mod,e.bs,e.bsz,e.funs,e.frf,e.hok,e.bare⟩
section
variable {X:Cx}{pins:List (AA×Obj)}{σ:St}{H:Hp}{s s':AC}
theorem Inv.env0(I:Inv X pins σ H s):b3J X.prog X.w X.K X.mg X.base X.A X.stack s H:=
 ⟨I.ok.frames,I.ok.mod,I.bs,Nat.le_trans I.ok.bsz I.sz,I.stack,I.stkFree,I.hok,I.bare⟩
theorem Inv.after{Q:VK}{u:AB}(I:Inv X pins σ H s)(h:CE X.stack X.prog X.w H s Q u s'):EP X pins σ Q u s':=by
 obtain⟨v,H',os,bare,un,hok,r,q⟩:=h;obtain⟨hh,g,d,t,os'⟩:=s';obtain rfl:os'=s.os:=os;exact⟨v,H',I.call (h':=hh) (g':=g) (d':=d) (t':=t) (ch:=[]) un hok bare (λb z=>absurd z (by simp)),r,q⟩
end
def c18(sp:Sp)(dvs:List V)(E:XK)(t:TA):TE:=λσ H Q=>t σ H λvs H1=>sp (vs++dvs) H1 Q E
def c4O(C:AA)(sp:Sp)(dvs:List V)(E:XK)(t:TA):TE:=λσ H Q=>t σ H λvs H1=>∀x dx,H1 x=ζ->H1 dx=ζ->dx≠x->
 sp (.ref x::(vs++dvs)) (A5 (A5 H1 dx (.own x)) x (.ins C dx [])) (λv H2=>v= .non/\Q (.ref x) H2) E
def V5(K:AE)(fd:FuncData)(ps:List Str)(ds:List AB):Prop:=
 ∀(s:AC) (us:List AB),K.In s.heap->(us++ds).length=ps.length->BindsTo s fd ⟨us,[]⟩ (ps.zip (us++ds))
theorem V5.all{K:AE}{fd:FuncData}{ps:List Str}(h:∀us:List AB,us.length=ps.length->bindArgs fd ⟨us,[]⟩=pure (ps.zip us)):V5 K fd ps []:=λs us _ hl=>by
 rw [Al] at hl ⊢;exact .of_eq (h us hl)
def a3n(CX:CXT)(X:Cx)(E:XK):Prop:=∀(pins:List (AA×Obj)) (σ:St) (H:Hp) (s:AC) (e:AB) (s':AC),Inv X pins σ H s->CX X.stack H s E e s'->X.xe e s'
section
variable {X:Cx}{CX:CXT}{k:Nat}{f C:AA}{fd:FuncData}{ps:List Str}{sp:Sp}{dvs:List V}{ds:List AB}{E:XK}{x m:Str}{p pos apos:Pos}{e o:AF}{es:List AF}{ta:TE}{t:TA}
theorem b4M{pins:List (AA×Obj)}{σ:St}{H:Hp}{s:AC}{Q:VK}{us:List AB}{vs:List V}(F:P4 X.prog X.w X.K X.mg X.base CX k f fd ps sp)(hr:G3 k X.A)(hb:V5 X.K fd ps ds)(hd:y0 dvs ds)(hx:a3n CX X E)
 (I:Inv X pins σ H s) (r:y0 vs us) (h:sp (vs++dvs) H Q E):AH (model X.prog X.w) X.A (call (.ref f) us) (EP X pins σ Q) X.xe s:=by
 have r2:y0 (vs++dvs) (us++ds):=r.append hd
 have hl:(us++ds).length=ps.length:=by rw [<-r2.length];exact F.len _ _ _ _ h
 refine wpAny_call (codeAny_mono (F.run X.A X.stack s H ⟨us,[]⟩ (us++ds) (vs++dvs) Q E hr I.env0 (hb s us I.kIn hl) r2 h) λr s' hq=> ?_)
 cases r with
 |error e=>exact hx pins σ H s e s' I hq
 |ok fl=>
  cases fl with
  |ret u=>exact I.after hq
  |next=>exact False.elim hq
  |brk=>exact False.elim hq
  |cont=>exact False.elim hq
theorem b5K(F:P4 X.prog X.w X.K X.mg X.base CX k f fd ps sp)(hr:G3 k X.A)(hg:Gl X x)(hm:X.mg x=ξ (.ref f))(hk:PySem.W.keepIn X.K (.ref f)=true)(hb:V5 X.K fd ps ds)(hd:y0 dvs ds)(hx:a3n CX X E)
 (ha:PA X (e::es) t) (hdb:Δ x:=by decide) (he:Ψ e es X.env:=by rfl) (hpl:Φ₁ pos es X.env:=by rfl):
 PE X (.Call (.Name x p) (e::es) [] pos) (c18 sp dvs E t):=by
 intro pins s σ H Q I h
 refine wpAny_Call_Name_kw (a0p I hg hm ?_ hdb)
 refine PySem.W.callWith_K (h₀:=X.base) I.ok.mod.kin hk (M9 (ha pos pins s σ H _ I h) λus s1 h0=>w8 h0 λvs H1 I1 r q=>⟨I1.kIn, ?_⟩) he hpl
 exact b4M F hr hb hd hx I1 r q
theorem b83(F:P4 X.prog X.w X.K X.mg X.base CX k f fd ps sp)(hr:G3 k X.A)(hg:Gl X x)(hm:X.mg x=ξ (.ref f))(hk:PySem.W.keepIn X.K (.ref f)=true)(hb:V5 X.K fd ps ds)(hd:y0 dvs ds)(hx:a3n CX X E)
 (hdb:Δ x:=by decide):PE X (.Call (.Name x p) [] [] pos) (c18 sp dvs E b9C):=by
 intro pins s σ H Q I h
 refine wpAny_Call_Name_kw (a0p I hg hm ?_ hdb)
 exact PySem.W.callWith_K0 I.kIn hk (b4M (us:=[]) F hr hb hd hx I .nil h)
structure Mk(K:AE)(C f:AA):Prop where
 makes:PySem.W.makesIn K C=true
 init:PySem.W.findIn K (.ref C) "__init__"=ξ (ξ (.ref f))
 fn:PySem.W.isFn K (.ref f)=true
 kp:PySem.W.keepIn K (.ref C)=true
theorem b9s{pins:List (AA×Obj)}{σ:St}{H:Hp}{s:AC}{Q:VK}{us:List AB}{vs:List V}(M:Mk X.K C f)(F:P4 X.prog X.w X.K X.mg X.base CX k f fd ps sp)(hr:G3 (k+1) X.A)(hb:V5 X.K fd ps ds)(hd:y0 dvs ds)
 (hx:a3n CX X E) (I:Inv X pins σ H s) (r:y0 vs us)
 (h:∀x dx,H x=ζ->H dx=ζ->dx≠x->sp (.ref x::(vs++dvs)) (A5 (A5 H dx (.own x)) x (.ins C dx [])) (λv H2=>v= .non/\Q (.ref x) H2) E):
 AH (model X.prog X.w) X.A (call (.ref C) us) (EP X pins σ Q) X.xe s:=by
 have hq:=h (s.heap.objs.size+1) s.heap.objs.size (I.hok.fresh (Nat.le_succ _)) (I.hok.fresh (AV _)) (Ak (Nat.lt_succ_self _))
 have I2:=Inv.made (C:=C) I
 have r2:y0 (V.ref (s.heap.objs.size+1)::(vs++dvs)) (Value.ref (s.heap.objs.size+1)::(us++ds)):= .cons rfl (r.append hd)
 have hl:(Value.ref (s.heap.objs.size+1)::us++ds).length=ps.length:=by
  have e:=r2.length;rw [F.len _ _ _ _ hq] at e;exact e.symm
 refine wpAny_call (b8I (f:=f) I.kIn M.makes M.init (beq_iff_eq.mp M.fn) (codeAny_mono (F.run _ X.stack _ _ ⟨Value.ref (s.heap.objs.size+1)::us,[]⟩ (Value.ref (s.heap.objs.size+1)::(us++ds)) _ _ E (hr.make C us [])
  (I2.env0.make C us []) (hb _ (Value.ref (s.heap.objs.size+1)::us) I2.kIn hl) r2 hq) λr s' hq'=> ?_))
 cases r with
 |error e=>exact hx pins σ _ _ e s' I2 hq'
 |ok fl=>
  cases fl with
  |ret u=>
   obtain⟨v,H',I3,rv,ev,q3⟩:=I2.after hq'
   subst ev
   exact⟨rv,⟨V.ref (s.heap.objs.size+1),H',I3,rfl,q3⟩⟩
  |next=>exact False.elim hq'
  |brk=>exact False.elim hq'
  |cont=>exact False.elim hq'
theorem c07(M:Mk X.K C f)(F:P4 X.prog X.w X.K X.mg X.base CX k f fd ps sp)(hr:G3 (k+1) X.A)(hg:Gl X x)(hm:X.mg x=ξ (.ref C))(hb:V5 X.K fd ps ds)(hd:y0 dvs ds)(hx:a3n CX X E)
 (ha:PA X (e::es) t) (hdb:Δ x:=by decide) (he:Ψ e es X.env:=by rfl) (hpl:Φ₁ pos es X.env:=by rfl):
 PE X (.Call (.Name x p) (e::es) [] pos) (c4O C sp dvs E t):=by
 intro pins s σ H Q I h
 refine wpAny_Call_Name_kw (a0p I hg hm ?_ hdb)
 refine PySem.W.callWith_K (h₀:=X.base) I.ok.mod.kin M.kp (M9 (ha pos pins s σ H _ I h) λus s1 h0=>w8 h0 λvs H1 I1 r q=>⟨I1.kIn, ?_⟩) he hpl
 exact b9s M F hr hb hd hx I1 r q
end
section
variable {X:Cx}{CX:CXT}{k:Nat}{f C:AA}{fd:FuncData}{ps ks:List Str}{sp:Sp}{E:XK}{x m:Str}{p pos apos kpos:Pos}{e o:AF}{es:List AF}{kws:List Keyword}{te ta:TE}{t tk:TA}{nm:Υ Str}
variable {g:List AB->List AB->List AB}{gV:List V->List V->List V}
end
structure g8(N P:List Str)(sc:Scope):Prop where
 kind:sc.kind= .function
 co:sc.isCoroutine=false
 gen:sc.isGenerator=false
 nd:N.Nodup
 pre:N.take P.length=P
 par:∀x∈P,sc.names.lookup x=ξ .local\/sc.names.lookup x=ξ .cell
 nofree:∀y∈sc.names,y.2≠.free
theorem b0d{kindOf:Str->Υ NameKind}{x:Str}:∀{binds:List (Str×AB)} {m:Str->Υ AB},(∀v,(x,v)∉binds)->bindL kindOf binds m x=m x
 |[],_,_=>rfl
 |(n,v)::r,m,h=>by
  unfold bindL;rw [b0d λw hw=>h w (Af _ hw)];split
  ·have:x≠n:=by rintro rfl;exact h v AZ
   simp [this]
  ·rfl
theorem b0b{kindOf:Str->Υ NameKind}{x:Str}:∀{binds:List (Str×AB)} {m:Str->Υ AB},(∀v,(x,v)∉binds)->bindC kindOf binds m x=m x
 |[],_,_=>rfl
 |(n,v)::r,m,h=>by
  unfold bindC;rw [b0b λw hw=>h w (Af _ hw)];split
  ·rfl
  ·have:x≠n:=by rintro rfl;exact h v AZ
   simp [this]
theorem b0c{kindOf:Str->Υ NameKind}{x:Str}{v:AB}:∀{P:List Str} {vs:List AB} {i:Nat} {m:Str->Υ AB},P.Nodup->P[i]?=ξ x->vs[i]?=ξ v->kindOf x=ξ .local->
 bindL kindOf (P.zip vs) m x=ξ v
 |[],_,_,_,_,h,_,_=>by simp at h
 |_::_,[],_,_,_,_,h,_=>by simp at h
 |p::P,w::vs,0,m,nd,h1,h2,hk=>by
  simp at h1 h2;subst h1;subst h2;show bindL kindOf ((p,w)::P.zip vs) m p=_;unfold bindL;rw [b0d λv hv=>(List.nodup_cons.mp nd).1 (List.of_mem_zip hv).1,if_pos hk];simp
 |p::P,w::vs,i+1,m,nd,h1,h2,hk=>by
  show bindL kindOf ((p,w)::P.zip vs) m x=_;unfold bindL;exact b0c (i:=i) (List.nodup_cons.mp nd).2 (by simpa using h1) (by simpa using h2) hk
theorem b0a{kindOf:Str->Υ NameKind}{x:Str}{v:AB}:∀{P:List Str} {vs:List AB} {i:Nat} {m:Str->Υ AB},P.Nodup->P[i]?=ξ x->vs[i]?=ξ v->kindOf x≠ξ .local->
 bindC kindOf (P.zip vs) m x=ξ v
 |[],_,_,_,_,h,_,_=>by simp at h
 |_::_,[],_,_,_,_,h,_=>by simp at h
 |p::P,w::vs,0,m,nd,h1,h2,hk=>by
  simp at h1 h2;subst h1;subst h2;show bindC kindOf ((p,w)::P.zip vs) m p=_;unfold bindC;rw [b0b λv hv=>(List.nodup_cons.mp nd).1 (List.of_mem_zip hv).1,if_neg hk];simp
 |p::P,w::vs,i+1,m,nd,h1,h2,hk=>by
  show bindC kindOf ((p,w)::P.zip vs) m x=_;unfold bindC;exact b0a (i:=i) (List.nodup_cons.mp nd).2 (by simpa using h1) (by simpa using h2) hk
def a1s(N:List Str)(vs:List V):St:=vs.map ξ++AU (N.length - vs.length) ζ
def a2j(CX:CXT)(P:AK)(w:AJ)(K:AE)(mg:Str->Υ AB)(base:Heap)(N:List Str)(qual:Str)(scope:Scope)(f:AA)(cd:AB)(A:AL)(outer:List Env)(s:AC)(H:Hp)(E:XK):Cx where
 prog:=P
 w:=w
 K:=K
 mg:=mg
 base:=base
 A:=A.deeper (envOfC qual scope s.heap.objs.size f cd)
 N:=N
 s₀:=s
 H₀:=H
 env:=envOfC qual scope s.heap.objs.size f cd
 outer:=outer
 stack:=envOfC qual scope s.heap.objs.size f cd::outer
 ex:=[]
 calm:=true
 fn:=λ_=>true
 pn:=[]
 xe:=λe s'=>AH (model P w) (A.deeper (envOfC qual scope s.heap.objs.size f cd)) (leaving (envOfC qual scope s.heap.objs.size f cd) e) (λ_ s''=>CX outer H s E e s'') (λe' s''=>CX outer H s E e' s'') s'
theorem b2o{sc:Scope}{n:Nat}{x:Str}(h:sc.names.lookup x=ξ .cell):∃c,(cellsFrom n sc.names []).lookup x=ξ c:=by
 have q:=PySem.W.cellsFrom_some sc.names n [] (.inl h);exact Option.isSome_iff_exists.mp q
theorem b6l{CX:CXT}{P:AK}{w:AJ}{K:AE}{mg:Str->Υ AB}{base:Heap}{N ps:List Str}{qual:Str}{scope:Scope}{f:AA}{cd:AB}{A:AL}{outer:List Env}{s s1:AC}{H:Hp}{E:XK}{us:List AB}{vs:List V}
 (S:g8 N ps scope) (hd:A.handled=ζ) (e0:b3J P w K mg base A outer s H) (hl:vs.length=ps.length) (r:y0 vs us)
 (x:InCallC s s.heap.objs.size (bindL (envOfC qual scope s.heap.objs.size f cd).kindOf (ps.zip us) λ_=>ζ) (cellsFrom (s.heap.objs.size+1) scope.names []) (bindC (envOfC qual scope s.heap.objs.size f cd).kindOf (ps.zip us) λ_=>ζ) s1):
 Inv (a2j CX P w K mg base N qual scope f cd A outer s H E) [] (a1s N vs) H s1:=by
 have hpl:ps.length<=N.length:=by have:=congrArg List.length S.pre;rw [List.length_take] at this;lia
 obtain⟨h1,tk,rfl,hk⟩:=x.done
 have noA:∀b:AA,b∉(a2j CX P w K mg base N qual scope f cd A outer s H E).ex:=λb z=>absurd (show b∈([]:List AA) from z) (by simp)
 refine⟨⟨e0.mod,S.kind,rfl,rfl,AV _,λy z c h1 h2=> ?_,λy hy=> ?_,λy c _ h=> ?_,λ_=>hd,Around.frames_deeper e0.frames,.inr ⟨rfl,rfl⟩,λb z=>absurd z (noA b),e0.bs,e0.bsz,λb _ _=>noA b,λb z=>absurd z (noA b),e0.funs,e0.frf⟩,
  rfl,e0.bare,Un.kept hk,⟨_,x.toInCall.ns,λi y v h1 h2 h3=> ?_⟩,λy c h=>⟨_,x.cell y c h⟩,e0.hok.fresh (AV _),λy c h=> ?_,λp hp=>absurd (show p∈([]:List (AA×Obj)) from hp) (by simp),e0.hok.kept hk, ?_⟩
 ·exact name_of_addr x.apart (PySem.mem_of_lookup h1) (PySem.mem_of_lookup h2)
 ·have hy:scope.names.lookup y=ξ .cell\/scope.names.lookup y=ξ .free:=hy
  rcases hy with hy|hy
  ·exact b2o hy
  ·exact absurd rfl (S.nofree _ (PySem.mem_of_lookup hy))
 ·exact BH (x.above y c (PySem.mem_of_lookup h))
 ·have hi:i<vs.length:=by
   unfold a1s at h2
   by_cases hi:i<vs.length
   ·exact hi
   ·rw [List.getElem?_append_right (by simpa using hi)] at h2
    rw [List.getElem?_replicate] at h2;split at h2<;>cases h2
  have ha:vs[i]?=ξ v:=by
   unfold a1s at h2;rw [BB (by simpa using hi),Aw] at h2
   cases e:vs[i]? with
   |none=>rw [e] at h2;cases h2
   |some a=>rw [e] at h2;cases h2;rfl
  obtain⟨u,hu,rv⟩:=r.get ha;have hp:ps[i]?=ξ y:=by
   rw [<-S.pre,List.getElem?_take_of_lt (by lia)];exact h1
  have ndP:ps.Nodup:=by rw [<-S.pre];exact S.nd.sublist (List.take_sublist _ _)
  refine⟨u,rv, ?_⟩;rcases S.par y (BE hp) with k|k
  ·exact .inl ⟨k,b0c ndP hp hu k⟩
  ·obtain⟨c,e⟩:=b2o (n:=s.heap.objs.size+1) k;refine .inr ⟨.inl k,c,e, ?_⟩;have q:=x.cell y c e;rw [b0a ndP hp hu (by show scope.names.lookup y≠_;rw [k];decide)] at q
   exact q
 ·exact e0.hok.fresh (BH (x.above y c (PySem.mem_of_lookup h)))
 ·unfold a1s
  show _=N.length
  rw [AQ,AY,List.length_replicate]
  lia
theorem c1T{CX:CXT}{P:AK}{w:AJ}{K:AE}{mg:Str->Υ AB}{base:Heap}{k:Nat}{f:AA}{name qual:Str}{params:Arguments}{body:List Stmt}{scope:Scope}{dV kV doc pm cdv ct oc:AB}{an od:Υ AA}
 {osl:Array (Υ AB)} {N ps:List Str} {sp:Sp} (lk:K.lookup f=ξ ⟨oc,od,.func (PySem.W.fnOf name qual params body scope dV kV doc pm an cdv ct),osl⟩) (hcd:PySem.W.codeIn K cdv qual=true) (S:g8 N ps scope)
 (len:∀vs H Q E,sp vs H Q E->vs.length=ps.length)
 (hbody:∀(A:AL) (outer:List Env) (s:AC) (H:Hp) (vs:List V) (Q:VK) (E:XK),G3 k (A.deeper (envOfC qual scope s.heap.objs.size f cdv))->sp vs H Q E->
  ∃t,PSs (a2j CX P w K mg base N qual scope f cdv A outer s H E) body t/\t {nx:=λ_ H'=>Q .non H',rt:=Q} (a1s N vs) H):
 P4 P w K mg base CX (k+1) f (PySem.W.fnOf name qual params body scope dV kV doc pm an cdv ct) ps sp:=by
 refine⟨len,λA outer s H args us vs Q E hr e0 hb r hsp=> ?_⟩
 have hl:=len _ _ _ _ hsp
 have KX:K.In s.heap:=e0.mod.kin.keeps λb o e=>(e0.bs b o e).1
 have lim:s.heap.NoLimit:=e0.mod.nolimit.keeps λb o e=>(e0.bs b o e).1
 have hkind:∀y∈ps.zip us,scope.names.lookup y.1=ξ .local\/(scope.names.lookup y.1=ξ .cell/\((cellsFrom (s.heap.objs.size+1) scope.names []).lookup y.1).isSome=true):=λ⟨n,v⟩ hy=>by
  rcases S.par n (List.of_mem_zip hy).1 with q|q
  ·exact .inl q
  ·exact .inr ⟨q,PySem.W.cellsFrom_some _ _ _ (.inl q)⟩
 refine codeAny_call_function hr.depth (KX _ _ lk) rfl S.co S.gen rfl (PySem.W.codeRec_of KX hcd) (hb _ _ _ _ ?_)
 refine wpAny_newFunctionEnv_cells S.kind hkind λenv he s1 x=> ?_
 subst he
 refine⟨lim.keeps x.toInCall.keep,codeAny_func ?_⟩
 obtain⟨t,ht,hq⟩:=hbody A outer s H vs Q E (hr.deeper _) hsp
 have I:Inv (a2j CX P w K mg base N qual scope f cdv A outer s H E) [] (a1s N vs) H s1:=b6l S hr.hd e0 hl r x
 refine wpAny_mono (ht [] s1 (a1s N vs) H _ I hq) (λfl s' hs=> ?_) λe s' hs=>hs
 have fin:∀{σ':St} {H':Hp} {v:V} {u:AB},Inv (a2j CX P w K mg base N qual scope f cdv A outer s H E) [] σ' H' s'->y4 v u->Q v H'->CE outer P w H s Q u s':=
  λ {σ' H' v u} J rv q=>⟨v,H',J.os,J.bare,J.base,J.hok,rv,q⟩
 cases fl with
 |ret u=>
  obtain⟨v,σ',H',J,rv,q⟩:=hs
  exact fin J rv q
 |next=>
  obtain⟨σ',H',J,q⟩:=hs
  exact fin (v:=V.non) (u:=Value.none) J rfl q
 |brk=>
  obtain⟨_,_,_,q⟩:=hs
  exact False.elim q
 |cont=>
  obtain⟨_,_,_,q⟩:=hs
  exact False.elim q
section
variable {X:Cx}{x:Str}{p pos:Pos}{e:AF}{es:List AF}{t:TA}{id T:String}{r:List V->Hp->VK->Prop}
def tCB(r:List V->Hp->VK->Prop)(t:TA):TE:=λσ H Q=>t σ H λvs H1=>r vs H1 Q
theorem a2u(hc:R7 X (.builtin id) r)(hg:Gl X x)(hm:X.mg x=ζ)(hv:bootBuiltins x=ξ (.builtin id))(ha:PA X (e::es) t)(hn:x≠"__name__":=by decide)(hdb:Δ x:=by decide)
 (he:Ψ e es X.env:=by rfl) (hpl:Φ₁ pos es X.env:=by rfl):PE X (.Call (.Name x p) (e::es) [] pos) (tCB r t):=by
 intro pins s σ H Q I h
 refine wpAny_Call_Name_kw (a3X I hg hm hv ?_ hn hdb)
 exact PyProof.Rows.callWith_builtin1 (M9 (ha pos pins s σ H _ I h) λus s1 h0=>w8 h0 λvs H1 I1 r1 q1=>hc pins s1 σ H1 vs us Q I1 r1 q1) he hpl
theorem b6M(hc:R7 X (.type T) r)(hg:Gl X x)(hm:X.mg x=ζ)(hv:bootBuiltins x=ξ (.type T))(ha:PA X (e::es) t)(hn:x≠"__name__":=by decide)(hdb:Δ x:=by decide)
 (he:Ψ e es X.env:=by rfl) (hpl:Φ₁ pos es X.env:=by rfl):PE X (.Call (.Name x p) (e::es) [] pos) (tCB r t):=by
 intro pins s σ H Q I h
 refine wpAny_Call_Name_kw (a3X I hg hm hv ?_ hn hdb)
 exact PyProof.Rows.callWith_type1 (M9 (ha pos pins s σ H _ I h) λus s1 h0=>w8 h0 λvs H1 I1 r1 q1=>hc pins s1 σ H1 vs us Q I1 r1 q1) he hpl
end
end L2
namespace HT
open PySem PyProof.Rows
section
open PySem.SeqAt
open PySem.AutoSeq1 (wpAny_loadPart')
open PySem.MeetsSeq PySem.MeetsSeq2 PySem.MeetsSeq3
end
section
variable {prog:AK}{w:AJ}{A:AL}{E:AB->AC->Prop}{s:AC}
theorem cat_tup{t b:AA}{vs ws:List AB}{Q:AB->AC->Prop}(ht:IsTup s.heap t vs.toArray)(hb:IsTup s.heap b ws.toArray)(hv:vs≠[])
 (h1:ws=[]->Q (.ref t) s) (h2:ws≠[]->Q (.ref s.heap.objs.size) {s with heap:=s.heap.push {cls:= .type "tuple",data:= .seq (vs++ws).toArray}})
 (hsz:vs.length+ws.length<=AN):AH (model prog w) A (binaryOp .Add (.ref t) (.ref b)) Q E s:=by
 obtain⟨⟨cls,dd,data,sl⟩,ho,hc,n,hd⟩:=id ht
 obtain⟨⟨cls2,dd2,data2,sl2⟩,ho2,hc2,n2,hd2⟩:=id hb
 simp only at hc hd hc2 hd2
 subst hc hd hc2 hd2
 have e:vs.toArray++ws.toArray=(vs++ws).toArray:=by simp
 by_cases hw:ws=[]
 ·exact concat_meets ⟨_,ho,rfl⟩ ⟨_,ho2,rfl⟩ noFill_tuple_add seq_tuple_add PySem.F.slot_tuple_add PySem.F.entry_tuple_add (PySem.F.args_tuple_add_2 _ _)
   (tuple_addW1 t b vs.toArray ws.toArray n n2 dd dd2 sl sl2 (by simpa using hv) (by simp [hw])) ⟨ho,ho2,h1 hw⟩
 ·refine concat_meets ⟨_,ho,rfl⟩ ⟨_,ho2,rfl⟩ noFill_tuple_add seq_tuple_add PySem.F.slot_tuple_add PySem.F.entry_tuple_add (PySem.F.args_tuple_add_2 _ _)
   (tuple_addW2 t b vs.toArray ws.toArray n n2 dd dd2 sl sl2 (by simpa using hv) (by simpa using hw) (by rw [Ar,Ar];exact hsz)) ⟨ho,ho2, ?_⟩
  rw [e]
  exact h2 hw
def sIx(n d:Nat):Υ Int->Nat
 |none=>d
 |some v=>if v<0 then(v+(n:Int)).toNat else min v.toNat n
theorem sIx_none(n d:Nat):sIx n d ζ=d:=rfl
theorem sIx_nat(n d k:Nat):sIx n d (ξ (k:Int))=min k n:=by
 show(if(k:Int)<0 then((k:Int)+(n:Int)).toNat else min (k:Int).toNat n)=min k n
 rw [if_neg (by lia),BK]
theorem sIx_le(n d:Nat)(hd:d<=n)(o:Υ Int):sIx n d o<=n:=by
 cases o with
 |none=>exact hd
 |some v=>
  show(if v<0 then(v+(n:Int)).toNat else min v.toNat n)<=n
  by_cases hv:v<0
  ·rw [if_pos hv];lia
  ·rw [if_neg hv];exact Nat.min_le_right _ _
theorem b47(v:Int)(n d:Nat):(if v<0 then max (v+(n:Int)) 0 else min v (n:Int))=((sIx n d (ξ v):Nat):Int):=by
 show(if v<0 then max (v+(n:Int)) 0 else min v (n:Int))=(((if v<0 then(v+(n:Int)).toNat else min v.toNat n):Nat):Int)
 by_cases hv:v<0
 ·simp only [if_pos hv];lia
 ·simp only [if_neg hv];lia
theorem b3P(lo hi:Υ Int)(n:Nat):Builtin.Slice.sliceAdjust lo hi 1 (n:Int)=(((sIx n 0 lo:Nat):Int),((sIx n n hi:Nat):Int)):=by
 have h1:¬((1:Int)<0):=by lia
 unfold Builtin.Slice.sliceAdjust;simp only [h1,if_false];refine Prod.ext ?_ ?_
 ·cases lo with
  |none=>rfl
  |some v=>exact b47 v n 0
 ·cases hi with
  |none=>rfl
  |some v=>exact b47 v n n
theorem b4L(i j:Nat):Builtin.Slice.slicePlaces (i:Int) (j:Int) 1=j - i:=by
 unfold Builtin.Slice.slicePlaces;have h1:(1:Int)>0:=by lia
 simp only [h1,if_true,Int.ediv_one];split<;>lia
theorem a9x{v:AB}{o:Υ Int}{Q:Υ Int->AC->Prop}(p:IsPart v o)(h:Q o s):AH (model prog w) A (Builtin.Slice.slicePartIndex v) Q E s:=by
 cases p with
 |none=>exact slicePart_none h
 |int i t=>exact slicePart_int h
theorem sliceApplied_gen{sl:AA}{vl vu:AB}{lo hi:Υ Int}{n:Nat}{Q:Int×Int×Nat->AC->Prop}(hs:s.heap.IsSliceOf sl vl vu .none)(pl:IsPart vl lo)(pu:IsPart vu hi)
 (h:Q (((sIx n 0 lo:Nat):Int),1,sIx n n hi - sIx n 0 lo) s):AH (model prog w) A (Builtin.Slice.sliceApplied (.ref sl) (pure (n:Int))) Q E s:=by
 obtain⟨os,hos,hcs,hds⟩:=id hs
 unfold Builtin.Slice.sliceApplied Builtin.Slice.sliceFields
 refine AG (AG (wpAny_field hos hds (x:=vl) rfl (AG (wpAny_field hos hds (x:=vu) rfl (AG (wpAny_field hos hds (x:= .none) rfl (AR ?_)))))))
 refine AG (slicePart_none ?_)
 show AH _ _ (if((1:Int)==0)=true then _ else _) _ _ s
 rw [if_neg (by decide)]
 refine AG (a9x pl (AG (a9x pu (AG (AR ?_)))))
 show AH _ _ (match Builtin.Slice.sliceAdjust lo hi 1 (n:Int) with|(lo,hi)=>pure (lo,(1:Int),Builtin.Slice.slicePlaces lo hi 1)) _ _ s
 rw [b3P lo hi n]
 show AH _ _ (pure (((sIx n 0 lo:Nat):Int),(1:Int),Builtin.Slice.slicePlaces ((sIx n 0 lo:Nat):Int) ((sIx n n hi:Nat):Int) 1)) _ _ s
 rw [b4L]
 exact AR h
theorem b9a(xs:Array AB)(i k:Nat):((Aq k).filterMap λ(m:Nat)=>xs[((i:Int)+(m:Int)*1).toNat]?).toArray=((xs.toList.drop i).take k).toArray:=by
 have e:(λ(m:Nat)=>xs[((i:Int)+(m:Int)*1).toNat]?)=λm=>xs[i+m]?:=by
  funext m
  have:((i:Int)+(m:Int)*1).toNat=i+m:=by lia
  rw [this]
 rw [e];have:=pick_run xs i k;rw [List.filterMap_map] at this;have e2:((λx=>xs[x]?)∘λx=>i+x)=λm=>xs[i+m]?:=rfl;rw [e2] at this;rw [this]
theorem getItem_tuple_cut{t sl:AA}{items:Array AB}{vl vu:AB}{lo hi:Υ Int}{Q:AB->AC->Prop}(ht:IsTup s.heap t items)(hs:s.heap.IsSliceOf sl vl vu .none)(pl:IsPart vl lo)(pu:IsPart vu hi)
 (hw:¬(sIx items.size 0 lo=0/\sIx items.size items.size hi=items.size))
 (h:Q (.ref s.heap.objs.size) {s with heap:=s.heap.push {cls:= .type "tuple",data:= .seq ((items.toList.drop (sIx items.size 0 lo)).take (sIx items.size items.size hi - sIx items.size 0 lo)).toArray}})
 (hsz:items.size<=AN):AH (model prog w) A (getItem (.ref t) (.ref sl)) Q E s:=by
 have htake:sizeOk (.seq ((items.toList.drop (sIx items.size 0 lo)).take (sIx items.size items.size hi - sIx items.size 0 lo)).toArray):=by
  show((items.toList.drop (sIx items.size 0 lo)).take (sIx items.size items.size hi - sIx items.size 0 lo)).toArray.size<=AN;rw [Ar,List.length_take,List.length_drop,Array.length_toList]
  lia
 have hj:sIx items.size items.size hi<=items.size:=sIx_le _ _ (AV _) hi
 obtain⟨os,hos,hcs,hds⟩:=id hs
 have hTs:s.TypeIs (.ref sl) "slice":=⟨os,hos,hcs⟩
 unfold getItem
 try with_reducible refine wpAny_holding ?_
 first|refine AG (AR ?_)|skip
 refine AG (wpAny_sequenceKey ht.typeIs (by decide) ?_)
 refine AG (wpAny_callSpecial?_slot (name:=AD "__getitem__") ht.typeIs PyProof.Rows.slot_tuple_getitem
  (wpAny_call_entry PyProof.Rows.slot_tuple_getitem ht.typeIs entry_tuple_getitem ?_ (args_tuple_getitem _ _)))
 show AH _ _ (Builtin.Tuple.tupleItemsOf (.ref t)>>=_) _ _ s
 refine AG (tupleItemsOf_ ht ?_)
 refine AG (wpAny_typeOf hTs ?_)
 rw [if_pos (by decide)]
 refine AG (sliceApplied_gen hs pl pu ?_)
 have hno:¬((((sIx items.size 0 lo:Nat):Int)==0 &&(1:Int)==1 &&(sIx items.size items.size hi - sIx items.size 0 lo)==items.size)=true):=by
  intro q;rw [χ,χ] at q;have q1:((sIx items.size 0 lo:Nat):Int)=0:=eq_of_beq q.1.1;have q2:sIx items.size items.size hi - sIx items.size 0 lo=items.size:=eq_of_beq q.2;exact hw ⟨by lia,by lia⟩
 show AH _ _ (if(((sIx items.size 0 lo:Nat):Int)==0 &&(1:Int)==1 &&(sIx items.size items.size hi - sIx items.size 0 lo)==items.size)=true then _ else _) _ _ s
 rw [if_neg hno,b9a]
 first
  |exact AG (m:=Builtin.Tuple.tupleExact _) (wpAny_newObj_type (AR ⟨_,rfl,AR h⟩) htake)
  |exact AG (m:=Builtin.Tuple.tupleExact _) (wpAny_newObj_type (AG (AR (AR ⟨_,rfl,AR h⟩))) htake)
  |exact AG (AG (m:=Builtin.Tuple.tupleExact _) (wpAny_newObj_type (AR (AR ⟨_,rfl,AR h⟩)) htake))
  |exact AG (AG (m:=Builtin.Tuple.tupleExact _) (wpAny_newObj_type (AR ⟨_,rfl,AR h⟩) htake))
end
end HT
namespace L2
abbrev TO:=St->Hp->(Υ Int->Hp->Prop)->Prop
def PO(X:Cx)(e:Υ AF)(t:TO):Prop:=
 ∀pins s σ (H:Hp) (Q:Υ Int->Hp->Prop),Inv X pins σ H s->t σ H Q->
  AH (model X.prog X.w) X.A (evalPart e X.env) (λu s'=>∃o H',Inv X pins σ H' s'/\IsPart u o/\Q o H') X.xe s
def c1v:TO:=λ_ H Q=>Q ζ H
def c4Q(t:TE):TO:=λσ H Q=>t σ H λx H1=>∃i,x= .int i/\Q (ξ i) H1
section
variable {X:Cx}{e:AF}{te:TE}{lo hi:Υ AF}{tl th:TO}{pos p2:Pos}
theorem c09:PO X ζ c1v:=by
 ext s
 rw [evalPart_none];exact AR ⟨ζ,H,I,.none,h⟩
theorem c1a(h:PE X e te):PO X (ξ e) (c4Q te):=by
 intro pins s σ H Q I hw;rw [evalPart_some];refine M9 (h pins s σ H _ I hw) λu s1 h0=>w8 h0 λx H1 I1 r1 q1=> ?_;obtain⟨i,rfl,q⟩:=q1;obtain⟨t,rfl⟩:=r1;exact⟨ξ i,H1,I1,.int i t,q⟩
def SlR(X:Cx)(r:V->Υ Int->Υ Int->Hp->VK->Prop):Prop:=
 ∀pins s σ (H:Hp) (x:V) (v vl vu:AB) (lo hi:Υ Int) (sl:AA) (Q:VK),Inv X pins σ H s->y4 x v->s.heap.IsSliceOf sl vl vu .none->IsPart vl lo->IsPart vu hi->r x lo hi H Q->
  ∃T id,typeLookup (.type T) "__getitem__"=pure (ξ (.builtin id))/\s.TypeIs v T/\AH (model X.prog X.w) X.A (getItem v (.ref sl)) (EP X pins σ Q) X.xe s
def tSl(r:V->Υ Int->Υ Int->Hp->VK->Prop)(te:TE)(tl th:TO):TE:=λσ H Q=>te σ H λx H1=>tl σ H1 λl H2=>th σ H2 λu H3=>r x l u H3 Q
theorem b87{r:V->Υ Int->Υ Int->Hp->VK->Prop}(hr:SlR X r)(he:PE X e te)(hl:PO X lo tl)(hu:PO X hi th):PE X (.Subscript e (.Slice lo hi ζ p2) pos) (tSl r te tl th):=by
 ext s
 refine Subscript_ (M9 (he pins s σ H _ I h) λv s1 h0=>w8 h0 λx H1 I1 r1 q1=> ?_);refine wpAny_Slice (M9 (hl pins s1 σ H1 _ I1 q1) λvl s2 h0=>w8 h0 λl H2 I2 pl q2=>M9 (hu pins s2 σ H2 _ I2 q2) λvu s3 h0=>w8 h0 λu H3 I3 pu q3=> ?_);rw [evalPart_none];refine AR ?_;have I4:Inv X pins σ H3 {s3 with heap:=s3.heap.push {cls:= .type "slice",data:= .fields #[vl,vu,.none]}}:=I3.kept (t':=s3.toks) λb ob q=>AS _ q
 obtain⟨T,id,hT,ht,hg⟩:=hr pins {s3 with heap:=s3.heap.push {cls:= .type "slice",data:= .fields #[vl,vu,.none]}} σ H3 x v vl vu l u s3.heap.objs.size Q I4 r1 (Heap.IsSliceOf.new ..) pl pu q3
 show AH (model X.prog X.w) X.A (subscriptTail e (.Slice lo hi ζ p2) v (.ref s3.heap.objs.size)) (EP X pins σ Q) X.xe {s3 with heap:=s3.heap.push {cls:= .type "slice",data:= .fields #[vl,vu,.none]}}
 exact tail_any (ops:=[.ref s3.heap.objs.size,v]) ht hT hg (by with_unfolding_all rfl)
def b90(xs:List V)(lo hi:Υ Int):List V:=(xs.drop (HT.sIx xs.length 0 lo)).take (HT.sIx xs.length xs.length hi - HT.sIx xs.length 0 lo)
theorem b2q(xs:List V)(lo hi:Υ Int):(b90 xs lo hi).length<=xs.length:=by
 unfold b90;rw [List.length_take,List.length_drop]
 lia
def c5g(K:AE):V->Υ Int->Υ Int->Hp->VK->Prop:=λx lo hi H Q=>∃a xs,x= .ref a/\SqT K H a xs/\
 ¬(HT.sIx xs.length 0 lo=0/\HT.sIx xs.length xs.length hi=xs.length)/\∀p,H p=ζ->Q (.ref p) (A5 H p (.tup (b90 xs lo hi)))
theorem c3J:SlR X (c5g X.K):=by
 ext z
 refine⟨"tuple",_,PyProof.Rows.slot_tuple_getitem.lookup,ht.typeIs, ?_⟩;refine HT.getItem_tuple_cut ht hs pl pu (by rw [hlen];exact hw) ?_ (by rw [hlen];exact hz)
 rw [hlen];refine⟨.ref s.heap.objs.size,_,I.laid (t':=s.toks) (o:= .tup (b90 xs lo hi)) (λb ob q=>AS _ q) (AV _) ?_,rfl,q _ (I.hok.fresh (AV _))⟩;exact⟨Nat.le_trans (b2q xs lo hi) hz,_,(r.drop (HT.sIx xs.length 0 lo)).take (HT.sIx xs.length xs.length hi - HT.sIx xs.length 0 lo),IsTup.new _ _⟩
def c4G(K:AE):R2:=λx y H Q=>∃a b xs ys,x= .ref a/\y= .ref b/\SqT K H a xs/\SqT K H b ys/\xs≠[]/\xs.length+ys.length<=AN/\
 (ys=[]->Q (.ref a) H)/\(ys≠[]->∀p,H p=ζ->Q (.ref p) (A5 H p (.tup (xs++ys))))
theorem y0.nil_iff{xs:List V}{us:List AB}(r:y0 xs us):us=[]↔xs=[]:=by
 cases r with
 |nil=>simp
 |cons _ _=>simp
theorem c0X:OpR X (binaryOp .Add) (c4G X.K):=by
 ext q
 obtain⟨a,b,xs,ys,rfl,rfl,ha,hb,hx,hz,q1,q2⟩:=h;cases rx;cases ry;obtain⟨its,r1,p1,_⟩:=I.tuple ha;obtain⟨its2,r2,p2,_⟩:=I.tuple hb;refine HT.cat_tup p1 p2 (λz=>hx (r1.nil_iff.mp z)) (λz=>⟨.ref a,H,I,rfl,q1 (r2.nil_iff.mp z)⟩) (λz=> ?_) (by rw [<-r1.length,<-r2.length];exact hz)
 refine⟨.ref s.heap.objs.size,_,I.laid (t':=s.toks) (o:= .tup (xs++ys)) (λb ob q=>AS _ q) (AV _) ?_,rfl,q2 (λw=>z (r2.nil_iff.mpr w)) _ (I.hok.fresh (AV _))⟩;exact⟨by rw [AQ];exact hz,_,r1.append r2,IsTup.new _ _⟩
end
def ixN(n:Nat)(i:Int):Υ Nat:=if 0<=i then(if i<n then ξ i.toNat else ζ) else if -(n:Int)<=i then ξ (i+n).toNat else ζ
def atI{α:Type}(xs:List α)(i:Int):Υ α:=(ixN xs.length i).bind λj=>xs[j]?
theorem c0y{n:Nat}{i:Int}{j:Nat}(h:ixN n i=ξ j):seqIndex? i n=ξ j/\j<n/\ -(n:Int)<=i/\i<n:=by
 unfold ixN at h
 by_cases h0:0<=i
 ·rw [if_pos h0] at h
  by_cases h1:i<n
  ·rw [if_pos h1] at h;have e:i.toNat=j:=Option.some.inj h;exact⟨by rw [seqIndex_of h0 h1,e],by lia,by lia,h1⟩
  ·rw [if_neg h1] at h;cases h
 ·rw [if_neg h0] at h
  by_cases h1: -(n:Int)<=i
  ·rw [if_pos h1] at h;have e:(i+n).toNat=j:=Option.some.inj h;exact⟨by rw [seqIndex_neg (by lia) h1,e],by lia,h1,by lia⟩
  ·rw [if_neg h1] at h;cases h
theorem b02{α:Type}{xs:List α}{i:Int}{v:α}(h:atI xs i=ξ v):∃j,seqIndex? i xs.length=ξ j/\xs[j]?=ξ v/\j<xs.length/\ -(xs.length:Int)<=i/\i<xs.length:=by
 unfold atI at h;cases e:ixN xs.length i with
 |none=>rw [e] at h;cases h
 |some j=>
  rw [e] at h;obtain⟨h1,h2,h3,h4⟩:=c0y e;exact⟨j,h1,h,h2,h3,h4⟩
def b42(b:AF):Prop:=∀o i,subscripted b false o i=operate [o,i] (getItem o i)
def IxR(X:Cx)(r:R2):Prop:=
 ∀(value slice:AF) (pins:List (AA×Obj)) (s:AC) (σ:St) (H:Hp) (x y:V) (v u:AB) (Q:VK),Inv X pins σ H s->y4 x v->y4 y u->r x y H Q->
  subscripted slice false v u=operate [v,u] (getItem v u)->AH (model X.prog X.w) X.A (subscriptTail value slice v u) (EP X pins σ Q) X.xe s
def MtR(X:Cx)(id:String)(r:V->List V->Hp->VK->Prop):Prop:=
 ∀pins s σ (H:Hp) (x:V) (xs:List V) (v:AB) (us:List AB) (Q:VK),Inv X pins σ H s->y4 x v->y0 xs us->r x xs H Q->
  AH (model X.prog X.w) X.A (call (.builtin id) (v::us)) (EP X pins σ Q) X.xe s
section
variable {X:Cx}{a b:AF}{ta tb:TE}{pos:Pos}
theorem c4B{r:R2}(hr:IxR X r)(ha:PE X a ta)(hb:PE X b tb)(hs:b42 b):PE X (.Subscript a b pos) (tOp r ta tb):=by
 ext s
 exact Subscript_ (c2o ha hb I h λv u s2 x y H2 I2 rx ry q=>hr a b pins s2 σ H2 x y v u Q I2 rx ry q (hs _ _))
def c5c(K:AE):R2:=λx y H Q=>∃p xs i v,x= .ref p/\y= .int i/\Y7 K H p xs/\atI xs i=ξ v/\Q v H
def c5e(K:AE):R2:=λx y H Q=>∃p xs i v,x= .ref p/\y= .int i/\SqT K H p xs/\atI xs i=ξ v/\Q v H
def c5d:R2:=λx y H Q=>∃z i c,x= .str z/\y= .int i/\z.length<=AN/\atI z.cps.toList i=ξ c/\Q (.str ⟨#[c]⟩) H
theorem c0z:IxR X (c5c X.K):=by
 ext aw
 obtain⟨p,xs,i,z,rfl,rfl,hq,he,q⟩:=h;cases rx;obtain⟨t,rfl⟩:=ry;obtain⟨its,r,pl,hz⟩:=I.list hq
 ext an
 by_cases h0:0<=i
 ·have hj:i.toNat=j:=by
   rw [seqIndex_of h0 h5] at h1;exact Option.some.inj h1
  exact item_listR pl.isList h0 (by lia) (by rw [hj];simpa using ew) fin hs
 ·have hj:(i+(its.toArray.size:Int)).toNat=j:=by
   rw [seqIndex_neg (by lia) h4] at h1
   rw [Ar,<-hl];exact Option.some.inj h1
  exact subscriptTail_builtinR (x:=w) pl.isList.typeIs slot_list_getitem.lookup
   (wpAny_getItem_list_neg (Q:=λr s'=>r=w/\EP X pins σ Q r s') pl.isList (by lia) (by rw [Ar]<;>lia) (by lia) (by rw [hj];simpa using ew) ⟨rfl,fin⟩) hs
theorem c2V:IxR X (c5e X.K):=by
 ext aw
 obtain⟨p,xs,i,z,rfl,rfl,hq,he,q⟩:=h;cases rx;obtain⟨t,rfl⟩:=ry;obtain⟨its,r,pl,hz⟩:=I.tuple hq
 ext an
 exact subscriptTail_builtinR (x:=w) pl.typeIs slot_tuple_getitem.lookup
  (getItem_tuple (j:=j) (Q:=λr s'=>r=w/\EP X pins σ Q r s') pl (by lia) (by lia) (by rw [Ar,<-hl];exact h1) (by simpa using ew) ⟨rfl,fin⟩) hs
theorem c2U:IxR X c5d:=by
 ext aw
 obtain⟨z,i,c,rfl,rfl,hz,he,q⟩:=h
 ext t
 obtain⟨j,h1,h2,h3,h4,h5⟩:=b02 he;have hl:z.cps.toList.length=z.length:=by simp [Str.length]
 rw [hl] at h1 h4 h5;have hn:=a6Z;exact tail_any (typeIs_str s z t) slot_str_getitem.lookup (getItem_str (c:=c) (by
  have e1:decide (i< -(2 ^ 63:Int))=false:=decide_eq_false (by lia)
  have e2:decide (i>=2 ^ 63)=false:=decide_eq_false (by lia)
  rw [e1,e2,Bool.or_false]) (by rw [h1];simpa using h2) ⟨.str ⟨#[c]⟩,H,I.tok _,⟨_,rfl⟩,q⟩) hs
theorem b05:R7 X (.builtin "len") (λxs H Q=>∃p ys,xs=[.ref p]/\(Y7 X.K H p ys\/SqT X.K H p ys)/\Q (.int ys.length) H):=by
 intro pins s σ H xs us Q I r h;obtain⟨p,ys,rfl,hq,q⟩:=h;obtain⟨u,rfl,rx⟩:=a3i r;cases rx;have hn:=a6Z;rcases hq with hq|hq
 ·obtain⟨its,r',pl,hz⟩:=I.list hq;have hlen:=r'.length;exact Calls.call_len_list pl.isList (by simp only [Ar]<;>lia) ⟨.int ys.length,H,I.tok _,⟨s.toks+1,by rw [Ar,hlen]⟩,q⟩
 ·obtain⟨its,r',pl,hz⟩:=I.tuple hq;have hlen:=r'.length;exact len_tuple pl (by simp only [Ar]<;>lia) ⟨.int ys.length,H,I.tok _,⟨s.toks+1,by rw [Ar,hlen]⟩,q⟩
theorem b06:R7 X (.builtin "len") (λxs H Q=>∃z,xs=[.str z]/\z.length<=AN/\Q (.int z.length) H):=by
 intro pins s σ H xs us Q I r h;obtain⟨z,rfl,hz,q⟩:=h;obtain⟨u,rfl,t,rfl⟩:=a3i r;have hn:=a6Z;exact len_str (by lia) ⟨.int z.length,H,I.tok _,⟨_,rfl⟩,q⟩
theorem a9P:R7 X (.type "tuple") (λxs H Q=>∃p ys,xs=[.ref p]/\((Y7 X.K H p ys/\∀l,H l=ζ->Q (.ref l) (A5 H l (.tup ys)))\/(SqT X.K H p ys/\Q (.ref p) H))):=by
 intro pins s σ H xs us Q I r h;obtain⟨p,ys,rfl,h⟩:=h;obtain⟨u,rfl,rx⟩:=a3i r;cases rx;rcases h with⟨hq,q⟩|⟨hq,q⟩
 ·obtain⟨its,r',pl,hz⟩:=I.list hq;have hlen:=r'.length;refine call_tuple_list pl.isList (λh' kp=> ?_) (by simp only [Ar]<;>lia)
  have I1:Inv X pins σ H {s with heap:=h'}:=I.kept (t':=s.toks) kp
  have I2:Inv X pins σ (A5 H h'.objs.size (.tup ys)) {s with heap:=h'.push {cls:= .type "tuple",data:= .seq its.toArray}}:=
   I1.laid (t':=s.toks) (λb o e=>AS _ e) (AV _) (show F9 X.prog X.w _ _ _ (.tup ys) from⟨hz,its,r',IsTup.new _ _⟩)
  exact⟨.ref h'.objs.size,_,I2,rfl,q _ (I1.hok.fresh (AV _))⟩
 ·obtain⟨its,r',pl,hz⟩:=I.tuple hq;exact call_tuple_same pl ⟨.ref p,H,I,rfl,q⟩
def tyV(K:AE)(T:String)(x:V)(H:Hp):Prop:=match x with
 | .str _=>T="str"
 | .int _=>T="int"
 | .ref p=>(T="list"/\∃xs,Y7 K H p xs)\/(T="tuple"/\∃o,K.lookup p=ξ o/\o.cls= .type "tuple"/\o.dict=ζ)\/
  (T="dict"/\((∃kvs,H p=ξ (.dK kvs))\/∃kvs,H p=ξ (.dT kvs)))\/(T="set"/\∃S n,H p=ξ (.set S n))
 |_=>False
theorem c3S{pins:List (AA×Obj)}{σ:St}{H:Hp}{s:AC}{T:String}{x:V}{v:AB}(I:Inv X pins σ H s)(r:y4 x v)(ty:tyV X.K T x H):
 s.TypeIs v T/\∀a,v= .ref a->∃ob,s.heap.get? a=ξ ob/\ob.dict=ζ:=by
 cases x with
 |str z=>
  obtain⟨t,rfl⟩:=r
  cases(show T="str" from ty)
  exact⟨typeIs_str s z t,λ_ e=>nomatch e⟩
 |int i=>
  obtain⟨t,rfl⟩:=r
  cases(show T="int" from ty)
  exact⟨typeIs_int s i t,λ_ e=>nomatch e⟩
 |ref p=>
  cases r
  rcases ty with⟨rfl,xs,hq⟩|⟨rfl,o,hk,hc,hd⟩|⟨rfl,hk⟩|⟨rfl,S,n,hk⟩
  ·obtain⟨its,_,pl,_⟩:=I.list hq
   refine⟨pl.isList.typeIs,λa e=> ?_⟩
   cases e
   obtain⟨o,n,e,c,hd,_⟩:=pl
   exact⟨o,e,hd⟩
  ·refine⟨⟨o,I.kIn p o hk,hc⟩,λa e=> ?_⟩
   cases e
   exact⟨o,I.kIn _ o hk,hd⟩
  ·have z:∃o,s.heap.get? p=ξ o/\o.ExactDict:=by
    rcases hk with⟨kvs,hk⟩|⟨kvs,hk⟩
    ·obtain⟨_,_,_,_,o,_,_,e,ex,_⟩:=I.hok p _ hk;exact⟨o,e,ex⟩
    ·obtain⟨_,_,_,_,o,_,_,e,ex,_⟩:=I.hok p _ hk;exact⟨o,e,ex⟩
   obtain⟨o,e,ex⟩:=z;refine⟨⟨o,e,ex.1⟩,λa e2=> ?_⟩;cases e2;exact⟨o,e,ex.2.1⟩
  ·obtain⟨o,_,_,_,e,ex,_⟩:=I.hok p _ hk
   refine⟨⟨o,e,ex.1⟩,λa e2=> ?_⟩
   cases e2
   exact⟨o,e,ex.2.1⟩
 |_=>exact False.elim ty
def tBM(K:AE)(T:String)(r:V->List V->Hp->VK->Prop)(to:TE)(t:TA):TE:=λσ H Q=>to σ H λx H1=>tyV K T x H1/\t σ H1 λxs H2=>r x xs H2 Q
variable {o e:AF}{es:List AF}{to:TE}{t:TA}{name:Str}{apos cpos:Pos}{T id:String}{r:V->List V->Hp->VK->Prop}
theorem b0G(pa:PlainAttrs T)(slot:Slot T name id)(hty:typeOf (.builtin id)=pure (.type "method_descriptor"))(hm:MtR X id r)(ho:PE X o to)(ha:PA X (e::es) t)
 (hbase:attributeBase o name X.env (eval o X.env)=eval o X.env:=by rfl)
 (hfew:((backTo cpos (AI (e::es) X.env)).all (λx=> !x.1)&&(backToKw cpos (keywordEach [] X.env)).all (λx=>x.1.isSome)
  && decide ((e::es).length+([]:List Keyword).length+(if([]:List Keyword).isEmpty then 0 else 1)<30))=true:=by rfl)
 (hline:(apos.endLine==cpos.line)=true:=by rfl) (hs:Ψ e es X.env:=by rfl) (hplain:Φ₁ cpos es X.env:=by rfl):
 PE X (.Call (.Attribute o name apos) (e::es) [] cpos) (tBM X.K T r to t):=by
 intro pins s σ H Q I h
 refine wpAny_Call_method_late hbase hfew hline rfl (M9 (ho pins s σ H _ I h) λv s1 h0=>a71 h0 λx H1 I1 r1 ty q1=> ?_)
 obtain⟨h1,h2⟩:=c3S I1 r1 ty
 refine⟨T,id,pa,slot,hty,h1,h2, ?_⟩
 have hA:=ha cpos pins s1 σ H1 _ I1 q1
 rw [hs] at hA ⊢
 refine Calls.callWith_builtin (by show(false||(backTo cpos (AI es X.env)).any (·.1))=false;rw [hplain]<;>rfl) (Calls.evalArgs_plain ?_)
 exact M9 hA λus s2 h0=>w8 h0 λvs H2 I2 r2 q2=>hm pins s2 σ H2 x vs v us Q I2 r1 r2 q2
end
def MtM(X:Cx)(id:String)(r:V->List V->Hp->VK->Prop):Prop:=
 ∀pins s σ (H:Hp) (x:V) (xs:List V) (v:AB) (us:List AB) (Q:VK),Inv X pins σ H s->y4 x v->y0 xs us->r x xs H Q->
  AH (model X.prog X.w) X.A (call (.builtin id) (v::us)) (EP X pins σ Q) X.xe s
theorem y0.one:∀{x:V} {us:List AB},y0 [x] us->∃u,us=[u]/\y4 x u
 |_,_,.cons r .nil=>⟨_,rfl,r⟩
theorem y0.rep{xs:List V}{us:List AB}(h:y0 xs us):∀k:Nat,y0 (AU k xs).flatten (AU k us).flatten
 |0=> .nil
 |k+1=>by
  rw [Ag,Ag,List.flatten_cons,List.flatten_cons];exact y0.append h (y0.rep h k)
theorem a6T(its:List AB):∀(k:Nat) (acc:List AB),
 List.foldl (λx1 x2=>x1++x2) acc.toArray (AU k its.toArray)=(acc++(AU k its).flatten).toArray
 |0,acc=>by simp
 |k+1,acc=>by
  have e:acc.toArray++its.toArray=(acc++its).toArray:=by simp
  have e2:(acc++its)++(AU k its).flatten=acc++(AU (k+1) its).flatten:=by
   rw [Ag,List.flatten_cons,List.append_assoc]
  rw [<-e2,<-a6T its k (acc++its),<-e,Ag,List.foldl_cons]
section
variable {X:Cx}{pins:List (AA×Obj)}{σ:St}{H:Hp}{s:AC}{l b:AA}{xs ys zs:List V}
theorem Inv.lset{its its':List AB}{n:Nat}{f:Array AB->Array AB}{t':Nat}(I:Inv X pins σ H s)(hH:H l=ξ (.lst xs))
 (e:s.heap.get? l=ξ {cls:= .type "list",data:= .seq its.toArray n}) (hf:f its.toArray=its'.toArray) (hv:y0 ys its') (hz:ys.length<=AN):
 Inv X pins σ (A5 H l (.lst ys)) {s with heap:=s.heap.update l (Obj.mapSeq f),toks:=t'}:=by
 have q:=PySem.IsL.update e f
 rw [hf] at q
 refine I.write (x:=l) (e:=l) (by rw [hH];exact trivial) (.inl rfl) (λb' u hb hu=>(Heap.get?_update_other s.heap (Obj.mapSeq f) (Ne.symm hb)).trans hu) ⟨_,q⟩ ?_
 exact⟨hz,its',_,hv,q⟩
theorem Inv.lnew{its:List AB}{t':Nat}(I:Inv X pins σ H s)(hv:y0 ys its)(hz:ys.length<=AN):
 Inv X pins σ (A5 H s.heap.objs.size (.lst ys)) {s with heap:=s.heap.push {cls:= .type "list",data:= .seq its.toArray},toks:=t'}:=
 I.laid (λ_ _ q=>AS _ q) (AV _) ⟨hz,its,0,hv,Am _ rfl⟩
theorem Inv.fresh(I:Inv X pins σ H s):H s.heap.objs.size=ζ:=I.hok.fresh (AV _)
theorem Inv.lstM(I:Inv X pins σ H s)(hH:H l=ξ (.lst xs)):xs.length<=AN/\∃(its:List AB) (n:Nat),y0 xs its/\xs.length=its.length/\s.heap.get? l=ξ {cls:= .type "list",data:= .seq its.toArray n}:=by
 obtain⟨z,its,n,r,e⟩:=I.hok l _ hH;exact⟨z,its,n,r,r.length,e⟩
theorem b8S{n:Nat}(h:n<=AN):Builtin.List.listTooLong n=false:=by
 unfold Builtin.List.listTooLong;exact decide_eq_false (by lia)
end
section
variable {X:Cx}
def c1f:V->List V->Hp->VK->Prop:=λx vs H Q=>∃l xs y,x= .ref l/\vs=[y]/\H l=ξ (.lst xs)/\xs.length<AN/\Q .non (A5 H l (.lst (xs++[y])))
theorem b0A:MtM X "list.append" c1f:=by
 intro pins s σ H x vs v us Q I rx rv h;obtain⟨l,xs,y,rfl,rfl,hH,hz,q⟩:=h;cases rx;obtain⟨u,rfl,ru⟩:=rv.one;obtain⟨z,its,n,r,hl,e⟩:=I.lstM hH;refine call_meets F.slot_list_append ⟨_,e,rfl⟩ F.entry_list_append (F.args_list_append_2 _ _) (PySem.list_append l its.toArray n u (by rw [Ar];lia)) ⟨e, ?_⟩
 refine⟨.non,_,I.lset (its':=its++[u]) hH e (by simp) (r.append (.cons ru .nil)) ?_,rfl,q⟩
 rw [AQ,List.length_singleton]
 lia
def c5b:R2:=λx y H Q=>∃l b xs zs,x= .ref l/\y= .ref b/\H l=ξ (.lst xs)/\H b=ξ (.lst zs)/\xs.length+zs.length<=AN/\∀p,H p=ζ->Q (.ref p) (A5 H p (.lst (xs++zs)))
theorem c3g:OpR X (binaryOp .Add) c5b:=by
 ext q
 obtain⟨l,b,xs,zs,rfl,rfl,hH,hB,hz,q⟩:=h;cases rx;cases ry;obtain⟨z,its,n,r,hl,e⟩:=I.lstM hH;obtain⟨z2,its2,n2,r2,hl2,e2⟩:=I.lstM hB;refine PySem.P.add_list e e2 ?_ (by rw [Ar,Ar];lia)
 have ea:its.toArray++its2.toArray=(its++its2).toArray:=by simp
 rw [ea];exact⟨.ref _,_,I.lnew (t':=s.toks) (r.append r2) (by rw [AQ];lia),rfl,q _ I.fresh⟩
def c5f:R2:=λx y H Q=>∃l k xs,x= .ref l/\y= .int k/\H l=ξ (.lst xs)/\ -(2 ^ 63)<=k/\k<2 ^ 63/\xs.length*k.toNat<=AN/\
 ∀p,H p=ζ->Q (.ref p) (A5 H p (.lst (AU k.toNat xs).flatten))
theorem b1n{α:Type}(xs:List α)(k:Nat):(AU k xs).flatten.length=k*xs.length:=by
 induction k with
 |zero=>simp
 |succ k ih=>rw [Ag,List.flatten_cons,AQ,ih,Nat.succ_mul,Nat.add_comm]
theorem c3l:OpR X (binaryOp .Mult) c5f:=by
 ext q
 obtain⟨l,k,xs,rfl,rfl,hH,h1,h2,hz,q⟩:=h;cases rx;obtain⟨t,rfl⟩:=ry;obtain⟨z,its,n,r,hl,e⟩:=I.lstM hH;have hlen:its.toArray.size*k.toNat<=AN:=by rw [Ar,<-hl];exact hz
 have hcap:¬its.toArray.size*k.toNat>(2 ^ 63 - 1)/ 8:=by
  have:(AN:Nat)<=(2 ^ 63 - 1)/ 8:=by decide
  lia
 have hfit:¬(!Builtin.List.listFitsIndex k)=true:=by
  rw [fitsIndex_both h1 h2];exact Ao
 have hlong:¬Builtin.List.listTooLong (its.toArray.size*k.toNat)=true:=by
  rw [b8S hlen];exact Ao
 have hnew:List.foldl (λx1 x2=>x1++x2) #[] (AU (if its.toArray.isEmpty=true then 0 else k.toNat) its.toArray)=(AU k.toNat its).flatten.toArray:=by
  have f0:∀m:Nat,List.foldl (λx1 x2=>x1++x2) #[] (AU m its.toArray)=(AU m its).flatten.toArray:=λm=>by
   have:=a6T its m [];rw [Aa] at this;exact this
  rw [f0];cases its with
  |nil=>simp
  |cons a r'=>rw [if_neg (by simp)]
 refine wpAny_binaryOp_repeat_ref (T:="list") (U:="int") (by decide) ⟨_,e,rfl⟩ (λs'=>typeIs_int s' k t) noFill_list_mul F.fills_int_mul F.slot_int_rmul repeat_list F.slot_int_index.lookup
  (call_meets F.slot_int_rmul (typeIs_int s k t) F.entry_int_rmul (F.args_int_rmul_2 _ _) (int___rmul___int_list k t l its.toArray n)
   ⟨e,rfl,⟨_,e,rfl⟩,call_meets F.slot_list_mul ⟨_,e,rfl⟩ F.entry_list_mul (F.args_list_mul_2 _ _) (AutoListH.list___mul___list_int_3 l its.toArray n k t hfit hcap hlong) ⟨e, ?_⟩⟩)
 rw [hnew];exact⟨.ref _,_,I.lnew (t':=s.toks) (r.rep k.toNat) (by rw [b1n,Nat.mul_comm];exact hz),rfl,q _ I.fresh⟩
end
section
variable {prog:AK}{w:AJ}{A:AL}{E:AB->AC->Prop}{s:AC}
end
section
variable {X:Cx}
end
end L2
namespace Att
open PySem PySem.W PySem.Calls PyProof.Rows
theorem a7R{P:Params}{h:Heap}:∀(ns:List Int) (vs:List AB),WellAll P h vs (ns.map WData.int)->IntsAre vs ns:=by
 intro ns
 induction ns with
 |nil=>
  intro vs w;rw [Ae] at w;cases w;exact .nil
 |cons n ns ih=>
  intro vs w;rw [AT] at w;cases w with
  |cons a b=>
   cases a;exact .cons _ _ (ih _ b)
theorem b62{l:OpenLaw}{n:Nat}(hn:l.most=ξ n){P:Params}{h:Heap}{args:List WData}{vals:List AB}
 (hpre:l.row.toRowW.claim.pre args=true) (hwl:WellAll P h vals args):
 ∃a vs ns,vals=[Value.ref a]/\args=[WData.list (ns.map WData.int)]/\h.get? a=ξ {cls:= .type "list",data:= .seq vs.toArray}/\IntsAre vs ns/\ns.length<=n:=by
 have hsh:WShape.hasAll [] args [.list .int]=true:=(pre_splitW hpre).1
 have hc:l.pre.holds [] {args:=args}=true:=(pre_splitW hpre).2
 obtain⟨d,r,rfl,h1,h2⟩:=hasAllW_cons hsh
 obtain rfl:=hasAllW_nil h2
 obtain⟨xs,rfl,h3⟩:=hasW_list h1
 obtain⟨ns,rfl⟩:=items_int h3
 have hlen:ns.length<=n:=by
  unfold OpenLaw.pre at hc;have h4:(WTm.not (.lt (.lit (.int (n:Int))) (.len (.arg 0)))).holds [] {args:=[.list (ns.map .int)]}=true:=by
   have h4:=(holds_andW hc).1;rw [hn] at h4;exact h4
  have h5:=condW_of h4 (w_not (w_lt w_lit (w_len_list (w_arg rfl))));rw [AY] at h5;refine Nat.le_of_not_lt λq=> ?_;have q':(n:Int)<((ns.length:Nat):Int):=by lia
  first
   |(rw [decide_eq_true q'] at h5;exact absurd h5 (by decide))
   |(simp at h5;lia)
 cases hwl with
 |cons w1 w2=>
  cases w2
  cases w1 with
  |list ho hall=>exact⟨_,_,ns,rfl,rfl,ho,a7R ns _ hall,hlen⟩
theorem b6Q(l:OpenLaw)(args:List WData):l.row.toRowW.claim.post args (.bool true) args=true:=
 postW_of (r:=l.row.toRowW) (X:=(true==true))
  (show WShape.has [] (.bool true) .bool=true by first|rfl|decide|simp [WShape.has,WShape.arms,WShape.armsAll])
  (show(WTm.eq .res (.lit (.bool true))).value [] {args:=args,res:=ξ (.bool true),after:=args}=ξ (.bool (true==true)) from w_eq_bool (w_res rfl) w_lit) rfl
theorem attach_call{l:OpenLaw}{n:Nat}{q:AK}{loose:List Str}{XP:(Str->Υ AB)->Heap->Prop}{YP:AJ->Heap->Prop}{d:DefRec}
 (hn:l.most=ξ n) (hdf:d.params.defaults=[])
 (call:∀(w:AJ) (s₀ s₁:AC) (mg mb:Str->Υ AB) (fa:AA) (o:Obj) (pm cd doc:AB) (a:AA) (vs:List AB) (ns:List Int),
  Ground q loose [] XP w s₀ mg mb s₁.heap->YP w s₁.heap->
  s₁.heap.get? fa=ξ o->o.data= .func (docDef d.name d.params d.body d.scope pm cd doc)->s₁.heap.CodeRec cd d.name->mg d.name=ξ (.ref fa)->
  s₁.heap.get? a=ξ {cls:= .type "list",data:= .seq vs.toArray}->IntsAre vs ns->ns.length<=n->s₁.gens= #[]->
  codeAny (model l.prog w) callerA (.call (.ref fa) ⟨[.ref a],[]⟩) (λr s'=>r= .ok (.ret (.bool true))/\OldK s₁.heap s'.heap/\s'.os=s₁.os/\AllBare s'.gens) s₁):
 WalkO q loose XP YP l.row.toRowW d [] (λf vs=>PySem.call f vs):=by
 intro w s₀ s₁ mg mb G Y fa o pm cd doc dV kV ho hd hcd hD hmg hg args vals as hpre hlay hrd hwl hlo
 obtain rfl:dV= .none:=Dflts.none hD hdf
 obtain rfl:kV= .none:=Dflts.noKw hD
 obtain⟨a,vs,ns,rfl,rfl,hobj,hints,hlen⟩:=b62 hn hpre hwl
 refine enter_call (codeAny_mono (call w s₀ s₁ mg mb fa o pm cd doc a vs ns G Y ho (fd_plain hd) hcd hmg hobj hints hlen hg) λr s' hq=> ?_)
 obtain⟨rfl,h2,h3,h4⟩:=hq
 exact⟨.inl ⟨.bool true,.bool true,[],rfl,λ_=>rfl,.bool true,b6Q l _,λ_=>⟨List.Pairwise.nil,λ_ hm=>(nomatch hm)⟩⟩,h2,h3,h4⟩
section
variable {prog:AK}{w:AJ}{A:AL}{E:AB->AC->Prop}{s:AC}{K:Frag}
end
end Att
namespace L2
theorem b0W:∀{vs:List AB} {ns:List Int},IntsAre vs ns->y0 (ns.map V.int) vs
 |_,_,.nil=> .nil
 |_,_,.cons n t h=> .cons ⟨t,rfl⟩ (b0W h)
def c2c(H:Hp):Prop:=∀b,H b=ζ\/∃o xs,H b=ξ (.frz o (.lst xs))
theorem b8s{P:AK}{w:AJ}{K:AE}{mg mb:Str->Υ AB}{CX:CXT}{k:Nat}{fa a:AA}{fd:FuncData}{x:Str}{sp:Sp}{s₁:AC}{vs:List AB}{ns:List Int}
 (KX:K.In s₁.heap) (hns:s₁.heap.Ns mainGlobals mg) (hb:s₁.heap.Ns builtinsNs mb) (hbb:∀x:Str,x≠"__name__"->mb x=bootBuiltins x) (hlim:s₁.heap.NoLimit) (hg:s₁.gens= #[])
 (ha:s₁.heap.get? a=ξ {cls:= .type "list",data:= .seq vs.toArray}) (hi:IntsAre vs ns) (hl:ns.length<=AN) (hr:G3 k callerA)
 (F:∀base:Heap,K.In base->base.Ns mainGlobals mg->P4 P w K mg base CX k fa fd [x] sp) (hbind:∀(s:AC) (u:AB),BindsTo s fd ⟨[u],[]⟩ [(x,u)])
 (hsp:∀H:Hp,c2c H->Y7 K H a (ns.map V.int)->sp [.ref a] H (λv _=>v= .bl true) λ_ _ _=>False)
 (hCX:∀H e s',CX [] H s₁ (λ_ _ _=>False) e s'->False):
 codeAny (model P w) callerA (.call (.ref fa) ⟨[.ref a],[]⟩) (λr s'=>r= .ok (.ret (.bool true))/\OldK s₁.heap s'.heap/\s'.os=s₁.os/\AllBare s'.gens) s₁:=by
 have rv:=b0W hi
 have lenV:=hi.length
 have core:∀H:Hp,c2c H->Y7 K H a (ns.map V.int)->HOk P w H s₁.heap->(∀b,H b≠ζ->b=a)->(H a≠ζ->K.lookup a=ζ)->
  codeAny (model P w) callerA (.call (.ref fa) ⟨[.ref a],[]⟩) (λr s'=>r= .ok (.ret (.bool true))/\OldK s₁.heap s'.heap/\s'.os=s₁.os/\AllBare s'.gens) s₁:=by
  intro H hO hS hok hA hK
  have base_of:∀{b:AA} {o:Obj},s₁.heap.get? b=ξ o->H b=ζ->(b1k s₁.heap H).get? b=ξ o:=λe n=>b8g e n
  have noA:∀{b:AA} {o:Obj} {es:Array DictEntry} {ep:Nat},s₁.heap.get? b=ξ o->o.data= .dict es ep->H b=ζ:=λ {b o es ep} e d=>by
   cases q:H b with
   |none=>rfl
   |some u=>
    have e':b=a:=hA b (by rw [q];simp)
    subst e';rw [ha] at e;cases e;have d':Data.seq vs.toArray _=Data.dict es ep:=d;cases d'
  have nsK:∀{b:AA} {m:Str->Υ AB},s₁.heap.Ns b m->(b1k s₁.heap H).Ns b m:=λ {b m} ⟨o,es,ep,e,d,r⟩=>⟨o,es,ep,base_of e (noA e d),d,r⟩
  have hKb:K.In (b1k s₁.heap H):=λb o e=>base_of (KX b o e) (by
   cases q:H b with
   |none=>rfl
   |some u=>
    have e':b=a:=hA b (by rw [q];simp)
    subst e';rw [hK (by rw [q];simp)] at e;cases e)
  have hM:Mod K mg (b1k s₁.heap H):=⟨hKb,nsK hns,⟨mb,nsK hb,hbb⟩,let ⟨mc,h1,h2⟩:=hlim;⟨mc,nsK h1,h2⟩⟩
  have e0:b3J P w K mg (b1k s₁.heap H) callerA [] s₁ H:=⟨rfl,hM,λb o e=>c0T e,Nat.le_of_eq (b6k _ _),trivial,λb hb=>absurd (show b∈([]:List AA) from hb) (by simp),hok,.of_eq hg⟩
  refine codeAny_mono ((F _ hKb (nsK hns)).run callerA [] s₁ H ⟨[.ref a],[]⟩ [.ref a] [.ref a] _ _ hr e0 (hbind s₁ (.ref a)) (.cons rfl .nil) (hsp H hO hS)) λr s' h=> ?_
  cases r with
  |error e=>exact(hCX H e s' h).elim
  |ok fl=>
   cases fl with
   |next=>exact False.elim h
   |brk=>exact False.elim h
   |cont=>exact False.elim h
   |ret u=>
    obtain⟨v,H',os,bare,un,hok',r',q⟩:=h
    have q':v= .bl true:=q
    subst q'
    obtain rfl:u=Value.bool true:=r'
    refine⟨rfl,OldK.of_keep λb o e=> ?_,os,bare⟩
    cases q:H b with
    |none=>exact un.keep b o e q (by intro z;exact absurd (show b∈([]:List AA) from z) (by simp)) (by simp)
    |some u=>
     rcases hO b with z|⟨ob,xs,z⟩
     ·rw [q] at z;cases z
     ·have z2:=un.frzs b ob _ z
      obtain⟨e1,_⟩:=hok b _ z
      obtain⟨e2,_⟩:=hok' b _ z2
      rw [e] at e1;cases e1
      exact e2
 cases hk:K.lookup a with
 |some o=>
  have e:=KX a o hk
  rw [ha] at e
  cases e
  refine core (λ_=>ζ) (λ_=> .inl rfl) (.inr ⟨_,vs.toArray,_,hk,rfl,rfl,rfl,by rw [Ar,lenV];exact hl,by simpa using rv⟩) (λb u z=>by have z':(ζ:Υ HO)=ξ u:=z;cases z') (λb z=>absurd rfl z) λz=>absurd rfl z
 |none=>
  refine core (λb=>if b=a then ξ (.frz {cls:= .type "list",data:= .seq vs.toArray} (.lst (ns.map V.int))) else ζ) (λb=> ?_) (.inl (.inr ⟨{cls:= .type "list",data:= .seq vs.toArray},if_pos rfl⟩)) (λb u z=> ?_) (λb z=> ?_) λ_=>hk
  ·by_cases hb:b=a
   ·exact .inr ⟨_,_,if_pos hb⟩
   ·exact .inl (if_neg hb)
  ·by_cases hb:b=a
   ·have z':=(if_pos hb).symm.trans z
    cases z'
    subst hb
    exact⟨ha,by rw [AY];exact hl,vs,_,rv,ha⟩
   ·have z':=(if_neg hb).symm.trans z
    cases z'
  ·by_cases hb:b=a
   ·exact hb
   ·exact absurd (if_neg hb) z
theorem c1D{l:PySem.W.OpenLaw}{n k:Nat}{q:AK}{loose:List Str}{XP:(Str->Υ AB)->Heap->Prop}{YP:AJ->Heap->Prop}{d:DefRec}{K:Params->AE}{CX:AJ->CXT}{sp:AJ->Sp}{x:Str}
 (hn:l.most=ξ n) (hn2:n<=AN) (hdf:d.params.defaults=[]) (hr:G3 k callerA)
 (hY:∀(w:AJ) (h:Heap),YP w h->(K w.params).In h)
 (F:∀(w:AJ) (mg:Str->Υ AB) (fa:AA) (h:Heap),(K w.params).In h->h.Ns mainGlobals mg->mg d.name=ξ (.ref fa)->
  ∃fd:FuncData,(∀(s:AC) (u:AB),BindsTo s fd ⟨[u],[]⟩ [(x,u)])/\
   ∀base:Heap,(K w.params).In base->base.Ns mainGlobals mg->P4 l.prog w (K w.params) mg base (CX w) k fa fd [x] (sp w))
 (hsp:∀(w:AJ) (H:Hp) (a:AA) (ns:List Int),ns.length<=n->c2c H->Y7 (K w.params) H a (ns.map V.int)->sp w [.ref a] H (λv _=>v= .bl true) λ_ _ _=>False)
 (hCX:∀(w:AJ) (H:Hp) (s:AC) (e:AB) (s':AC),CX w [] H s (λ_ _ _=>False) e s'->False):
 PySem.W.WalkO q loose XP YP l.row.toRowW d [] (λf vs=>PySem.call f vs):=by
 refine Att.attach_call hn hdf λw s₀ s₁ mg mb fa o pm cd doc a vs ns G Y ho hd hcd hmg hobj hints hlen hg=> ?_
 have KX:=hY w _ Y
 obtain⟨fd,hb,hF⟩:=F w mg fa _ KX G.T.g hmg
 exact b8s KX G.T.g G.T.b G.T.builtins G.T.nolimit hg hobj hints (Nat.le_trans hlen hn2) hr hF hb (λH hO hS=>hsp w H a ns hlen hO hS) λH e s'=>hCX w H s₁ e s'
def U3(s:Stmt):Arguments:=match s with
 | .FunctionDef _ a _ _ _ _ _ _ _ _=>a
 |_=>{posonlyargs:=[],args:=[],vararg:=ζ,kwonlyargs:=[],kw_defaults:=[],kwarg:=ζ,defaults:=[]}
def C4(s:Stmt):List Stmt:=match s with
 | .FunctionDef _ _ b _ _ _ _ _ _ _=>b
 |_=>[]
def d4(s:Stmt):Scope:=match s with
 | .FunctionDef _ _ _ _ _ _ sc _ _ _=>sc
 |_=>{kind:= .function,names:=[],isGenerator:=false,isCoroutine:=false}
abbrev CX0:CXT:=λ_ _ _ _ _ _=>False
abbrev E0:XK:=λ_ _ _=>False
theorem b3f{X:Cx}:a3n CX0 X E0:=λ_ _ _ _ _ _ _ h=>h.elim
structure Fun(K:AE)(x qual:Str)(st:Stmt)(f:AA)(fd:FuncData):Prop where
 ex:∃(oc:AB) (od:Υ AA) (kV doc pm:AB) (an:Υ AA) (cdv ct:AB) (osl:Array (Υ AB)),
  fd=PySem.W.fnOf x qual (U3 st) (C4 st) (d4 st) .none kV doc pm an cdv ct/\K.lookup f=ξ ⟨oc,od,.func fd,osl⟩/\PySem.W.codeIn K cdv qual=true
 kp:PySem.W.keepIn K (.ref f)=true
section
variable {P:AK}{w:AJ}{K:AE}{mg:Str->Υ AB}{base:Heap}
theorem Fun.ok{x qual:Str}{st:Stmt}{f:AA}{fd:FuncData}{N ps:List Str}{k:Nat}{sp:Sp}(F:Fun K x qual st f fd)(S:g8 N ps (d4 st))(len:∀vs H Q E,sp vs H Q E->vs.length=ps.length)
 (hbody:∀(cdv:AB) (A:AL) (outer:List Env) (s:AC) (H:Hp) (vs:List V) (Q:VK) (E:XK),G3 k (A.deeper (envOfC qual (d4 st) s.heap.objs.size f cdv))->sp vs H Q E->
  ∃t,PSs (a2j CX0 P w K mg base N qual (d4 st) f cdv A outer s H E).nox (C4 st) t/\t {nx:=λ_ H'=>Q .non H',rt:=Q} (a1s N vs) H):P4 P w K mg base CX0 (k+1) f fd ps sp:=by
 obtain⟨oc,od,kV,doc,pm,an,cdv,ct,osl,rfl,lk,hcd⟩:=F.ex
 refine c1T lk hcd S len λA outer s H vs Q E hr hsp=> ?_
 obtain⟨t,h,q⟩:=hbody cdv A outer s H vs Q E hr hsp
 exact⟨t,h.nox,q⟩
theorem Fun.binds{x qual:Str}{st:Stmt}{f:AA}{fd:FuncData}{ps:List Str}(F:Fun K x qual st f fd)
 (h:∀(kV doc pm:AB) (an:Υ AA) (cdv ct:AB) (us:List AB),us.length=ps.length->bindArgs (PySem.W.fnOf x qual (U3 st) (C4 st) (d4 st) .none kV doc pm an cdv ct) ⟨us,[]⟩=pure (ps.zip us)):V5 K fd ps []:=by
 obtain⟨oc,od,kV,doc,pm,an,cdv,ct,osl,rfl,lk,hcd⟩:=F.ex
 exact .all (h kV doc pm an cdv ct)
theorem b75{x qual:Str}{st:Stmt}{f:AA}{oc:AB}{od an:Υ AA}{osl:Array (Υ AB)}{kV doc pm cdv ct:AB}(l:K.lookup f=ξ ⟨oc,od,.func (PySem.W.fnOf x qual (U3 st) (C4 st) (d4 st) .none kV doc pm an cdv ct),osl⟩)
 (c:PySem.W.codeIn K cdv qual=true) (k:PySem.W.keepIn K (.ref f)=true):Fun K x qual st f (PySem.W.fnOf x qual (U3 st) (C4 st) (d4 st) .none kV doc pm an cdv ct):=⟨⟨oc,od,kV,doc,pm,an,cdv,ct,osl,rfl,l,c⟩,k⟩
end
theorem b64{n:Nat}(h:n<=1000):n<AN:=Nat.lt_of_le_of_lt h (by decide)
section
variable {X:Cx}
theorem pv(i:Nat){x:Str}{pos:Pos}(hN:X.N[i]?=ξ x:=by rfl)(hv:Vis X.env.scope x:=by first|exact Or.inl rfl|exact Or.inr (Or.inl rfl)|exact Or.inr (Or.inr rfl))(hd:Δ x:=by decide)
 (hcd:(x==("__classdict__":Str))=false:=by decide):PE X (.Name x pos) (a9A i):=c3y hN hv hd hcd
end
theorem b2L{A B:Prop}(h:B):if false=true then A else B:=by
 rw [if_neg Ao];exact h
theorem b2M{A B:Prop}(h:A):if true=true then A else B:=by
 rw [if_pos rfl];exact h
def u3(H H':Hp):Prop:=∀b o,H b=ξ o->H' b=ξ o
theorem u3.trans{H H1 H2:Hp}(a:u3 H H1)(b:u3 H1 H2):u3 H H2:=λc o h=>b c o (a c o h)
theorem u3.free{H H':Hp}(e:u3 H H'){l:AA}(h:H' l=Option.none):H l=Option.none:=by
 cases q:H l with
 |none=>rfl
 |some o=>
  rw [e l o q] at h;cases h
section
variable (P:AK)(w:AJ)
end
section
variable {P:AK}{w:AJ}{H H':Hp}{h h':Heap}{a:AA}{o:HO}
end
section
variable {P:AK}{w:AJ}{H:Hp}{h h':Heap}{x e:AA}{o':HO}
end
section
variable {fs fs' ex ex':List AA}{H H1 H2:Hp}{h h1 h2 h':Heap}{a x e:AA}{o:HO}
end
section
variable {X:Cx}{pins:List (AA×Obj)}{σ:List (Υ V)}{H H':Hp}{s:AC}{h':Heap}
end
section
variable {X:Cx}
variable {a b:AF}{ta tb:TE}{pos:Pos}
variable {tA tB':TT}{rest:List AF}
end
section
variable {X:Cx}{pins:List (AA×Obj)}{σ:St}{H:Hp}{s:AC}{a:AA}{xs ys:List V}
end
section
variable {X:Cx}{pins:List (AA×Obj)}{σ:St}{H:Hp}{s:AC}{E:AB->AC->Prop}
end
section
variable {X:Cx}{st:Stmt}{rest:List Stmt}{t u:TS}{e:AF}{te:TE}{pos:Pos}
end
section
variable {X:Cx}{pos:Pos}
end
section
variable {X:Cx}{tg:AF}
end
section
variable {X:Cx}{a b c:AF}{ta tb tc:TE}{pos:Pos}
end
section
variable {prog:AK}{w:AJ}{A:AL}{E:AB->AC->Prop}{s:AC}{K:AE}{x dx C f:AA}{mA:Str->Υ AB}{name:Str}{v:AB}
end
section
variable {P:AK}{w:AJ}{H H':Hp}{h h':Heap}{a C dx:AA}{fs fs':List (Str×V)}
end
section
variable {X:Cx}{pins:List (AA×Obj)}{σ:St}{H:Hp}{s:AC}{a C dx:AA}{fs:List (Str×V)}{f:Str}{v:V}{A:AL}{E:AB->AC->Prop}
end
section
variable {X:Cx}{o e value:AF}{f:Str}{pos pos' tpos:Pos}{ta tv:TE}
end
section
variable {X:Cx}{pins:List (AA×Obj)}{σ:St}{H:Hp}{s:AC}{A:AL}{E:AB->AC->Prop}{Q:AB->AC->Prop}{c:AB}{b:Bool}
end
section
variable {X:Cx}{e:AF}{es:List AF}{te:TE}{t:TA}{pos:Pos}
end
section
variable {X:Cx}{pins:List (AA×Obj)}{σ:St}{H:Hp}{s s':AC}
end
section
variable {X:Cx}{CX:CXT}{k:Nat}{f C:AA}{fd:FuncData}{ps:List Str}{sp:Sp}{dvs:List V}{ds:List AB}{E:XK}{x m:Str}{p pos apos:Pos}{e o:AF}{es:List AF}{ta:TE}{t:TA}
end
section
variable {X:Cx}{CX:CXT}{k:Nat}{f C:AA}{fd:FuncData}{ps ks:List Str}{sp:Sp}{E:XK}{x m:Str}{p pos apos kpos:Pos}{e o:AF}{es:List AF}{kws:List Keyword}{te ta:TE}{t tk:TA}{nm:Υ Str}
variable {g:List AB->List AB->List AB}{gV:List V->List V->List V}
end
section
variable {X:Cx}{x:Str}{p pos:Pos}{e:AF}{es:List AF}{t:TA}{id T:String}{r:List V->Hp->VK->Prop}
end
section
variable {κ:Type}[DecidableEq κ]
def a4s(kvs:List (κ×V))(k:κ):Υ V:=(kvs.find? λkv=>decide (kv.1=k)).map (·.2)
theorem a4u{p:κ×V}{r:List (κ×V)}{k:κ}(e:p.1=k):a4s (p::r) k=ξ p.2:=by simp [a4s,List.find?_cons,e]
theorem a4t{p:κ×V}{r:List (κ×V)}{k:κ}(e:¬p.1=k):a4s (p::r) k=a4s r k:=by simp [a4s,List.find?_cons,e]
theorem a3j.getD{o:Υ V}{u:Υ AB}{d:V}{d':AB}(r:a3j o u)(rd:y4 d d'):y4 (o.getD d) (u.getD d'):=by
 cases o with
 |none=>cases u with
  |none=>exact rd
  |some _=>exact(show False from r).elim
 |some _=>cases u with
  |none=>exact(show False from r).elim
  |some _=>exact r
theorem KV.val{kvs:List (κ×V)}{vs:List (κ×AB)}(r:KV kvs vs)(k:κ):a3j (a4s kvs k) (valueAt vs k):=by
 unfold KV at r
 induction r with
 |nil=>exact True.intro
 | @cons p q ps qs h t ih=>
   obtain⟨h1,h2⟩:=h
   by_cases e:p.1=k
   ·have e':q.1=k:=h1.symm.trans e;have b:valueAt (q::qs) k=ξ q.2:=by simp [valueAt,List.find?_cons,e']
    rw [a4u e,b];exact h2
   ·have e':¬q.1=k:=λz=>e (h1.trans z);have b:valueAt (q::qs) k=valueAt qs k:=by simp [valueAt,List.find?_cons,e']
    rw [a4t e,b];exact ih
end
theorem c1Y{P:AK}{w:AJ}{k:Q8}{u:AB}(r:y4 (kV k) u):(R6 P w).is k u=true:=by
 cases k with
 |inl i=>obtain⟨t,e⟩:=(show ∃t,u=Value.int i t from r);subst e;exact b2U P w i t
 |inr x=>obtain⟨t,e⟩:=(show ∃t,u=Value.str x t from r);subst e;exact b2V P w x t
theorem b0w{P:AK}{w:AJ}:∀{ks:List Q8} {us:List AB},y0 (ks.map kV) us->ItemsAre (R6 P w) ks us
 |[],_,r=>by rw [Ae] at r;cases r;exact .nil
 |k::ks,_,r=>by
  rw [AT] at r;cases r with
  |cons h t=>exact .cons (c1Y h) (b0w t)
abbrev KT(H:Hp):List (List Q8×V)->List (List Q8×AA×AB)->Prop:=Paired λp q=>p.1=q.1/\H q.2.1=ξ (.tup (p.1.map kV))/\y4 p.2 q.2.2
theorem KT.val{H:Hp}{kvs:List (List Q8×V)}{xs:List (List Q8×AA×AB)}(r:KT H kvs xs)(k:List Q8):a3j (a4s kvs k) ((atKey xs k).map (·.2)):=by
 induction r with
 |nil=>exact True.intro
 | @cons p q ps qs h t ih=>
   obtain⟨h1,_,h2⟩:=h
   by_cases e:p.1=k
   ·have e':q.1=k:=h1.symm.trans e;have b:atKey (q::qs) k=ξ q.2:=by simp [atKey,List.find?_cons,e']
    rw [a4u e,b];exact h2
   ·have e':¬q.1=k:=λz=>e (h1.trans z);have b:atKey (q::qs) k=atKey qs k:=by simp [atKey,List.find?_cons,e']
    rw [a4t e,b];exact ih
section
variable {P:AK}{w:AJ}{H:Hp}{h:Heap}{a:AA}
theorem c15{u:HO}(ok:HOk P w H h)(e:Rd H a u):F9 P w H h a u:=e.ok ok
theorem c1Q{kvs:List (Q8×V)}(ok:HOk P w H h)(e:Rd H a (.dK kvs)):kvs.length<=AN/\(a==sysModules)=false/\∃vs,KV kvs vs/\h.DictOf (R6 P w) a vs:=
 show F9 P w H h a (.dK kvs) from c15 ok e
theorem b8r{ks:List Q8}(ok:HOk P w H h)(e:H a=ξ (.tup (ks.map kV))):(tupleKind (R6 P w)).is h ks a:=by
 obtain⟨_,its,r,o,h1,h2,n,h3⟩:=(show F9 P w H h a (.tup (ks.map kV)) from ok a _ e);exact⟨o,its.toArray,n,h1,h2,h3,by simpa using b0w r⟩
theorem c1R{kvs:List (List Q8×V)}(ok:HOk P w H h)(e:Rd H a (.dT kvs)):kvs.length<=AN/\(a==sysModules)=false/\
 ∃xs,KT H kvs xs/\h.DictOfH (tupleKind (R6 P w)) a xs:=by
 obtain⟨z,y,xs,r,o,es,ep,h1,h2,h3,h4,h5⟩:=(show F9 P w H h a (.dT kvs) from c15 ok e)
 refine⟨z,y,xs,r,o,es,ep,h1,h2,h3,h4,λx hx=> ?_,h5⟩
 have all:∀{l:List (List Q8×V)} {m:List (List Q8×AA×AB)},KT H l m->∀x∈m,(tupleKind (R6 P w)).is h x.1 x.2.1:=by
  intro l m q
  induction q with
  |nil=>intro x hx;exact nomatch hx
  | @cons p q ps qs hq t ih=>
    intro x hx;rcases Ah.mp hx with e|hx
    ·subst e;exact b8r ok (by rw [<-hq.1];exact hq.2.1)
    ·exact ih x hx
 exact all r x hx
end
def b7e(H:Hp)(a:AA)(y:V)(r:Υ V):Prop:=
 (∃kvs k,Rd H a (.dK kvs)/\y=kV k/\r=a4s kvs k)\/∃kvs k b,Rd H a (.dT kvs)/\y= .ref b/\H b=ξ (.tup (k.map kV))/\r=a4s kvs k
theorem b7e.k{H:Hp}{a:AA}{kvs:List (Q8×V)}{k:Q8}(e:H a=ξ (.dK kvs)):b7e H a (kV k) (a4s kvs k):= .inl ⟨kvs,k,.inl e,rfl,rfl⟩
section
variable {X:Cx}{pins:List (AA×Obj)}{σ:St}{H:Hp}{s:AC}{a:AA}{y v:V}{u r:AB}{o:Υ V}{A:AL}{E:AB->AC->Prop}
theorem Inv.big(I:Inv X pins σ H s):sysModules<s.heap.objs.size:=by
 have h:mainGlobals<s.heap.objs.size:=(I.mod.glob.keeps I.bk).lt;exact Nat.lt_trans (by decide) h
end
section
variable {X:Cx}{pins:List (AA×Obj)}{σ:St}{H:Hp}{s:AC}{a:AA}{kvs:List (Q8×V)}{k:Q8}{u:AB}{A:AL}{E:AB->AC->Prop}
end
section
variable {X:Cx}{o i e value:AF}{pos pos' tpos:Pos}{td ty tv:TE}
end
theorem b7L{P:AK}{w:AJ}{H:Hp}(h:Heap)(hb:sysModules<h.objs.size):F9 P w H (h.push {cls:= .type "dict",data:= .dict #[]}) h.objs.size (.dK []):=
 ⟨Nat.zero_le _,beq_eq_false_iff_ne.mpr (Ne.symm (Ak hb)),[],.nil,Heap.DictOf.new h⟩
def c3M:TE:=λ_ H Q=>∀p,H p=ζ->Q (.ref p) (A5 H p (.dK []))
section
variable {X:Cx}{pos:Pos}
theorem b86:PE X (.Dict [] [] pos) c3M:=λpins s σ H Q I h=>
 wpAny_Dict_empty ⟨.ref s.heap.objs.size,_,I.laid (a:=s.heap.objs.size) (o:= .dK []) (t':=s.toks) (λ_ _ q=>AS _ q) (AV _) (b7L s.heap I.big),rfl,h _ (I.hok.fresh (AV _))⟩
end
structure M2(X:Cx)(o:AF)(m:Str)(apos:Pos)(e f:AF)(cpos:Pos):Prop where
 base:attributeBase o m X.env (eval o X.env)=eval o X.env
 few:((backTo cpos (AI [e,f] X.env)).all (λx=> !x.1)&&(backToKw cpos (keywordEach [] X.env)).all (λx=>x.1.isSome)
  && decide (([e,f]:List AF).length+([]:List Keyword).length+(if([]:List Keyword).isEmpty then 0 else 1)<30))=true
 line:(apos.endLine==cpos.line)=true
 trees:backTo cpos (AI [e,f] X.env)=[(false,eval e X.env),(false,eval f X.env)]
def IsD(H:Hp)(a:AA):Prop:=(∃kvs,Rd H a (.dK kvs))\/∃kvs,Rd H a (.dT kvs)
theorem c2R{X:Cx}{pins:List (AA×Obj)}{σ:St}{H:Hp}{s:AC}{a:AA}(I:Inv X pins σ H s)(d:IsD H a):
 s.TypeIs (.ref a) "dict"/\(∀b,Value.ref a= .ref b->∃ob,s.heap.get? b=ξ ob/\ob.dict=ζ)/\(a==sysModules)=false:=by
 rcases d with⟨kvs,e⟩|⟨kvs,e⟩
 ·obtain⟨_,hd,vs,_,dd⟩:=c1Q I.hok e
  refine⟨dd.typeIs,λb q=> ?_,hd⟩
  cases q
  obtain⟨ob,_,_,h1,h2,_⟩:=dd
  exact⟨ob,h1,h2.2.1⟩
 ·obtain⟨_,hd,xs,_,dd⟩:=c1R I.hok e
  refine⟨dd.typeIs,λb q=> ?_,hd⟩
  cases q
  obtain⟨ob,_,_,h1,h2,_⟩:=dd
  exact⟨ob,h1,h2.2.1⟩
section
variable {X:Cx}{pins:List (AA×Obj)}{σ:St}{H:Hp}{s:AC}{a:AA}{y d:V}{u r:AB}{o:Υ V}{A:AL}{E:AB->AC->Prop}
theorem c2q{Q:AB->AC->Prop}(hu:A.units+1<cLine)(I:Inv X pins σ H s)(g:b7e H a y o)(ry:y4 y u)(rd:y4 d r)(h:∀w' s',Inv X pins σ H s'->y4 (o.getD d) w'->Q w' s'):
 AH (model X.prog X.w) A (call (.builtin "dict.get") [.ref a,u,r]) Q E s:=by
 rcases g with⟨kvs,k,e,ey,l⟩|⟨kvs,k,b,e,ey,eb,l⟩
 ·subst ey
  obtain⟨z,hd,vs,rel,dd⟩:=c1Q I.hok e
  refine call_meetsIn PySem.F.slot_dict_get dd.typeIs PySem.F.entry_dict_get (PySem.F.args_dict_get_3 _ _ _) (meets_dict_get_default (R6 X.prog X.w) a (c1Y ry) hd r) ⟨_,dd.mapOf,h _ _ (I.tok _) ?_⟩
  rw [l]
  exact(rel.val k).getD rd
 ·subst ey
  cases(show u=Value.ref b from ry)
  obtain⟨z,hd,xs,rel,dd⟩:=c1R I.hok e
  refine call_meetsIn PySem.F.slot_dict_get dd.typeIs PySem.F.entry_dict_get (PySem.F.args_dict_get_3 _ _ _) (meetsH_dict_get_default (tupleKind (R6 X.prog X.w)) a b hd r) ⟨tupleKind_room_in1 hu,k,xs,b8r I.hok eb,dd,h _ _ (I.tok _) ?_⟩
  rw [l]
  exact(rel.val k).getD rd
end
def c3L(td ty tx:TE):TE:=λσ H Q=>td σ H λx H1=>∃a,x= .ref a/\IsD H1 a/\ty σ H1 λy H2=>tx σ H2 λz H3=>∃o,b7e H3 a y o/\Q (o.getD z) H3
section
variable {X:Cx}{o e f:AF}{apos cpos:Pos}{td ty tx:TE}
theorem b85(hu:X.A.units+1<cLine)(ho:PE X o td)(he:PE X e ty)(hf:PE X f tx)(m:M2 X o "get" apos e f cpos):PE X (.Call (.Attribute o "get" apos) [e,f] [] cpos) (c3L td ty tx):=by
 ext s
 refine wpAny_Call_method m.base m.few m.line PySem.F.plainAttrs_dict PySem.F.slot_dict_get PySem.F.type_dict_get (M9 (ho pins s σ H _ I h) λu s1 ⟨x,H1,I1,rx,a,ex,d,q1⟩=> ?_);subst ex;obtain rfl:u=Value.ref a:=rx;obtain⟨t1,t2,_⟩:=c2R I1 d;refine⟨t1,t2, ?_⟩;rw [m.trees];refine Calls.callWith_builtin rfl (Calls.evalArgs_plain (Calls.spliced_cons (M9 (he pins s1 σ H1 _ I1 q1) λiv s2 h0=>w8 h0 λy H2 I2 ry q2=>
  Calls.spliced_cons (M9 (hf pins s2 σ H2 _ I2 q2) λfv s3 ⟨z,H3,I3,rz,ov,g,q3⟩=>Calls.spliced_nil ?_))))
 exact c2q hu I3 g ry rz λw' s4 I4 rw'=>⟨_,H3,I4,rw',q3⟩
end
section
variable {X:Cx}{pins:List (AA×Obj)}{σ:St}{H:Hp}{s:AC}{a:AA}{kvs:List (Q8×V)}{A:AL}{E:AB->AC->Prop}
end
section
variable {X:Cx}{pins:List (AA×Obj)}{σ:St}{H:Hp}{s:AC}{a:AA}{y:V}{u:AB}{A:AL}{E:AB->AC->Prop}
end
end L2
namespace Att
open PySem PySem.W PySem.Calls PyProof.Rows
section
variable {prog:AK}{w:AJ}{A:AL}{E:AB->AC->Prop}{s:AC}{K:Frag}
end
end Att
namespace L2
section
variable {P:AK}{w:AJ}{K:AE}{mg:Str->Υ AB}{base:Heap}
end
section
variable {X:Cx}
end
section
variable {κ:Type}[DecidableEq κ]
end
end L2
namespace PU
open L2
abbrev PV:=PyData
def TqT(K:AE)(H:Hp)(a:AA)(xs:List V):Prop:=
 H a=ξ (.tup xs)\/∃(o:Obj) (its:Array AB) (n:Nat),K.lookup a=ξ o/\o.cls= .type "tuple"/\o.data= .seq its n/\its.size<=AN/\y0 xs its.toList
theorem TqT.of{K:AE}{H:Hp}{a:AA}{xs:List V}(h:H a=ξ (.tup xs)):TqT K H a xs:= .inl h
theorem TqT.sq{K:AE}{H:Hp}{a:AA}{xs:List V}(h:TqT K H a xs):SqT K H a xs:=h.elim (λh=> .inl (.inl h)) .inr
theorem c1n{K:AE}{H H':Hp}{a:AA}{xs:List V}(s:u3 H H')(h:TqT K H a xs):TqT K H' a xs:=h.elim (λh=> .inl (s _ _ h)) .inr
def c3X(K:AE)(x:Str)(v:V):Prop:=∃(a:AA) (oc:AB) (od:Υ AA) (fd:FuncData) (osl:Array (Υ AB)),v= .ref a/\K.lookup a=ξ ⟨oc,od,.func fd,osl⟩/\fd.name=x
def M4(K:AE)(x:Str)(C:AA):Prop:=PySem.W.nsIn K mainGlobals x=ξ (ξ (.ref C))/\∃(oc:AB) (od:Υ AA) (cd:ClassData) (osl:Array (Υ AB)),K.lookup C=ξ ⟨oc,od,.cls cd,osl⟩/\cd.name=x
theorem M4.inj{K:AE}{x y:Str}{C:AA}(h:M4 K x C)(h':M4 K y C):x=y:=by
 obtain⟨_,_,_,_,_,k,n⟩:=h;obtain⟨_,_,_,_,_,k',n'⟩:=h';rw [k] at k';cases k';rw [<-n,n']
theorem M4.uniq{K:AE}{x:Str}{C D:AA}(h:M4 K x C)(h':M4 K x D):C=D:=by
 have:=h.1.symm.trans h'.1;cases this;rfl
def c2f(K:AE)(H:Hp)(x:Str)(v:V):Prop:=∃(a C:AA) (φ:Heap->Prop),v= .ref a/\H a=ξ (.ext φ)/\
 (∀h:Heap,φ h->∃oe vs,h.get? a=ξ oe/\oe.cls= .ref C/\oe.data= .fields vs/\oe.dict=ζ)/\M4 K x C
def b55(K:AE)(H:Hp)(x:Str)(t:PV)(v:V):Prop:=(t= .none/\c3X K x v)\/(t= .bool true/\c2f K H x v)
theorem b55.ref{K:AE}{H:Hp}{x:Str}{t:PV}{v:V}(h:b55 K H x t v):∃a,v= .ref a:=by
 rcases h with⟨_,a,_,_,_,_,e,_⟩|⟨_,a,_,_,e,_⟩<;>exact⟨a,e⟩
theorem b55.mono{K:AE}{H H':Hp}{x:Str}{t:PV}{v:V}(s:u3 H H')(h:b55 K H x t v):b55 K H' x t v:=by
 rcases h with h|⟨z,a,C,φ,e,q,r⟩
 ·exact .inl h
 ·exact .inr ⟨z,a,C,φ,e,s _ _ q,r⟩
def b16(K:AE)(H:Hp)(x:Str)(m:V)(fs:List (Str×V))(v:V):Prop:=
 (m= .bl false/\∃a C dx,v= .ref a/\H a=ξ (.ins C dx fs)/\M4 K x C)\/
 (m= .int 0/\∃(a C dx:AA) (φ:Heap->Prop),v= .ref a/\H a=ξ (.ext φ)/\(∀h:Heap,φ h->∃oe vs,h.get? a=ξ oe/\oe.cls= .ref C/\oe.data= .fields vs/\oe.dict=ξ dx)/\H dx=ξ (.xd fs)/\M4 K x C)
theorem b16.ref{K:AE}{H:Hp}{x:Str}{m:V}{fs:List (Str×V)}{v:V}(h:b16 K H x m fs v):∃a,v= .ref a:=by
 rcases h with⟨_,a,_,_,e,_⟩|⟨_,a,_,_,_,e,_⟩<;>exact⟨a,e⟩
theorem b16.mono{K:AE}{H H':Hp}{x:Str}{m:V}{fs:List (Str×V)}{v:V}(s:u3 H H')(h:b16 K H x m fs v):b16 K H' x m fs v:=by
 rcases h with⟨z,a,C,dx,e,q,n⟩|⟨z,a,C,dx,φ,e,q,r,d,n⟩
 ·exact .inl ⟨z,a,C,dx,e,s _ _ q,n⟩
 ·exact .inr ⟨z,a,C,dx,φ,e,s _ _ q,r,s _ _ d,n⟩
def kP:Q8->PV
 | .inl i=> .int i
 | .inr x=> .str x
def s1{α:Type}(kv:Q8×α):List Q8×α:=([kv.1],kv.2)
mutual
def P5(K:AE)(H:Hp):PV->V->Prop
 | .none,v=>v= .non
 | .bool b,v=>v= .bl b
 | .int i,v=>v= .int i
 | .str x,v=>v= .str x
 | .tuple ps,v=>∃a xs,v= .ref a/\TqT K H a xs/\u5 K H ps xs
 | .list ps,v=>∃a xs,v= .ref a/\Y7 K H a xs/\u5 K H ps xs
 | .dict kvs,v=>(∃a ys,v= .ref a/\H a=ξ (.dK ys)/\a5f K H kvs (ys.map s1))\/(∃a xs,v= .ref a/\H a=ξ (.dT xs)/\a5f K H kvs (([],.non)::xs))\/(∃x t,kvs=[(.str x,t)]/\b55 K H x t v)\/(∃x m fs,b16 K H x m fs v/\a3k K H kvs ((x,m)::fs))
def u5(K:AE)(H:Hp):List PV->List V->Prop
 |[],vs=>vs=[]
 |p::ps,vs=>∃v r,vs=v::r/\P5 K H p v/\u5 K H ps r
def a5f(K:AE)(H:Hp):List (PV×PV)->List (List Q8×V)->Prop
 |[],ys=>ys=[]
 |(k,p)::r,ys=>∃kk v t,ys=(kk,v)::t/\k= .tuple (kk.map kP)/\P5 K H p v/\a5f K H r t
def a3k(K:AE)(H:Hp):List (PV×PV)->List (Str×V)->Prop
 |[],ys=>ys=[]
 |(k,p)::r,ys=>∃f v t,ys=(f,v)::t/\k= .str f/\P5 K H p v/\a3k K H r t
end
theorem E5{K:AE}{H H':Hp}{a:AA}{xs:List V}(s:u3 H H')(h:SqT K H a xs):SqT K H' a xs:=by
 rcases h with(h|⟨o,h⟩)|h
 ·exact .inl (.inl (s _ _ h))
 ·exact .inl (.inr ⟨o,s _ _ h⟩)
 ·exact .inr h
theorem B8{K:AE}{H H':Hp}{a:AA}{xs:List V}(s:u3 H H')(h:Y7 K H a xs):Y7 K H' a xs:=by
 rcases h with(h|⟨o,h⟩)|h
 ·exact .inl (.inl (s _ _ h))
 ·exact .inl (.inr ⟨o,s _ _ h⟩)
 ·exact .inr h
mutual
theorem P5.mono{K:AE}{H H':Hp}(s:u3 H H'):∀(p:PV) {v:V},P5 K H p v->P5 K H' p v
 | .none,_,h=>h
 | .bool _,_,h=>h
 | .int _,_,h=>h
 | .str _,_,h=>h
 | .dict kvs,_,.inl ⟨a,ys,q,h,r⟩=> .inl ⟨a,ys,q,s _ _ h,a5f.mono s kvs r⟩
 | .dict kvs,_,.inr (.inl ⟨a,xs,q,h,r⟩)=> .inr (.inl ⟨a,xs,q,s _ _ h,a5f.mono s kvs r⟩)
 | .dict _,_,.inr (.inr (.inl ⟨x,t,e,h⟩))=> .inr (.inr (.inl ⟨x,t,e,h.mono s⟩))
 | .dict kvs,_,.inr (.inr (.inr ⟨x,m,fs,h,r⟩))=> .inr (.inr (.inr ⟨x,m,fs,h.mono s,a3k.mono s kvs r⟩))
 | .tuple ps,_,⟨a,xs,e,q,r⟩=>⟨a,xs,e,c1n s q,u5.mono s ps r⟩
 | .list ps,_,⟨a,xs,e,q,r⟩=>⟨a,xs,e,B8 s q,u5.mono s ps r⟩
theorem u5.mono{K:AE}{H H':Hp}(s:u3 H H'):∀(ps:List PV) {vs:List V},u5 K H ps vs->u5 K H' ps vs
 |[],_,h=>h
 |p::ps,_,⟨v,r,e,q,t⟩=>⟨v,r,e,P5.mono s p q,u5.mono s ps t⟩
theorem a5f.mono{K:AE}{H H':Hp}(s:u3 H H'):∀(es:List (PV×PV)) {ys:List (List Q8×V)},a5f K H es ys->a5f K H' es ys
 |[],_,h=>h
 |(k,p)::es,_,⟨kk,v,r,e,z,q,t⟩=>⟨kk,v,r,e,z,P5.mono s p q,a5f.mono s es t⟩
theorem a3k.mono{K:AE}{H H':Hp}(s:u3 H H'):∀(es:List (PV×PV)) {ys:List (Str×V)},a3k K H es ys->a3k K H' es ys
 |[],_,h=>h
 |(k,p)::es,_,⟨kk,v,r,e,z,q,t⟩=>⟨kk,v,r,e,z,P5.mono s p q,a3k.mono s es t⟩
end
theorem u5.length{K:AE}{H:Hp}:∀{ps:List PV} {vs:List V},u5 K H ps vs->vs.length=ps.length
 |[],_,h=>by cases h;rfl
 |_::ps,_,⟨v,r,e,_,t⟩=>by subst e;rw [AO,AO,u5.length t]
theorem u5.get{K:AE}{H:Hp}:∀{ps:List PV} {vs:List V} {i:Nat} {p:PV},u5 K H ps vs->ps[i]?=ξ p->∃v,vs[i]?=ξ v/\P5 K H p v
 |[],_,_,_,_,h=>by simp at h
 |q::ps,_,0,p,⟨v,r,e,a,t⟩,h=>by subst e;simp at h;subst h;exact⟨v,rfl,a⟩
 |q::ps,_,i+1,p,⟨v,r,e,a,t⟩,h=>by subst e;exact u5.get (i:=i) t (by simpa using h)
theorem u5.getV{K:AE}{H:Hp}:∀{ps:List PV} {vs:List V} {i:Nat} {v:V},u5 K H ps vs->vs[i]?=ξ v->∃p,ps[i]?=ξ p/\P5 K H p v
 |[],_,_,_,h,e=>by cases h;simp at e
 |q::ps,_,0,v,⟨w,r,e,a,t⟩,h=>by subst e;simp at h;subst h;exact⟨q,rfl,a⟩
 |q::ps,_,i+1,v,⟨w,r,e,a,t⟩,h=>by subst e;exact u5.getV (i:=i) t (by simpa using h)
theorem u5.append{K:AE}{H:Hp}:∀{ps qs:List PV} {vs ws:List V},u5 K H ps vs->u5 K H qs ws->u5 K H (ps++qs) (vs++ws)
 |[],_,_,_,h,t=>by cases h;exact t
 |_::ps,_,_,_,⟨v,r,e,a,t⟩,s=>by subst e;exact⟨v,_,rfl,a,u5.append t s⟩
theorem u5.drop{K:AE}{H:Hp}:∀{ps:List PV} {vs:List V} (n:Nat),u5 K H ps vs->u5 K H (ps.drop n) (vs.drop n)
 |_,_,0,h=>h
 |[],_,n+1,h=>by cases h;rfl
 |_::ps,_,n+1,⟨v,r,e,a,t⟩=>by subst e;exact u5.drop n t
theorem u5.take{K:AE}{H:Hp}:∀{ps:List PV} {vs:List V} (n:Nat),u5 K H ps vs->u5 K H (ps.take n) (vs.take n)
 |_,_,0,h=>rfl
 |[],_,n+1,h=>by cases h;rfl
 |_::ps,_,n+1,⟨v,r,e,a,t⟩=>by subst e;exact⟨v,_,rfl,a,u5.take n t⟩
abbrev Γ:=List (List Q8×PV)
def a3p(K:AE)(H:Hp):Γ->List (List Q8×V)->Prop
 |[],ys=>ys=[]
 |(k,p)::r,ys=>∃v t,ys=(k,v)::t/\P5 K H p v/\a3p K H r t
theorem a3p.mono{K:AE}{H H':Hp}(s:u3 H H'):∀(kvs:Γ) {ys:List (List Q8×V)},a3p K H kvs ys->a3p K H' kvs ys
 |[],_,h=>h
 |(k,p)::r,_,⟨v,t,e,q,h⟩=>⟨v,t,e,P5.mono s p q,a3p.mono s r h⟩
inductive a2y where
 |lst (ps:List PV)|dct (kvs:Γ)|txt (kvs:Γ)
inductive g0 where
 |v (p:PV)|ow (c:a2y)|bo (c:a2y)
abbrev g0.own(ps:List PV):g0:= .ow (.lst ps)
abbrev g0.bor(ps:List PV):g0:= .bo (.lst ps)
def a3o(K:AE)(F H:Hp)(v:V):a2y->Prop
 | .lst ps=>∃a xs,v= .ref a/\F a=ζ/\H a=ξ (.lst xs)/\u5 K F ps xs
 | .dct kvs=>∃a xs,v= .ref a/\F a=ζ/\H a=ξ (.dT xs)/\a3p K F kvs xs
 | .txt kvs=>∃a xs,v= .ref a/\F a=ζ/\H a=ξ (.dK xs)/\a3p K F kvs (xs.map s1)
def R0(K:AE)(F H:Hp)(v:V):g0->Prop
 | .v p=>P5 K F p v
 | .ow c=>a3o K F H v c
 | .bo c=>a3o K F H v c
theorem a3o.at_{K:AE}{F H:Hp}{v:V}:∀{c:a2y},a3o K F H v c->∃a o,v= .ref a/\F a=ζ/\H a=ξ o
 | .lst _,⟨a,_,e,n,q,_⟩=>⟨a,_,e,n,q⟩
 | .dct _,⟨a,_,e,n,q,_⟩=>⟨a,_,e,n,q⟩
 | .txt _,⟨a,_,e,n,q,_⟩=>⟨a,_,e,n,q⟩
def NT(o:HO):Prop:=∀xs,o≠.tup xs
structure Ext(F H F' H':Hp):Prop where
 f:u3 F F'
 h:u3 H H'
 fh:u3 F' H'
 nw:∀b o,F b=ζ->H b=ξ o->NT o->F' b=ζ
 nf:∀b o u,F' b=ξ (.frz o u)->F b=ξ (.frz o u)
theorem u3.refl(H:Hp):u3 H H:=λ_ _ e=>e
theorem Ext.refl{F H:Hp}(s:u3 F H):Ext F H F H:=⟨u3.refl F,u3.refl H,s,λ_ _ e _ _=>e,λ_ _ _ e=>e⟩
theorem Ext.trans{F H F1 H1 F2 H2:Hp}(a:Ext F H F1 H1)(b:Ext F1 H1 F2 H2):Ext F H F2 H2:=
 ⟨a.f.trans b.f,a.h.trans b.h,b.fh,λc o e q t=>b.nw c o (a.nw c o e q t) (a.h c o q) t,λc o u e=>a.nf c o u (b.nf c o u e)⟩
theorem b8P{F0 F:Hp}{a:AA}{xs:List V}(h:∀b o u,F b=ξ (.frz o u)->F0 b=ξ (.frz o u)):∀b o u,A5 F a (.lst xs) b=ξ (.frz o u)->F0 b=ξ (.frz o u):=λb o u z=>by
 by_cases hb:b=a
 ·subst hb;rw [p9] at z;cases z
 ·rw [l6 hb] at z;exact h _ _ _ z
theorem a3o.ext{K:AE}{F H F' H':Hp}{v:V}(x:Ext F H F' H'):∀{c:a2y},a3o K F H v c->a3o K F' H' v c
 | .lst _,⟨a,xs,e,n,q,r⟩=>⟨a,xs,e,x.nw _ _ n q (λ_ h=>nomatch h),x.h _ _ q,u5.mono x.f _ r⟩
 | .dct _,⟨a,xs,e,n,q,r⟩=>⟨a,xs,e,x.nw _ _ n q (λ_ h=>nomatch h),x.h _ _ q,a3p.mono x.f _ r⟩
 | .txt _,⟨a,xs,e,n,q,r⟩=>⟨a,xs,e,x.nw _ _ n q (λ_ h=>nomatch h),x.h _ _ q,a3p.mono x.f _ r⟩
theorem R0.ext{K:AE}{F H F' H':Hp}{v:V}(x:Ext F H F' H'):∀{r:g0},R0 K F H v r->R0 K F' H' v r
 | .v p,h=>P5.mono x.f p h
 | .ow _,h=>a3o.ext x h
 | .bo _,h=>a3o.ext x h
def a2y.rd:a2y->PV
 | .lst ps=> .list ps
 | .dct kvs=> .dict ((.tuple [],.none)::kvs.map λkv=>(.tuple (kv.1.map kP),kv.2))
 | .txt kvs=> .dict (kvs.map λkv=>(.tuple (kv.1.map kP),kv.2))
def g0.rd:g0->PV
 | .v p=>p
 | .ow c=>c.rd
 | .bo c=>c.rd
def g0.toVal:g0->Υ PV
 | .v p=>ξ p
 | .ow (.lst ps)=>ξ (.list ps)
 | .ow (.dct _)=>ζ
 | .ow (.txt _)=>ζ
 | .bo _=>ζ
theorem a5f.of{K:AE}{F H:Hp}(s:u3 F H):∀{kvs:Γ} {xs:List (List Q8×V)},a3p K F kvs xs->a5f K H (kvs.map λkv=>(PyData.tuple (kv.1.map kP),kv.2)) xs
 |[],_,h=>h
 |(k,p)::r,_,⟨v,t,e,q,h⟩=>⟨k,v,t,e,rfl,P5.mono s p q,a5f.of s h⟩
theorem a3o.rd{K:AE}{F H:Hp}{v:V}(s:u3 F H):∀{c:a2y},a3o K F H v c->P5 K H c.rd v
 | .lst ps,⟨a,xs,e,n,q,r⟩=>⟨a,xs,e,Y7.of q,u5.mono s _ r⟩
 | .dct kvs,⟨a,xs,e,n,q,r⟩=> .inr (.inl ⟨a,xs,e,q,[],.non,xs,rfl,rfl,rfl,a5f.of s r⟩)
 | .txt kvs,⟨a,xs,e,n,q,r⟩=> .inl ⟨a,xs,e,q,a5f.of s r⟩
theorem R0.rd{K:AE}{F H:Hp}{v:V}(s:u3 F H):∀{r:g0},R0 K F H v r->P5 K H r.rd v
 | .v p,h=>P5.mono s p h
 | .ow _,h=>a3o.rd s h
 | .bo _,h=>a3o.rd s h
structure B5(K:AE)(F H F' H':Hp)(v:V)(r:g0):Prop where
 x:Ext F H F' H'
 rep:R0 K F' H' v r
 fr:∀c a,r= .ow c->v= .ref a->H a=ζ
theorem B5.val{K:AE}{F H F' H':Hp}{v:V}{p:PV}(x:Ext F H F' H')(r:P5 K F' p v):B5 K F H F' H' v (.v p):=⟨x,r,λ_ _ e=>nomatch e⟩
theorem B5.here{K:AE}{F H:Hp}{v:V}{p:PV}(s:u3 F H)(r:P5 K F p v):B5 K F H F H v (.v p):=B5.val (Ext.refl s) r
theorem B5.trans{K:AE}{F H F1 H1 F2 H2:Hp}{v:V}{r:g0}(a:Ext F H F1 H1)(b:B5 K F1 H1 F2 H2 v r):B5 K F H F2 H2 v r:=
 ⟨a.trans b.x,b.rep,λps c e q=>a.h.free (b.fr ps c e q)⟩
theorem B5.toVal{K:AE}{F H F' H':Hp}{v:V}{p:PV}:∀{r:g0},B5 K F H F' H' v r->r.toVal=ξ p->∃F2,B5 K F H F2 H' v (.v p)
 | .v q,o,e=>by cases e;exact⟨F',o⟩
 | .bo _,_,e=>nomatch e
 | .ow (.dct _),_,e=>nomatch e
 | .ow (.txt _),_,e=>nomatch e
 | .ow (.lst ps),o,e=>by
   cases e;obtain⟨a,xs,rfl,n,q,r⟩:=o.rep;have fr:=o.fr _ a rfl rfl;have up:u3 F' (A5 F' a (.lst xs)):=λb u z=>by rw [l6 (n4 z n)];exact z
   refine⟨A5 F' a (.lst xs),B5.val ⟨o.x.f.trans up,o.x.h,λb u z=> ?_,λb u z y t=> ?_,b8P o.x.nf⟩ ⟨a,xs,rfl,Y7.of p9,u5.mono up _ r⟩⟩
   ·by_cases hb:b=a
    ·subst hb;rw [p9] at z;cases z;exact q
    ·rw [l6 hb] at z;exact o.x.fh _ _ z
   ·rw [l6 (n4 y fr)];exact o.x.nw b u z y t
theorem a0M{H:Hp}{a:AA}{o:HO}(n:H a=ζ):u3 H (A5 H a o):=λb u z=>by rw [l6 (n4 z n)];exact z
theorem Ext.lay{F H:Hp}{a:AA}{o:HO}(s:u3 F H)(n:H a=ζ)(hf:∀x u,o≠.frz x u:=by intro _ _ h;cases h):Ext F H (A5 F a o) (A5 H a o):=
 ⟨a0M (s.free n),a0M n,λb u z=>by
  by_cases hb:b=a
  ·subst hb;rw [p9] at z ⊢;exact z
  ·rw [l6 hb] at z ⊢;exact s _ _ z,λb u z y _=>by rw [l6 (n4 y n)];exact z,λb w u z=>by
  by_cases hb:b=a
  ·subst hb;rw [p9] at z;exact absurd (Option.some.inj z) (hf w u)
  ·rw [l6 hb] at z;exact z⟩
theorem Ext.layH{F H:Hp}{a:AA}{o:HO}(s:u3 F H)(n:H a=ζ):Ext F H F (A5 H a o):=
 ⟨u3.refl F,a0M n,λb u z=>by rw [l6 (n4 (s _ _ z) n)];exact s _ _ z,λb u z y _=>z,λ_ _ _ z=>z⟩
theorem B5.tup{K:AE}{F H:Hp}{a:AA}{xs:List V}{ps:List PV}(s:u3 F H)(n:H a=ζ)(r:u5 K F ps xs):B5 K F H (A5 F a (.tup xs)) (A5 H a (.tup xs)) (.ref a) (.v (.tuple ps)):=
 B5.val (Ext.lay s n) ⟨a,xs,rfl,TqT.of p9,u5.mono (a0M (s.free n)) _ r⟩
theorem B5.lst{K:AE}{F H:Hp}{a:AA}{xs:List V}{ps:List PV}(s:u3 F H)(n:H a=ζ)(r:u5 K F ps xs):B5 K F H F (A5 H a (.lst xs)) (.ref a) (.own ps):=
 ⟨Ext.layH s n,⟨a,xs,rfl,s.free n,p9,r⟩,λ_ _ _ e=>by cases e;exact n⟩
abbrev b9:=List (Υ g0)
structure V6(K:AE)(F H:Hp)(σ:L2.St)(ρ:b9):Prop where
 fh:u3 F H
 len:σ.length=ρ.length
 at_:∀(i:Nat) (r:g0),ρ[i]?=ξ (ξ r)->∃v,σ[i]?=ξ (ξ v)/\R0 K F H v r
 nb:∀(i:Nat) (c:a2y),ρ[i]?≠ξ (ξ (.bo c))
 ap:∀(i j:Nat) (c d:a2y) (a:AA),i≠j->ρ[i]?=ξ (ξ (.ow c))->ρ[j]?=ξ (ξ (.ow d))->σ[i]?=ξ (ξ (.ref a))->σ[j]?≠ξ (ξ (.ref a))
theorem V6.ext{K:AE}{F H F' H':Hp}{σ:L2.St}{ρ:b9}(e:V6 K F H σ ρ)(x:Ext F H F' H'):V6 K F' H' σ ρ:=
 ⟨x.fh,e.len,λi r q=>let ⟨v,a,b⟩:=e.at_ i r q;⟨v,a,b.ext x⟩,e.nb,e.ap⟩
abbrev M:=b9->Υ g0
def tM(K:AE)(m:M):TE:=λσ H Q=>∃F ρ r,V6 K F H σ ρ/\m ρ=ξ r/\∀v F' H',B5 K F H F' H' v r->Q v H'
abbrev EE(X:Cx)(e:AF)(m:M):Prop:=PE X e (tM X.K m)
theorem B1{X:Cx}{e:AF}{t t':TE}(h:PE X e t)(i:∀σ H Q,t' σ H Q->t σ H Q):PE X e t':=λpins s σ H Q I q=>h pins s σ H Q I (i σ H Q q)
theorem b1O{X:Cx}{e:AF}{t t':TT}(h:PT X e t)(i:∀σ H Q,t' σ H Q->t σ H Q):PT X e t':=λpins s σ H Q I q=>h pins s σ H Q I (i σ H Q q)
theorem b9l{X:Cx}{e:AF}{t t':TT}(h:PW X e t)(i:∀σ H Q,t' σ H Q->t σ H Q):PW X e t':=λwh pins s σ H Q I q=>h wh pins s σ H Q I (i σ H Q q)
theorem b82{X:Cx}{e:List AF}{t t':TA}(h:PA X e t)(i:∀σ H Q,t' σ H Q->t σ H Q):PA X e t':=λpos pins s σ H Q I q=>h pos pins s σ H Q I (i σ H Q q)
theorem G6{X:Cx}{e:Stmt}{t t':TS}(h:PS X e t)(i:∀D σ H,t' D σ H->t D σ H):PS X e t':=λpins s σ H D I q=>h pins s σ H D I (i D σ H q)
theorem a77{X:Cx}{e:List Stmt}{t t':TS}(h:PSs X e t)(i:∀D σ H,t' D σ H->t D σ H):PSs X e t':=λpins s σ H D I q=>h pins s σ H D I (i D σ H q)
def mC(p:PV):M:=λ_=>ξ (.v p)
def b0(i:Nat):M:=λρ=>match ρ[i]? with
 |some (ξ (.ow c))=>ξ (.bo c)
 |some (ξ r)=>ξ r
 |_=>ζ
section
variable {X:Cx}{a b c:AF}{ma mb mc:M}{pos:Pos}
theorem a3I{e:AF}{v:V}{p:PV}(h:PE X e (tC v))(r:∀H,P5 X.K H p v):EE X e (mC p):=
 B1 h λσ H Q h0=>z9 h0 λF ρ q he hm k=>by
  cases hm;exact k v F H (B5.here he.fh (r F))
theorem b5{i j pos}:EE X (.Constant (.int i) j pos) (mC (.int i)):=a3I c3s λ_=>rfl
theorem L4{b j pos}:EE X (.Constant (.bool b) j pos) (mC (.bool b)):=a3I c4A λ_=>rfl
theorem v0{j pos}:EE X (.Constant .none j pos) (mC .none):=a3I c3u λ_=>rfl
theorem b7{x j pos}:EE X (.Constant (.str x) j pos) (mC (.str x)):=a3I c3x λ_=>rfl
theorem c2w(i:Nat){x:Str}{pos:Pos}(h:PE X (.Name x pos) (a9A i)):EE X (.Name x pos) (b0 i):=
 B1 h λσ H Q h0=>z9 h0 λF ρ r he hm k=>by
  unfold b0 at hm;split at hm
  ·rename_i ps e;cases hm;obtain⟨v,e1,rr⟩:=he.at_ i _ e;exact⟨v,e1,k v F H ⟨Ext.refl he.fh,rr,λ_ _ z=>nomatch z⟩⟩
  ·rename_i r' nn e;cases hm;obtain⟨v,e1,rr⟩:=he.at_ i _ e;exact⟨v,e1,k v F H ⟨Ext.refl he.fh,rr,λps _ z=>absurd z (nn ps)⟩⟩
  ·cases hm
def rM2(K:AE)(g:g0->g0->Υ g0):R2:=λx y H Q=>∃F rx ry rz,u3 F H/\R0 K F H x rx/\R0 K F H y ry/\g rx ry=ξ rz/\∀v F' H',B5 K F H F' H' v rz->Q v H'
abbrev OpM(X:Cx)(f:AB->AB->Sem AB)(g:g0->g0->Υ g0):Prop:=OpR X f (rM2 X.K g)
def m2(g:g0->g0->Υ g0)(ma mb:M):M:=λρ=>(ma ρ).bind λx=>(mb ρ).bind λy=>g x y
theorem bind_some{α β:Type}{o:Υ α}{f:α->Υ β}{b:β}(h:o.bind f=ξ b):∃a,o=ξ a/\f a=ξ b:=by
 cases o with
 |none=>cases h
 |some a=>exact⟨a,rfl,h⟩
theorem b1V{K:AE}{g:g0->g0->Υ g0}{σ:L2.St}{H:Hp}{Q:VK}(h:tM K (m2 g ma mb) σ H Q):tOp (rM2 K g) (tM K ma) (tM K mb) σ H Q:=by
 ext ac
 exact⟨F,ρ,rx,he,e1,λv F1 H1 o1=>⟨F1,ρ,ry,he.ext o1.x,e2,λu F2 H2 o2=>⟨F2,rx,ry,r,o2.x.fh,o1.rep.ext o2.x,o2.rep,hm,λz F3 H3 o3=>k z F3 H3 (B5.trans (o1.x.trans o2.x) o3)⟩⟩⟩
theorem c9{op:Operator}{g:g0->g0->Υ g0}(ho:OpM X (binaryOp op) g)(ha:EE X a ma)(hb:EE X b mb):EE X (.BinOp a op b pos) (m2 g ma mb):=
 B1 (c4C ho ha hb) λ_ _ _ h=>b1V h
theorem c2u{op:CmpOp}{g:g0->g0->Υ g0}(ho:OpM X (compareOp op) g)(ha:EE X a ma)(hb:EE X b mb)(hm:behindInMarks op b=false):EE X (.Compare a [op] [b] pos) (m2 g ma mb):=
 B1 (c05 ho ha hb hm) λ_ _ _ h=>b1V h
theorem a69{f:AB->AB->Sem AB}{r:R2}{g:g0->g0->Υ g0}(h:OpR X f r)
 (i:∀F H x y rx ry rz,u3 F H->R0 X.K F H x rx->R0 X.K F H y ry->g rx ry=ξ rz->∀Q:VK,(∀v F' H',B5 X.K F H F' H' v rz->Q v H')->r x y H Q):OpM X f g:=
 λpins s σ H x y v u Q I rx ry ⟨F,ra,rb,rz,s0,h1,h2,h3,k⟩=>h pins s σ H x y v u Q I rx ry (i F H x y ra rb rz s0 h1 h2 h3 Q k)
end
def gI(f:Int->Int->PV):g0->g0->Υ g0
 | .v (.int i),.v (.int j)=>ξ (.v (f i j))
 |_,_=>ζ
theorem b8U:∃f:(Int->Int->Prop)->Int->Int->Bool,∀C i j,f C i j=true↔C i j:=⟨λC i j=> @decide (C i j) (Classical.propDecidable _),λC i j=> @decide_eq_true_iff (C i j) (Classical.propDecidable _)⟩
def okC:(Int->Int->Prop)->Int->Int->Bool:=b8U.choose
theorem a00{C:Int->Int->Prop}{i j:Int}:okC C i j=true↔C i j:=b8U.choose_spec C i j
def G7(C:Int->Int->Prop)[∀i j,Decidable (C i j)](f:Int->Int->PV):g0->g0->Υ g0
 | .v (.int i),.v (.int j)=>if okC C i j=true then ξ (.v (f i j)) else ζ
 |_,_=>ζ
abbrev Θ:=G7 (λ_ j=>0<j) λi j=> .int (i % j)
theorem b5i{f:Int->Int->PV}{rx ry rz:g0}(h:gI f rx ry=ξ rz):∃i j,rx= .v (.int i)/\ry= .v (.int j)/\rz= .v (f i j):=by
 unfold gI at h;split at h
 ·cases h;exact⟨_,_,rfl,rfl,rfl⟩
 ·cases h
theorem b78{C:Int->Int->Prop}[∀i j,Decidable (C i j)]{f:Int->Int->PV}{rx ry rz:g0}(h:G7 C f rx ry=ξ rz):∃i j,rx= .v (.int i)/\ry= .v (.int j)/\C i j/\rz= .v (f i j):=by
 unfold G7 at h;split at h
 ·split at h
  ·rename_i c;cases h;exact⟨_,_,rfl,rfl,a00.mp c,rfl⟩
  ·cases h
 ·cases h
section
variable {X:Cx}
theorem b5I{f:AB->AB->Sem AB}{g:Int->Int->V}{g':Int->Int->PV}(h:OpR X f (rI0 g))(e:∀i j H,P5 X.K H (g' i j) (g i j)):OpM X f (gI g'):=
 a69 h λF H x y rx ry rz s h1 h2 h3 Q k=>by
  obtain⟨i,j,rfl,rfl,rfl⟩:=b5i h3;exact⟨i,j,h1,h2,k _ F H (B5.here s (e i j F))⟩
theorem b1J{f:AB->AB->Sem AB}{C:Int->Int->Prop}[∀i j,Decidable (C i j)]{g:Int->Int->V}{g':Int->Int->PV}(h:OpR X f (rI C g))(e:∀i j H,P5 X.K H (g' i j) (g i j)):OpM X f (G7 C g'):=
 a69 h λF H x y rx ry rz s h1 h2 h3 Q k=>by
  obtain⟨i,j,rfl,rfl,c,rfl⟩:=b78 h3;exact⟨i,j,h1,h2,c,k _ F H (B5.here s (e i j F))⟩
end
mutual
def z6:PV->Nat->Bool
 | .list xs,n+1=>K6 xs n
 | .tuple xs,n+1=>K6 xs n
 | .list _,0=>false
 | .tuple _,0=>false
 | .dict _,_=>false
 | .none,_=>true
 | .bool _,_=>true
 | .int _,_=>true
 | .str _,_=>true
def K6:List PV->Nat->Bool
 |[],_=>true
 |x::xs,n=>z6 x n && K6 xs n
end
section
variable {X:Cx}{pins:List (AA×Obj)}{σ:L2.St}{H:Hp}{s:AC}
theorem a36(I:Inv X pins σ H s){a:AA}{xs ys:List V}(h:Y7 X.K H a xs)(h':SqT X.K H a ys):False:=by
 obtain⟨its,r,p,_⟩:=I.list h;obtain⟨its',r',p',_⟩:=I.tuple h';exact SeqAt.ne_of_list_tuple p.isList (show s.heap.IsTuple a its'.toArray from p') rfl
theorem c1G(I:Inv X pins σ H s){x:Str}{v:V}(h:c2f X.K H x v):∃(a C:AA) (o:Obj) (vs:Array AB),v= .ref a/\s.heap.get? a=ξ o/\o.cls= .ref C/\o.data= .fields vs/\M4 X.K x C/\o.dict=ζ:=by
 obtain⟨a,C,φ,e,q,k,n⟩:=h;obtain⟨oe,vs,h1,h2,h3,h4⟩:=k _ (I.hok a _ q).1;exact⟨a,C,oe,vs,e,h1,h2,h3,n,h4⟩
theorem c0S{K:AE}{F:Hp}{k p:PV}{r:List (PV×PV)}{y:Str}{m v:V}{fs:List (Str×V)}(h:b16 K F y m fs v)(hr:a3k K F ((k,p)::r) ((y,m)::fs)):k= .str y/\(p= .bool false\/p= .int 0)/\a3k K F r fs:=by
 obtain⟨f,w,t,e,z,q,hr⟩:=hr;cases e;refine⟨z, ?_,hr⟩;rcases h with⟨rfl,_⟩|⟨rfl,_⟩
 ·cases p with
  |bool b=>cases q;exact .inl rfl
  |tuple _=>obtain⟨_,_,e,_⟩:=q;cases e
  |list _=>obtain⟨_,_,e,_⟩:=q;cases e
  |dict _=>
   rcases q with⟨_,_,e,_⟩|⟨_,_,e,_⟩|⟨_,_,_,q⟩|⟨_,_,_,q,_⟩
   ·cases e
   ·cases e
   ·obtain⟨_,e⟩:=q.ref;cases e
   ·obtain⟨_,e⟩:=q.ref;cases e
  |_=>cases q
 ·cases p with
  |int b=>cases q;exact .inr rfl
  |tuple _=>obtain⟨_,_,e,_⟩:=q;cases e
  |list _=>obtain⟨_,_,e,_⟩:=q;cases e
  |dict _=>
   rcases q with⟨_,_,e,_⟩|⟨_,_,e,_⟩|⟨_,_,_,q⟩|⟨_,_,_,q,_⟩
   ·cases e
   ·cases e
   ·obtain⟨_,e⟩:=q.ref;cases e
   ·obtain⟨_,e⟩:=q.ref;cases e
  |_=>cases q
mutual
theorem P5.inj(I:Inv X pins σ H s):∀(p q:PV) {v:V} {n m:Nat},z6 p n=true->z6 q m=true->P5 X.K H p v->P5 X.K H q v->p=q
 | .tuple ps,q,v,n,m,hp,hq,⟨a,xs,e,h,r⟩,h'=>by
   subst e;cases q with
   |tuple qs=>
    obtain⟨a',xs',e',h',r'⟩:=h';cases e';cases I.tuple_inj h.sq h'.sq;cases n<;>cases m<;>simp only [z6,BD] at hp hq
    rw [u5.inj I ps qs hp hq r r']
   |list qs=>obtain⟨a',xs',e',h',r'⟩:=h';cases e';exact(a36 I h' h.sq).elim
   |dict qs=>simp [z6] at hq
   |_=>cases h'
 | .list ps,q,v,n,m,hp,hq,⟨a,xs,e,h,r⟩,h'=>by
   subst e;cases q with
   |list qs=>
    obtain⟨a',xs',e',h',r'⟩:=h';cases e';cases I.list_inj h h';cases n<;>cases m<;>simp only [z6,BD] at hp hq
    rw [u5.inj I ps qs hp hq r r']
   |tuple qs=>obtain⟨a',xs',e',h',r'⟩:=h';cases e';exact(a36 I h h'.sq).elim
   |dict qs=>simp [z6] at hq
   |_=>cases h'
 | .dict _,_,_,_,_,hp,_,_,_=>by simp [z6] at hp
 | .none,q,v,n,m,hp,hq,h,h'| .bool _,q,v,n,m,hp,hq,h,h'| .int _,q,v,n,m,hp,hq,h,h'| .str _,q,v,n,m,hp,hq,h,h'=>by
   cases h;cases q with
   |tuple _=>obtain⟨_,_,e,_⟩:=h';cases e
   |list _=>obtain⟨_,_,e,_⟩:=h';cases e
   |dict _=>simp [z6] at hq
   |_=>cases h'<;>rfl
theorem u5.inj(I:Inv X pins σ H s):∀(ps qs:List PV) {vs:List V} {n m:Nat},K6 ps n=true->K6 qs m=true->u5 X.K H ps vs->u5 X.K H qs vs->ps=qs
 |[],qs,vs,n,m,_,_,h,h'=>by
  cases h;cases qs with
  |nil=>rfl
  |cons q qs=>obtain⟨_,_,e,_⟩:=h';cases e
 |p::ps,qs,vs,n,m,hp,hq,⟨v,r,e,h,t⟩,h'=>by
  subst e;cases qs with
  |nil=>cases h'
  |cons q qs=>
   obtain⟨v',r',e',h',t'⟩:=h';cases e';simp only [K6,χ] at hp hq;rw [P5.inj I p q hp.1 hq.1 h h',u5.inj I ps qs hp.2 hq.2 t t']
end
end
mutual
theorem a8D:∀(p:PV) (n:Nat),z6 p n=true->η p p=true
 | .none,_,_=>by simp [η]
 | .bool _,_,_=>by simp [η]
 | .int _,_,_=>by simp [η]
 | .str _,_,_=>by simp [η]
 | .list xs,n+1,h=>by simp only [η];exact a2l xs n (by simpa [z6] using h)
 | .tuple xs,n+1,h=>by simp only [η];exact a2l xs n (by simpa [z6] using h)
 | .list xs,0,h=>by simp [z6] at h
 | .tuple xs,0,h=>by simp [z6] at h
 | .dict _,_,h=>by simp [z6] at h
theorem a2l:∀(ps:List PV) (n:Nat),K6 ps n=true->θ ps ps=true
 |[],_,_=>by simp [θ]
 |x::xs,n,h=>by
  have h':z6 x n=true/\K6 xs n=true:=by simpa [K6] using h
  simp only [θ,a8D x n h'.1,a2l xs n h'.2,Bool.and_self]
end
def eAt(ps qs:List PV)(j:Nat):Bool:=match ps[j]?,qs[j]? with
 |some p,ξ q=>η p q
 |_,_=>false
theorem a0W:∀(ps qs:List PV),θ ps qs=((Aq (min ps.length qs.length)).all (eAt ps qs)&& ps.length==qs.length)
 |[],[]=>by simp [θ]
 |[],_::_=>by simp [θ]
 |_::_,[]=>by simp [θ]
 |p::ps,q::qs=>by
  have e:min (p::ps).length (q::qs).length=min ps.length qs.length+1:=by simp only [AO];lia
  rw [e,List.range_succ_eq_map,List.all_cons,List.all_map];have h0:eAt (p::ps) (q::qs) 0=η p q:=rfl;have h1:(eAt (p::ps) (q::qs)∘Nat.succ)=eAt ps qs:=by funext j;simp [eAt,Function.comp]
  rw [h0,h1];simp only [θ,a0W ps qs,AO,Bool.and_assoc];have e2:(ps.length+1==qs.length+1)=(ps.length==qs.length):=by
   rw [Bool.eq_iff_iff];simp
  rw [e2]
section
variable {X:Cx}{pins:List (AA×Obj)}{σ:L2.St}{H:Hp}{s:AC}
structure b7k(A:AL)(s:AC)(u w:AB)(b:Bool):Prop where
 rc:SeqAt.RcAt A s u w b
 ne:SeqAt.RcNeAt A s u w (!b)
 eq:SeqAt.EqAt A s u w b
theorem b0v(A:AL):A.in1.units=A.units+1:=rfl
theorem b5X{xs:List V}{its:List AB}{j:Nat}(r:y0 xs its)(h:j<its.length):∃x,xs[j]?=ξ x/\y4 x its[j]:=by
 have hx:j<xs.length:=by rw [r.length];exact h
 obtain⟨u,h1,h2⟩:=r.get (i:=j) (x:=xs[j]) (by simp [hx])
 rw [BF h] at h1;cases h1;exact⟨xs[j],by simp [hx],h2⟩
theorem b3t{A:AL}{ps qs:List PV}{xs ys:List V}{its its2:List AB}(r:u5 X.K H ps xs)(r':u5 X.K H qs ys)(rv:y0 xs its)(rv':y0 ys its2)
 (ih:∀p q x y u w,p∈ps->q∈qs->P5 X.K H p x->P5 X.K H q y->y4 x u->y4 y w->b7k A s u w (η p q)):
 ∀j (h1:j<its.toArray.size) (h2:j<its2.toArray.size),SeqAt.EqAt A s its.toArray[j] its2.toArray[j] (eAt ps qs j):=by
 intro j h1 h2
 have h1':j<its.length:=by simpa using h1
 have h2':j<its2.length:=by simpa using h2
 obtain⟨x,ex,rx⟩:=b5X rv h1'
 obtain⟨y,ey,ry⟩:=b5X rv' h2'
 obtain⟨p,ep,hp⟩:=r.getV ex
 obtain⟨q,eq,hq⟩:=r'.getV ey
 have:eAt ps qs j=η p q:=by simp [eAt,ep,eq]
 rw [this]
 have z:=(ih p q x y _ _ (BE ep) (BE eq) hp hq rx ry).eq
 simpa using z
theorem Z5:∀{ps:List PV} {n:Nat} {p:PV},K6 ps n=true->p∈ps->z6 p n=true
 |[],_,_,_,h=>by cases h
 |x::xs,n,p,h,hp=>by
  have h':z6 x n=true/\K6 xs n=true:=by simpa [K6] using h
  rcases Ah.mp hp with rfl|hp
  ·exact h'.1
  ·exact Z5 h'.2 hp
theorem b32(I:Inv X pins σ H s):∀(n:Nat) (A:AL) (p q:PV) (x y:V) (u w:AB),A.units+n<cLine->z6 p n=true->z6 q n=true->P5 X.K H p x->P5 X.K H q y->y4 x u->y4 y w->b7k A s u w (η p q):=by
 intro n
 induction n with
 |zero=>
  intro A p q x y u w hu hp hq rp rq rx ry;cases p with
  |none=>
   cases rp;cases rx;cases q with
   |none=>cases rq;cases ry;simp only [η];exact⟨.none_none,.none_none,.same _⟩
   |bool j=>cases rq;cases ry;simp only [η];exact⟨.none_bool _,.none_bool _,.none_bool _⟩
   |int j=>cases rq;obtain⟨ty,rfl⟩:=ry;simp only [η];exact⟨.none_int _ _,.none_int _ _,.none_int _ _⟩
   |str j=>cases rq;obtain⟨ty,rfl⟩:=ry;simp only [η];exact⟨.none_str _ _,.none_str _ _,.none_str _ _⟩
   |dict _=>simp [z6] at hq
   |list _=>simp [z6] at hq
   |tuple _=>simp [z6] at hq
  |bool i=>
   cases rp;cases rx;cases q with
   |none=>cases rq;cases ry;simp only [η];exact⟨.bool_none _,.bool_none _,.bool_none _⟩
   |bool j=>cases rq;cases ry;simp only [η];exact⟨.bool_bool _ _,.bool_bool _ _,.bool_bool _ _⟩
   |int j=>cases rq;obtain⟨ty,rfl⟩:=ry;simp only [η];exact⟨.bool_int _ _ _,.bool_int _ _ _,.bool_int _ _ _⟩
   |str j=>cases rq;obtain⟨ty,rfl⟩:=ry;simp only [η];exact⟨.bool_str _ _ _,.bool_str _ _ _,.bool_str _ _ _⟩
   |dict _=>simp [z6] at hq
   |list _=>simp [z6] at hq
   |tuple _=>simp [z6] at hq
  |int i=>
   cases rp;obtain⟨tx,rfl⟩:=rx;cases q with
   |none=>cases rq;cases ry;simp only [η];exact⟨.int_none _ _,.int_none _ _,.int_none _ _⟩
   |bool j=>cases rq;cases ry;simp only [η];exact⟨.int_bool _ _ _,.int_bool _ _ _,.int_bool _ _ _⟩
   |int j=>cases rq;obtain⟨ty,rfl⟩:=ry;simp only [η];exact⟨.int_int _ _ _ _,.int_int _ _ _ _,.int_int _ _ _ _⟩
   |str j=>cases rq;obtain⟨ty,rfl⟩:=ry;simp only [η];exact⟨.int_str _ _ _ _,.int_str _ _ _ _,.int_str _ _ _ _⟩
   |dict _=>simp [z6] at hq
   |list _=>simp [z6] at hq
   |tuple _=>simp [z6] at hq
  |str i=>
   cases rp;obtain⟨tx,rfl⟩:=rx;cases q with
   |none=>cases rq;cases ry;simp only [η];exact⟨.str_none _ _,.str_none _ _,.str_none _ _⟩
   |bool j=>cases rq;cases ry;simp only [η];exact⟨.str_bool _ _ _,.str_bool _ _ _,.str_bool _ _ _⟩
   |int j=>cases rq;obtain⟨ty,rfl⟩:=ry;simp only [η];exact⟨.str_int _ _ _ _,.str_int _ _ _ _,.str_int _ _ _ _⟩
   |str j=>cases rq;obtain⟨ty,rfl⟩:=ry;simp only [η];exact⟨.str_str _ _ _ _,.str_str _ _ _ _,.str_str _ _ _ _⟩
   |dict _=>simp [z6] at hq
   |list _=>simp [z6] at hq
   |tuple _=>simp [z6] at hq
  |dict _=>simp [z6] at hp
  |list _=>simp [z6] at hp
  |tuple _=>simp [z6] at hp
 |succ n ih=>
  intro A p q x y u w hu hp hq rp rq rx ry;have hu0:A.units<cLine:=by lia
  have hu1:A.in1.units+n<cLine:=by rw [b0v];lia
  cases p with
  |dict _=>simp [z6] at hp
  |list ps=>
   obtain⟨a,xs,rfl,hs,r⟩:=rp;cases rx;obtain⟨its,rv,pl,hz⟩:=I.list hs;have okp:K6 ps n=true:=by simpa [z6] using hp
   cases q with
   |dict _=>simp [z6] at hq
   |list qs=>
    ext ba
    obtain⟨its2,rv',pl',hz'⟩:=I.list hs';have okq:K6 qs n=true:=by simpa [z6] using hq
    have hle:its.toArray.size=ps.length:=by rw [<-r.length,rv.length];simp
    have hle':its2.toArray.size=qs.length:=by rw [<-r'.length,rv'.length];simp
    ext af
    have main:SeqAt.RcAt A s (.ref a) (.ref b) (θ ps qs)/\SeqAt.RcNeAt A s (.ref a) (.ref b) (!θ ps qs):=by
     by_cases e:its.toArray.size=its2.toArray.size
     ·have el:ps.length=qs.length:=by rw [<-hle,<-hle',e]
      have e3:θ ps qs=(Aq its.toArray.size).all (eAt ps qs):=by
       rw [a0W,el,Nat.min_self,hle,el];simp
      rw [e3];exact⟨.lists pl.isList pl'.isList e hu0 he,.lists pl.isList pl'.isList e hu0 he⟩
     ·have e3:θ ps qs=false:=by
       rw [a0W];have:(ps.length==qs.length)=false:=by
        rw [beq_eq_false_iff_ne];intro z;exact e (by rw [hle,hle',z])
       rw [this,Bool.and_false]
      have e4:(its.toArray.size !=its2.toArray.size)=true:=by simpa using e
      rw [e3];exact⟨.lists_lengths pl.isList pl'.isList e4 hu0,.lists_lengths pl.isList pl'.isList e4 hu0⟩
    refine⟨main.1,main.2, ?_⟩
    by_cases hab:a=b
    ·subst hab;cases I.list_inj hs hs';cases u5.inj I ps qs okp okq r r';rw [a2l ps n okp];exact .same _
    ·exact .of_refs hab main.1
   |tuple qs=>
    ext ba
    obtain⟨its2,rv',pl',hz'⟩:=I.tuple hs'.sq;simp only [η];exact⟨.list_tuple pl.isList pl' hu0,.list_tuple pl.isList pl' hu0,.list_tuple pl.isList pl' hu0⟩
   |none=>cases rq;cases ry;simp only [η];exact⟨.list_none pl.isList hu0,.list_none pl.isList hu0,.list_none pl.isList hu0⟩
   |bool k=>cases rq;cases ry;simp only [η];exact⟨.list_bool _ pl.isList hu0,.list_bool _ pl.isList hu0,.list_bool _ pl.isList hu0⟩
   |int k=>cases rq;obtain⟨t,rfl⟩:=ry;simp only [η];exact⟨.list_int _ _ pl.isList hu0,.list_int _ _ pl.isList hu0,.list_int _ _ pl.isList hu0⟩
   |str k=>cases rq;obtain⟨t,rfl⟩:=ry;simp only [η];exact⟨.list_str _ _ pl.isList hu0,.list_str _ _ pl.isList hu0,.list_str _ _ pl.isList hu0⟩
  |tuple ps=>
   obtain⟨a,xs,rfl,hs,r⟩:=rp;cases rx;obtain⟨its,rv,pl,hz⟩:=I.tuple hs.sq;have okp:K6 ps n=true:=by simpa [z6] using hp
   cases q with
   |dict _=>simp [z6] at hq
   |tuple qs=>
    ext ba
    obtain⟨its2,rv',pl',hz'⟩:=I.tuple hs'.sq;have okq:K6 qs n=true:=by simpa [z6] using hq
    have hle:its.toArray.size=ps.length:=by rw [<-r.length,rv.length];simp
    have hle':its2.toArray.size=qs.length:=by rw [<-r'.length,rv'.length];simp
    ext af
    have e3:θ ps qs=((Aq (min its.toArray.size its2.toArray.size)).all (eAt ps qs)&& its.toArray.size==its2.toArray.size):=by
     rw [a0W,hle,hle']
    have main:SeqAt.RcAt A s (.ref a) (.ref b) (θ ps qs)/\SeqAt.RcNeAt A s (.ref a) (.ref b) (!θ ps qs):=by
     rw [e3];exact⟨.tuples pl pl' hu0 he,.tuples pl pl' hu0 he⟩
    refine⟨main.1,main.2, ?_⟩
    by_cases hab:a=b
    ·subst hab;cases I.tuple_inj hs.sq hs'.sq;cases u5.inj I ps qs okp okq r r';rw [a2l ps n okp];exact .same _
    ·exact .of_refs hab main.1
   |list qs=>
    ext ba
    obtain⟨its2,rv',pl',hz'⟩:=I.list hs';simp only [η];exact⟨.tuple_list pl pl'.isList hu0,.tuple_list pl pl'.isList hu0,.tuple_list pl pl'.isList hu0⟩
   |none=>cases rq;cases ry;simp only [η];exact⟨.tuple_none pl hu0,.tuple_none pl hu0,.tuple_none pl hu0⟩
   |bool k=>cases rq;cases ry;simp only [η];exact⟨.tuple_bool _ pl hu0,.tuple_bool _ pl hu0,.tuple_bool _ pl hu0⟩
   |int k=>cases rq;obtain⟨t,rfl⟩:=ry;simp only [η];exact⟨.tuple_int _ _ pl hu0,.tuple_int _ _ pl hu0,.tuple_int _ _ pl hu0⟩
   |str k=>cases rq;obtain⟨t,rfl⟩:=ry;simp only [η];exact⟨.tuple_str _ _ pl hu0,.tuple_str _ _ pl hu0,.tuple_str _ _ pl hu0⟩
  |none=>
   cases q with
   |list qs=>
    ext bg
    exact⟨.none_list pl'.isList hu0,.none_list pl'.isList hu0,.none_list pl'.isList hu0⟩
   |tuple qs=>
    ext a8
    exact⟨.none_tuple pl' hu0,.none_tuple pl' hu0,.none_tuple pl' hu0⟩
   |dict _=>simp [z6] at hq
   |_=>exact ih A _ _ x y u w (by lia) (by simp [z6]) (by simp [z6]) rp rq rx ry
  |bool k=>
   cases q with
   |list qs=>
    ext bg
    exact⟨.bool_list _ pl'.isList hu0,.bool_list _ pl'.isList hu0,.bool_list _ pl'.isList hu0⟩
   |tuple qs=>
    ext a8
    exact⟨.bool_tuple _ pl' hu0,.bool_tuple _ pl' hu0,.bool_tuple _ pl' hu0⟩
   |dict _=>simp [z6] at hq
   |_=>exact ih A _ _ x y u w (by lia) (by simp [z6]) (by simp [z6]) rp rq rx ry
  |int k=>
   cases q with
   |list qs=>
    ext a1
    exact⟨.int_list _ _ pl'.isList hu0,.int_list _ _ pl'.isList hu0,.int_list _ _ pl'.isList hu0⟩
   |tuple qs=>
    ext ay
    exact⟨.int_tuple _ _ pl' hu0,.int_tuple _ _ pl' hu0,.int_tuple _ _ pl' hu0⟩
   |dict _=>simp [z6] at hq
   |_=>exact ih A _ _ x y u w (by lia) (by simp [z6]) (by simp [z6]) rp rq rx ry
  |str k=>
   cases q with
   |list qs=>
    ext a1
    exact⟨.str_list _ _ pl'.isList hu0,.str_list _ _ pl'.isList hu0,.str_list _ _ pl'.isList hu0⟩
   |tuple qs=>
    ext ay
    exact⟨.str_tuple _ _ pl' hu0,.str_tuple _ _ pl' hu0,.str_tuple _ _ pl' hu0⟩
   |dict _=>simp [z6] at hq
   |_=>exact ih A _ _ x y u w (by lia) (by simp [z6]) (by simp [z6]) rp rq rx ry
end
instance (i j:Int):Decidable (b3y i j):=by unfold b3y;infer_instance
instance (i j:Int):Decidable (a9F i j):=by unfold a9F;infer_instance
abbrev Ω:=G7 a9F λi j=> .int (i / j)
instance (i j:Int):Decidable (b53 i j):=by unfold b53;infer_instance
def g0.mine:g0->Υ (List PV)
 | .ow (.lst ps)=>ξ ps
 | .bo (.lst ps)=>ξ ps
 |_=>ζ
theorem a8Y{K:AE}{F H:Hp}{v:V}{r:g0}{ps:List PV}(h:R0 K F H v r)(e:r.mine=ξ ps):∃a xs,v= .ref a/\F a=ζ/\H a=ξ (.lst xs)/\u5 K F ps xs:=by
 cases r with
 |v _=>cases e
 |ow c=>cases c<;>cases e;exact h
 |bo c=>cases c<;>cases e;exact h
def l8(x y:g0):Υ g0:=match x,y with
 | .v (.int i),.v (.int j)=>ξ (.v (.int (i+j)))
 | .v (.str i),.v (.str j)=>if i.length+j.length<=AN then ξ (.v (.str (i++j))) else ζ
 | .v (.tuple ps),.v (.tuple qs)=>if(ps.length≠0/\qs.length≠0)/\ps.length+qs.length<=AN then ξ (.v (.tuple (ps++qs))) else ζ
 |x,y=>match x.mine,y.mine with
  |some ps,ξ qs=>if ps.length+qs.length<=AN then ξ (.own (ps++qs)) else ζ
  |_,_=>ζ
section
variable {X:Cx}
theorem d9:OpM X (binaryOp .Add) l8:=by
 ext d
 unfold l8 at h3;split at h3
 ·ext x
  exact c3f pins s σ H _ _ v u Q I rx ry ⟨_,_,rfl,rfl,k _ F H (B5.here s0 rfl)⟩
 ·rename_i i j;split at h3
  ·rename_i c
   ext x
   exact b4I pins s σ H _ _ v u Q I rx ry ⟨i,j,rfl,rfl,c,k _ F H (B5.here s0 rfl)⟩
  ·cases h3
 ·rename_i ps qs;split at h3
  ·ext bh
   obtain⟨a,xs,rfl,hq,r⟩:=h1;obtain⟨b,ys,rfl,hq',r'⟩:=h2;refine c0X pins s σ H _ _ v u Q I rx ry ⟨a,b,xs,ys,rfl,rfl,E5 s0 hq.sq,E5 s0 hq'.sq, ?_,by rw [r.length,r'.length];exact c.2, ?_⟩
   ·intro z;subst z;exact c.1.1 r.length.symm
   ·refine⟨λz=> ?_,λ_ p hp=>k _ _ _ (B5.tup s0 hp (r.append r'))⟩;subst z;exact absurd r'.length.symm c.1.2
  ·cases h3
 ·split at h3
  ·rename_i ps qs e1 e2;split at h3
   ·ext bh
    obtain⟨a,xs,rfl,_,hq,r⟩:=a8Y h1 e1;obtain⟨b,ys,rfl,_,hq',r'⟩:=a8Y h2 e2;refine c3g pins s σ H _ _ v u Q I rx ry ⟨a,b,xs,ys,rfl,rfl,hq,hq',by rw [r.length,r'.length];exact c,λp hp=> ?_⟩
    exact k _ _ _ (B5.lst s0 hp (r.append r'))
   ·cases h3
  ·cases h3
theorem a76:OpM X (binaryOp .Sub) (gI λi j=> .int (i - j)):=b5I c3m λ_ _ _=>rfl
theorem c01:OpM X (binaryOp .Mult) (G7 b3y λi j=> .int (i*j)):=b1J c3j λ_ _ _=>rfl
theorem v5:OpM X (binaryOp .Mod) Θ:=b1J c3i λ_ _ _=>rfl
theorem b3d:OpM X (binaryOp .FloorDiv) Ω:=b1J c0Y λ_ _ _=>rfl
theorem c02:OpM X (binaryOp .Pow) (G7 b53 λi j=> .int (i ^ j.toNat)):=b1J c3k λ_ _ _=>rfl
theorem a68:OpM X (compareOp .Gt) (gI λi j=> .bool (decide (j<i))):=b5I c4x λ_ _ _=>rfl
theorem c3n:OpM X (compareOp .GtE) (gI λi j=> .bool (decide (j<=i))):=b5I c4w λ_ _ _=>rfl
def B7(x y:g0):Υ g0:=if z6 x.rd 50=true/\z6 y.rd 50=true then ξ (.v (.bool (η x.rd y.rd))) else ζ
def gNe(x y:g0):Υ g0:=if z6 x.rd 50=true/\z6 y.rd 50=true then ξ (.v (.bool (!η x.rd y.rd))) else ζ
theorem m4(hu:X.A.units+64<cLine):OpM X (compareOp .Eq) B7:=by
 ext d
 unfold B7 at h3;split at h3
 ·ext bh
  have z:=b32 I 50 X.A _ _ x y v u (by lia) c.1 c.2 (h1.rd s0) (h2.rd s0) rx ry
  exact z.rc _ _ _ _ ⟨.bl _,H,I,rfl,k _ F H (B5.here s0 rfl)⟩
 ·cases h3
theorem N6(hu:X.A.units+64<cLine):OpM X (compareOp .NotEq) gNe:=by
 ext d
 unfold gNe at h3;split at h3
 ·ext bh
  have z:=b32 I 50 X.A _ _ x y v u (by lia) c.1 c.2 (h1.rd s0) (h2.rd s0) rx ry
  exact z.ne _ _ _ _ ⟨.bl _,H,I,rfl,k _ F H (B5.here s0 rfl)⟩
 ·cases h3
open Classical in
def a4Q(K:AE)(H:Hp)(q:PV)(u:AB):Bool:=if h:∃p v,y4 v u/\P5 K H p v/\z6 p 50=true then η h.choose q else false
theorem b49{pins:List (AA×Obj)}{σ:L2.St}{H:Hp}{s:AC}(I:Inv X pins σ H s){p q:PV}{v:V}{u:AB}(r:y4 v u)(h:P5 X.K H p v)(ok:z6 p 50=true):a4Q X.K H q u=η p q:=by
 have hx:∃p v,y4 v u/\P5 X.K H p v/\z6 p 50=true:=⟨p,v,r,h,ok⟩;unfold a4Q;rw [dif_pos hx];obtain⟨v',r',h',o'⟩:=hx.choose_spec;cases r.inj r';rw [P5.inj I _ _ o' ok h' h]
theorem a3t{pins:List (AA×Obj)}{σ:L2.St}{H:Hp}{s:AC}(I:Inv X pins σ H s){q:PV}:∀{ps:List PV} {xs:List V} {us:List AB},u5 X.K H ps xs->y0 xs us->K6 ps 50=true->us.any (a4Q X.K H q)=ps.any λp=>η p q
 |[],_,_,r,v,_=>by cases r;cases v;rfl
 |p::ps,_,_,⟨x,r,e,h,t⟩,v,ok=>by
  simp only [K6,χ] at ok;subst e;cases v with
  |cons a b=>rw [List.any_cons,List.any_cons,b49 I a h ok.1,a3t I t b ok.2]
theorem b5E{H:Hp}:∀{ps:List PV} {xs:List V} {us:List AB} {u:AB},u5 X.K H ps xs->y0 xs us->u∈us->∃p x,p∈ps/\y4 x u/\P5 X.K H p x
 |[],_,_,_,r,v,h=>by cases r;cases v;cases h
 |p::ps,_,_,u,⟨x,r,e,hp,t⟩,v,h=>by
  subst e;cases v with
  |cons a b=>
   rcases Ah.mp h with rfl|h
   ·exact⟨p,x,AZ,a,hp⟩
   ·obtain⟨p',x',h1,h2,h3⟩:=b5E t b h;exact⟨p',x',Af _ h1,h2,h3⟩
def PyData.items?:PV->Υ (List PV)
 | .list ps=>ξ ps
 | .tuple ps=>ξ ps
 |_=>ζ
def gIn(neg:Bool)(x y:g0):Υ g0:=match PyData.items? y.rd with
 |some ps=>if z6 x.rd 50=true/\K6 ps 50=true then ξ (.v (.bool (if neg then !(ps.any λp=>η p x.rd) else ps.any λp=>η p x.rd))) else ζ
 |none=>ζ
theorem a6f{pins:List (AA×Obj)}{σ:L2.St}{H:Hp}{s:AC}(I:Inv X pins σ H s)(hu:X.A.units+64<cLine){q:PV}{ps:List PV}{x:V}{xs:List V}{v:AB}{us:List AB}(hq:z6 q 50=true)(hp:K6 ps 50=true)
 (rq:P5 X.K H q x) (rx:y4 x v) (r:u5 X.K H ps xs) (rv:y0 xs us):∀y,y∈us.toArray->SeqAt.EqAt X.A.in1 s y v (a4Q X.K H q y):=by
 intro y hy
 have hy':y∈us:=by simpa using hy
 obtain⟨p,z,h1,h2,h3⟩:=b5E r rv hy'
 rw [b49 I h2 h3 (Z5 hp h1)]
 exact(b32 I 50 X.A.in1 p q z x y v (by rw [b0v];lia) (Z5 hp h1) hq h3 rq h2 rx).eq
theorem W0{F H:Hp}{v:V}{r:g0}{ps:List PV}(s0:u3 F H)(h:R0 X.K F H v r)(e:PyData.items? r.rd=ξ ps):∃a xs,v= .ref a/\(Y7 X.K H a xs\/SqT X.K H a xs)/\u5 X.K F ps xs:=by
 cases r with
 |v p=>
  cases p with
  |list qs=>cases e;obtain⟨a,xs,rfl,hq,r⟩:=h;exact⟨a,xs,rfl,.inl (B8 s0 hq),r⟩
  |tuple qs=>cases e;obtain⟨a,xs,rfl,hq,r⟩:=h;exact⟨a,xs,rfl,.inr (E5 s0 hq.sq),r⟩
  |_=>cases e
 |ow c=>cases c<;>cases e;obtain⟨a,xs,rfl,_,hq,r⟩:=h;exact⟨a,xs,rfl,.inl (Y7.of hq),r⟩
 |bo c=>cases c<;>cases e;obtain⟨a,xs,rfl,_,hq,r⟩:=h;exact⟨a,xs,rfl,.inl (Y7.of hq),r⟩
theorem c3o(hu:X.A.units+64<cLine):OpM X (compareOp .In) (gIn false):=by
 ext d
 unfold gIn at h3;split at h3
 ·rename_i ps e;split at h3
  ·ext bh
   obtain⟨a,xs,rfl,hq,r⟩:=W0 s0 h2 e;cases ry;have rH:=u5.mono s0 _ r;rcases hq with hq|hq
   ·obtain⟨its,rv,pl,hz⟩:=I.list hq;refine SeqAt.in_listAt (a4Q X.K H ra.rd) pl.isList (a6f I hu c.1 c.2 (h1.rd s0) rx rH rv) ⟨.bl _,H,I,rfl, ?_⟩
    ext o
    ext ap
   ·obtain⟨its,rv,pl,hz⟩:=I.tuple hq;refine SeqAt.in_tupleAt (a4Q X.K H ra.rd) pl (a6f I hu c.1 c.2 (h1.rd s0) rx rH rv) ⟨.bl _,H,I,rfl, ?_⟩
    ext o
    ext ap
  ·cases h3
 ·cases h3
theorem b6K(hu:X.A.units+64<cLine):OpM X (compareOp .NotIn) (gIn true):=by
 ext d
 unfold gIn at h3;split at h3
 ·rename_i ps e;split at h3
  ·ext bh
   obtain⟨a,xs,rfl,hq,r⟩:=W0 s0 h2 e;cases ry;have rH:=u5.mono s0 _ r;rcases hq with hq|hq
   ·obtain⟨its,rv,pl,hz⟩:=I.list hq;refine SeqAt.notIn_listAt (a4Q X.K H ra.rd) pl.isList (a6f I hu c.1 c.2 (h1.rd s0) rx rH rv) ⟨.bl _,H,I,rfl, ?_⟩
    ext o
    ext ap
   ·obtain⟨its,rv,pl,hz⟩:=I.tuple hq;refine SeqAt.notIn_tupleAt (a4Q X.K H ra.rd) pl (a6f I hu c.1 c.2 (h1.rd s0) rx rH rv) ⟨.bl _,H,I,rfl, ?_⟩
    ext o
    ext ap
  ·cases h3
 ·cases h3
def c2L(neg:Bool)(x y:g0):Υ g0:=match y with
 | .v .none=>(match x.rd with
   | .none=>ξ (.v (.bool (!neg)))
   |_=>ξ (.v (.bool neg)))
 |_=>ζ
def PyData.isNone:PV->Bool
 | .none=>true
 |_=>false
theorem c1g{K:AE}{H:Hp}{p:PV}{v:V}(h:P5 K H p v):decide (v=V.non)=PyData.isNone p:=by
 cases p with
 |none=>cases h;rfl
 |bool _=>cases h;rfl
 |int _=>cases h;rfl
 |str _=>cases h;rfl
 |list _=>obtain⟨_,_,rfl,_⟩:=h;rfl
 |tuple _=>obtain⟨_,_,rfl,_⟩:=h;rfl
 |dict _=>
  rcases h with⟨_,_,rfl,_⟩|⟨_,_,rfl,_⟩|⟨_,_,_,h⟩|⟨_,_,_,h,_⟩
  ·rfl
  ·rfl
  ·obtain⟨_,rfl⟩:=h.ref;rfl
  ·obtain⟨_,rfl⟩:=h.ref;rfl
theorem c00:OpM X (compareOp .Is) (c2L false):=
 a69 c3h λF H x y rx ry rz s0 h1 h2 h3 Q k=>by
  unfold c2L at h3;split at h3
  ·cases h2;have e:=c1g (h1.rd s0);refine⟨rfl, ?_⟩;rw [e];cases hp:rx.rd<;>rw [hp] at h3<;>cases h3<;>exact k _ F H (B5.here s0 rfl)
  ·cases h3
def a63(m:M):M:=λρ=>(m ρ).bind λr=>match r with
 | .v (.int i)=>ξ (.v (.int (-i)))
 |_=>ζ
theorem a3K{a:AF}{ma:M}{pos:Pos}(ha:EE X a ma):EE X (.UnaryOp .USub a pos) (a63 ma):=
 B1 (c4D c3T ha) λσ H Q h0=>z9 h0 λF ρ r he hm k=>by
  obtain⟨rx,e1,hm⟩:=bind_some hm;refine⟨F,ρ,rx,he,e1,λv F1 H1 o1=> ?_⟩;split at hm
  ·cases hm;exact⟨_,o1.rep,k _ F1 H1 (B5.trans o1.x (B5.here o1.x.fh rfl))⟩
  ·cases hm
def o9(x y:g0):Υ g0:=match y with
 | .v (.int i)=>(match x.rd with
   | .str z=>if z.length<=AN then(atI z.cps.toList i).map λc=> .v (.str ⟨#[c]⟩) else ζ
   |p=>match PyData.items? p with
    |some ps=>(atI ps i).map .v
    |none=>ζ)
 |_=>ζ
theorem u5.atI{K:AE}{H:Hp}{ps:List PV}{xs:List V}{i:Int}{p:PV}(r:u5 K H ps xs)(e:L2.atI ps i=ξ p):∃v,L2.atI xs i=ξ v/\P5 K H p v:=by
 unfold L2.atI at e ⊢;rw [r.length];obtain⟨j,e1,e2⟩:=bind_some e;rw [e1];exact r.get e2
theorem ixm:IxR X (rM2 X.K o9):=by
 ext aw
 obtain⟨F,ra,rb,rz,s0,h1,h2,h3,k⟩:=h;unfold o9 at h3;split at h3
 ·rename_i i;cases h2;split at h3
  ·rename_i z ez;split at h3
   ·rename_i c;have rr:=h1.rd s0;rw [ez] at rr;cases rr;cases ea:L2.atI z.cps.toList i with
    |none=>rw [ea] at h3;cases h3
    |some ch=>
     rw [ea] at h3;cases h3;exact c2U value slice pins s σ H _ _ v u Q I rx ry ⟨z,i,ch,rfl,rfl,c,ea,k _ F H (B5.here s0 rfl)⟩ hs
   ·cases h3
  ·split at h3
   ·rename_i ps e;cases ea:L2.atI ps i with
    |none=>rw [ea] at h3;cases h3
    |some p=>
     rw [ea] at h3;cases h3;obtain⟨a,xs,rfl,hq,r⟩:=W0 s0 h1 e;obtain⟨z,ez,rp⟩:=r.atI ea;rcases hq with hq|hq
     ·exact c0z value slice pins s σ H _ _ v u Q I rx ry ⟨a,xs,i,z,rfl,rfl,hq,ez,k _ F H (B5.here s0 rp)⟩ hs
     ·exact c2V value slice pins s σ H _ _ v u Q I rx ry ⟨a,xs,i,z,rfl,rfl,hq,ez,k _ F H (B5.here s0 rp)⟩ hs
   ·cases h3
 ·cases h3
theorem i6{a b:AF}{ma mb:M}{pos:Pos}(ha:EE X a ma)(hb:EE X b mb)(hs:b42 b:=by intro _ _;rfl):EE X (.Subscript a b pos) (m2 o9 ma mb):=
 B1 (c4B ixm ha hb hs) λ_ _ _ h=>b1V h
abbrev MA:=b9->Υ (List PV)
def tMA(K:AE)(m:MA):TA:=λσ H Q=>∃F ρ ps,V6 K F H σ ρ/\m ρ=ξ ps/\∀vs F' H',Ext F H F' H'->u5 K F' ps vs->Q vs H'
abbrev EA(X:Cx)(es:List AF)(m:MA):Prop:=PA X es (tMA X.K m)
def b8:MA:=λ_=>ξ []
def a8(m:M)(r:MA):MA:=λρ=>((m ρ).bind g0.toVal).bind λp=>(r ρ).bind λps=>ξ (p::ps)
theorem c7:EA X [] b8:=b82 S5 λσ H Q h0=>z9 h0 λF ρ ps he hm k=>by
 cases hm;exact k [] F H (Ext.refl he.fh) rfl
theorem a9{e:AF}{es:List AF}{m:M}{r:MA}(ha:EE X e m)(hr:EA X es r)(hs:Ψ e es X.env:=by rfl):EA X (e::es) (a8 m r):=
 b82 (z7 ha hr hs) λσ H Q h0=>z9 h0 λF ρ ps he hm k=>by
  obtain⟨p,e1,hm⟩:=bind_some hm;obtain⟨r1,e1,e2⟩:=bind_some e1;obtain⟨qs,e3,hm⟩:=bind_some hm;cases hm;refine⟨F,ρ,r1,he,e1,λv F1 H1 o1=> ?_⟩;obtain⟨F2,o2⟩:=o1.toVal e2;exact⟨F2,ρ,qs,he.ext o2.x,e3,λvs F3 H3 x3 rl=>k _ F3 H3 (o2.x.trans x3) ⟨v,vs,rfl,P5.mono x3.f _ o2.rep,rl⟩⟩
def C3(m:MA):M:=λρ=>(m ρ).bind λps=>if ps.length<=AN then ξ (.v (.tuple ps)) else ζ
def B4(m:MA):M:=λρ=>(m ρ).bind λps=>if ps.length<=AN then ξ (.own ps) else ζ
theorem w6{es:List AF}{m:MA}{x1:Nat}{pos:Pos}(h:EA X es m):EE X (.Tuple es x1 pos) (C3 m):=
 B1 (b88 h) λσ H Q h0=>z9 h0 λF ρ r he hm k=>by
  obtain⟨ps,e1,hm⟩:=bind_some hm;split at hm
  ·rename_i c;cases hm;exact⟨F,ρ,ps,he,e1,λvs F1 H1 x rl=>⟨by rw [rl.length];exact c,λp hp=>k _ _ _ (B5.trans x (B5.tup x.fh hp rl))⟩⟩
  ·cases hm
theorem y8{es:List AF}{m:MA}{pos:Pos}(h:EA X es m):EE X (.List es pos) (B4 m):=
 B1 (c3t h) λσ H Q h0=>z9 h0 λF ρ r he hm k=>by
  obtain⟨ps,e1,hm⟩:=bind_some hm;split at hm
  ·rename_i c;cases hm;exact⟨F,ρ,ps,he,e1,λvs F1 H1 x rl=>⟨by rw [rl.length];exact c,λp hp=>k _ _ _ (B5.trans x (B5.lst x.fh hp rl))⟩⟩
  ·cases hm
abbrev Λ:=List PV->Υ g0
def spP(K:AE)(n:Nat)(g:Λ):Sp:=λvs H Q _=>∃F ps r,u3 F H/\u5 K F ps vs/\ps.length=n/\g ps=ξ r/\∀v F' H',B5 K F H F' H' v r->Q v H'
def i7(g:Λ)(m:MA):M:=λρ=>(m ρ).bind g
theorem b95{k n:Nat}{f:AA}{fd:FuncData}{ps:List Str}{g:Λ}{x:Str}{p pos:Pos}{e:AF}{es:List AF}{m:MA}
 (G:P4 X.prog X.w X.K X.mg X.base CX0 k f fd ps (spP X.K n g)) (hr:G3 k X.A) (hg:Gl X x) (hm:X.mg x=ξ (.ref f)) (hk:PySem.W.keepIn X.K (.ref f)=true) (hb:V5 X.K fd ps []) (hn:∀ρ ps,m ρ=ξ ps->ps.length=n) (ha:EA X (e::es) m)
 (hdb:Δ x:=by decide) (he:Ψ e es X.env:=by rfl) (hpl:Φ₁ pos es X.env:=by rfl):
 EE X (.Call (.Name x p) (e::es) [] pos) (i7 g m):=
 B1 (b5K G hr hg hm hk hb .nil b3f ha hdb he hpl) λσ H Q h0=>z9 h0 λF ρ r he hm k=>by
  obtain⟨qs,e1,hm⟩:=bind_some hm;refine⟨F,ρ,qs,he,e1,λvs F1 H1 x rl=> ?_⟩;show spP X.K n g (vs++[]) H1 Q E0;rw [Al];exact⟨F1,qs,r,x.fh,rl,hn _ _ e1,hm,λv F2 H2 o=>k v F2 H2 (B5.trans x o)⟩
theorem b7M{k:Nat}{f:AA}{fd:FuncData}{ps:List Str}{g:Λ}{x:Str}{p pos:Pos}
 (G:P4 X.prog X.w X.K X.mg X.base CX0 k f fd ps (spP X.K 0 g)) (hr:G3 k X.A) (hg:Gl X x) (hm:X.mg x=ξ (.ref f)) (hk:PySem.W.keepIn X.K (.ref f)=true) (hb:V5 X.K fd ps [])
 (hdb:Δ x:=by decide):
 EE X (.Call (.Name x p) [] [] pos) (λ_=>g []):=
 B1 (b83 G hr hg hm hk hb .nil b3f hdb) λσ H Q h0=>z9 h0 λF ρ r he hm k=>by
  exact⟨F,[],r,he.fh,rfl,rfl,hm,k⟩
theorem f9:∀ρ ps,b8 ρ=ξ ps->ps.length=0:=λ_ _ h=>by cases h;rfl
theorem b4{m:M}{r:MA}{n:Nat}(h:∀ρ ps,r ρ=ξ ps->ps.length=n):∀ρ ps,a8 m r ρ=ξ ps->ps.length=n+1:=λρ ps e=>by
 obtain⟨p,e1,e⟩:=bind_some e;obtain⟨qs,e3,e⟩:=bind_some e;cases e;rw [AO,h ρ qs e3]
end
mutual
def R1(K:AE):Nat->AB->Υ PV
 |0,_=>ζ
 |_+1,.none=>ξ .none
 |_+1,.bool b=>ξ (.bool b)
 |_+1,.int i _=>ξ (.int i)
 |_+1,.str x _=>ξ (.str x)
 |n+1,.ref a=>match K.lookup a with
  |some ⟨.type "tuple",_,.seq its _,_⟩=>if its.size<=1000 then(a50 K n its.toList).map .tuple else ζ
  |some ⟨.type "list",ζ,.seq its _,_⟩=>if its.size<=1000 then(a50 K n its.toList).map .list else ζ
  |_=>ζ
 |_+1,_=>ζ
def a50(K:AE):Nat->List AB->Υ (List PV)
 |0,_=>ζ
 |_+1,[]=>ξ []
 |n+1,u::us=>(R1 K n u).bind λp=>(a50 K n us).bind λps=>ξ (p::ps)
end
theorem a9y{n:Nat}(h:n<=1000):n<=AN:=BH (b64 h)
theorem b7p(K:AE):∀(n:Nat),(∀(u:AB) (p:PV),R1 K n u=ξ p->∃v,y4 v u/\∀H,P5 K H p v)/\(∀(us:List AB) (ps:List PV),a50 K n us=ξ ps->∃vs,y0 vs us/\∀H,u5 K H ps vs):=by
 intro n
 induction n with
 |zero=>exact⟨λu p h=>by simp [R1] at h,λu p h=>by simp [a50] at h⟩
 |succ n ih=>
  constructor
  ·intro u p h;cases u with
   |none=>simp only [R1] at h;cases h;exact⟨.non,rfl,λ_=>rfl⟩
   |bool b=>simp only [R1] at h;cases h;exact⟨.bl b,rfl,λ_=>rfl⟩
   |int i t=>simp only [R1] at h;cases h;exact⟨.int i,⟨t,rfl⟩,λ_=>rfl⟩
   |str x t=>simp only [R1] at h;cases h;exact⟨.str x,⟨t,rfl⟩,λ_=>rfl⟩
   |ref a=>
    simp only [R1] at h;split at h
    ·rename_i d its m sl e;split at h
     ·rename_i c;cases q:a50 K n its.toList with
      |none=>rw [q] at h;cases h
      |some ps=>
       rw [q] at h;cases h;obtain⟨vs,h1,h2⟩:=ih.2 _ _ q;exact⟨.ref a,rfl,λH=>⟨a,vs,rfl,.inr ⟨_,its,m,e,rfl,rfl,a9y c,h1⟩,h2 H⟩⟩
     ·cases h
    ·rename_i its m sl e;split at h
     ·rename_i c;cases q:a50 K n its.toList with
      |none=>rw [q] at h;cases h
      |some ps=>
       rw [q] at h;cases h;obtain⟨vs,h1,h2⟩:=ih.2 _ _ q;exact⟨.ref a,rfl,λH=>⟨a,vs,rfl,.inr ⟨_,its,m,e,rfl,rfl,rfl,a9y c,h1⟩,h2 H⟩⟩
     ·cases h
    ·cases h
   |_=>simp [R1] at h
  ·intro us ps h;cases us with
   |nil=>simp only [a50] at h;cases h;exact⟨[],.nil,λ_=>rfl⟩
   |cons u us=>
    simp only [a50] at h;obtain⟨p,e1,h⟩:=bind_some h;obtain⟨qs,e2,h⟩:=bind_some h;cases h;obtain⟨v,r1,r2⟩:=ih.1 _ _ e1;obtain⟨vs,r3,r4⟩:=ih.2 _ _ e2;exact⟨v::vs,.cons r1 r3,λH=>⟨v,vs,rfl,r2 H,r4 H⟩⟩
section
variable {X:Cx}
theorem U4{x:Str}{u:AB}{p:PV}{pos:Pos}{n:Nat}(hg:Gl X x)(hm:X.mg x=ξ u)(ha:R1 X.K n u=ξ p)(hd:Δ x:=by decide):EE X (.Name x pos) (mC p):=by
 obtain⟨v,r,h⟩:=(b7p X.K n).1 u p ha;exact a3I (K7 hg hm r hd) h
def c4p:PV->Υ Q8
 | .int i=>ξ (.inl i)
 | .str x=>ξ (.inr x)
 |_=>ζ
def a8O:List PV->Υ (List Q8)
 |[]=>ξ []
 |p::ps=>(c4p p).bind λk=>(a8O ps).bind λks=>ξ (k::ks)
abbrev MT:=b9->Υ Bool
def tMT(K:AE)(c:MT):TT:=λσ H Q=>∃F ρ b,V6 K F H σ ρ/\c ρ=ξ b/\∀F' H',Ext F H F' H'->Q b H'
abbrev ET(X:Cx)(e:AF)(c:MT):Prop:=PT X e (tMT X.K c)
abbrev EW(X:Cx)(e:AF)(c:MT):Prop:=PW X e (tMT X.K c)
def a93:g0->Υ Bool
 | .v (.bool b)=>ξ b
 |_=>ζ
def tru(r:g0):Υ Bool:=match r.rd with
 | .none=>ξ false
 | .bool b=>ξ b
 | .int i=>ξ (i !=0)
 | .str z=>if z.length<=AN then ξ ((z.length:Int) !=0) else ζ
 | .list ps=>ξ (!ps.isEmpty)
 | .tuple ps=>ξ (!ps.isEmpty)
 | .dict _=>ζ
def V2(m:M):MT:=λρ=>(m ρ).bind tru
def x9(m:M):MT:=λρ=>(m ρ).bind a93
theorem u5.empty{K:AE}{H:Hp}{ps:List PV}{vs:List V}(r:u5 K H ps vs):vs.isEmpty=ps.isEmpty:=by
 cases ps with
 |nil=>cases r;rfl
 |cons p ps=>obtain⟨_,_,e,_⟩:=r;subst e;rfl
theorem c1y{H:Hp}{r:g0}{v:V}{b:Bool}(h:P5 X.K H r.rd v)(e:tru r=ξ b):c2d X.K v H b:=by
 unfold tru at e;cases hp:r.rd with
 |none=>rw [hp] at h e;cases h;cases e;exact rfl
 |bool k=>rw [hp] at h e;cases h;cases e;exact rfl
 |int i=>rw [hp] at h e;cases h;cases e;exact rfl
 |str z=>
  rw [hp] at h e;cases h;dsimp only at e;split at e
  ·rename_i c;cases e;exact⟨c,rfl⟩
  ·cases e
 |list ps=>rw [hp] at h e;obtain⟨a,xs,rfl,hq,rl⟩:=h;cases e;exact .inl ⟨xs,hq,by rw [rl.empty]⟩
 |tuple ps=>rw [hp] at h e;obtain⟨a,xs,rfl,hq,rl⟩:=h;cases e;exact .inr (.inl ⟨xs,hq.sq,by rw [rl.empty]⟩)
 |dict _=>rw [hp] at e;cases e
theorem u7{e:AF}{m:M}(h:EE X e m)(he:∀whole,isTrue e X.env whole=(do let v<-whole;standAt e.pos;holding [v] (truthy v)):=by intro _;rfl):ET X e (V2 m):=
 b1O (b9k h he) λσ H Q h0=>z9 h0 λF ρ b h1 h2 k=>by
  obtain⟨r,e1,e2⟩:=bind_some h2;exact⟨F,ρ,r,h1,e1,λv F1 H1 o=>⟨b,c1y (o.rep.rd o.x.fh) e2,k F1 H1 o.x⟩⟩
theorem a39{K:AE}{F H:Hp}{r:g0}{v:V}{b:Bool}(h:R0 K F H v r)(e:a93 r=ξ b):v= .bl b:=by
 unfold a93 at e;split at e
 ·cases e;exact h
 ·cases e
theorem c2z{a b:AF}{ma mb:M}{pos:Pos}{op:CmpOp}{g:g0->g0->Υ g0}(ho:OpM X (compareOp op) g)(ha:EE X a ma)(hb:EE X b mb)(hm:behindInMarks op b=false):ET X (.Compare a [op] [b] pos) (x9 (m2 g ma mb)):=
 b1O (c1d ho ha hb hm) λσ H Q h0=>z9 h0 λF ρ k h1 h2 q=>by
  obtain⟨r,e1,e2⟩:=bind_some h2;exact b1V ⟨F,ρ,r,h1,e1,λv F1 H1 o=>⟨k,a39 o.rep e2,q F1 H1 o.x⟩⟩
def A4(c:MT):MT:=λρ=>(c ρ).map not
theorem y9{a:AF}{c:MT}{pos:Pos}(ha:ET X a c):ET X (.UnaryOp .Not a pos) (A4 c):=
 b1O (c3C ha) λσ H Q h0=>z9 h0 λF ρ k h1 h2 q=>by
  unfold A4 at h2;cases e:c ρ with
  |none=>rw [e] at h2;cases h2
  |some b=>rw [e] at h2;cases h2;exact⟨F,ρ,b,h1,e,q⟩
def Y9(c d:MT):MT:=λρ=>(c ρ).bind λb=>if b=true then d ρ else ξ false
def K5(c d:MT):MT:=λρ=>(c ρ).bind λb=>if b=true then ξ true else d ρ
theorem a4D{a:AF}{c:MT}{pos:Pos}(ha:ET X a c):EW X (.BoolOp .And [a] pos) c:=c1e ha
theorem B3{a:AF}{c:MT}{pos:Pos}(ha:ET X a c):EW X (.BoolOp .Or [a] pos) c:=c3E ha
theorem a6Q{a b:AF}{rest:List AF}{c d:MT}{pos:Pos}(ha:ET X a c)(hb:EW X (.BoolOp .And (b::rest) pos) d):EW X (.BoolOp .And (a::b::rest) pos) (Y9 c d):=
 b9l (c3D ha hb) λσ H Q h0=>z9 h0 λF ρ k h1 h2 q=>by
  obtain⟨b,e1,e2⟩:=bind_some h2;refine⟨F,ρ,b,h1,e1,λF1 H1 x=> ?_⟩;cases b with
  |true=>exact b2M ⟨F1,ρ,k,h1.ext x,e2,λF2 H2 y=>q F2 H2 (x.trans y)⟩
  |false=>cases e2;exact b2L (q F1 H1 x)
theorem E8{a b:AF}{rest:List AF}{c d:MT}{pos:Pos}(ha:ET X a c)(hb:EW X (.BoolOp .Or (b::rest) pos) d):EW X (.BoolOp .Or (a::b::rest) pos) (K5 c d):=
 b9l (c4F ha hb) λσ H Q h0=>z9 h0 λF ρ k h1 h2 q=>by
  obtain⟨b,e1,e2⟩:=bind_some h2;refine⟨F,ρ,b,h1,e1,λF1 H1 x=> ?_⟩;cases b with
  |false=>exact b2L ⟨F1,ρ,k,h1.ext x,e2,λF2 H2 y=>q F2 H2 (x.trans y)⟩
  |true=>cases e2;exact b2M (q F1 H1 x)
def a61(m n:M):M:=λρ=>(m ρ).bind λr=>(a93 r).bind λb=>if b=true then n ρ else ξ (.v (.bool false))
def b8C(m:M):M:=λρ=>(m ρ).bind λr=>(a93 r).bind λb=>ξ (.v (.bool (!b)))
theorem a6P{op:BoolOp}{a:AF}{m:M}{pos:Pos}(h:EE X a m):EE X (.BoolOp op [a] pos) m:=c3w h
theorem a6O{a b:AF}{rest:List AF}{m n:M}{pos:Pos}(ha:EE X a m)(hb:EE X (.BoolOp .And (b::rest) pos) n):EE X (.BoolOp .And (a::b::rest) pos) (a61 m n):=
 B1 (c3q ha hb) λσ H Q h0=>z9 h0 λF ρ r h1 h2 q=>by
  obtain⟨r1,e1,h2⟩:=bind_some h2;obtain⟨b,e2,h2⟩:=bind_some h2;refine⟨F,ρ,r1,h1,e1,λv F1 H1 o=>⟨b,a39 o.rep e2, ?_⟩⟩;cases b with
  |true=>exact b2M ⟨F1,ρ,r,h1.ext o.x,h2,λw F2 H2 y=>q w F2 H2 (B5.trans o.x y)⟩
  |false=>cases h2;exact b2L (q _ F1 H1 (B5.val o.x rfl))
theorem c2v{a:AF}{m:M}{pos:Pos}(ha:EE X a m):EE X (.UnaryOp .Not a pos) (b8C m):=
 B1 (c3v ha) λσ H Q h0=>z9 h0 λF ρ r h1 h2 q=>by
  obtain⟨r1,e1,h2⟩:=bind_some h2;obtain⟨b,e2,h2⟩:=bind_some h2;cases h2;exact⟨F,ρ,r1,h1,e1,λv F1 H1 o=>⟨b,a39 o.rep e2,q _ F1 H1 (B5.val o.x rfl)⟩⟩
def V1(g g':g0->g0->Υ g0)(ma mb mc:M):M:=λρ=>(ma ρ).bind λx=>(mb ρ).bind λy=>(g x y).bind λz=>(a93 z).bind λb=>if b=true then(mc ρ).bind λw=>g' y w else ξ (.v (.bool false))
theorem b2p{ma mb mc:M}{g g':g0->g0->Υ g0}{σ:L2.St}{H:Hp}{Q:VK}(h:tM X.K (V1 g g' ma mb mc) σ H Q):b4V (rM2 X.K g) (rM2 X.K g') (tM X.K ma) (tM X.K mb) (tM X.K mc) σ H Q:=by
 ext ac
 obtain⟨rz,e3,hm⟩:=bind_some hm;obtain⟨b,e4,hm⟩:=bind_some hm;refine⟨F,ρ,rx,he,e1,λv F1 H1 o1=>⟨F1,ρ,ry,he.ext o1.x,e2,λu F2 H2 o2=>⟨F2,rx,ry,rz,o2.x.fh,o1.rep.ext o2.x,o2.rep,e3,λz F3 H3 o3=>⟨b,a39 o3.rep e4, ?_⟩⟩⟩⟩;have x3:=(o1.x.trans o2.x).trans o3.x;cases b with
 |true=>
  rw [if_pos rfl] at hm;obtain⟨rw',e5,hm⟩:=bind_some hm;exact b2M ⟨F3,ρ,rw',he.ext x3,e5,λw F4 H4 o4=>⟨F4,ry,rw',r,o4.x.fh,(o2.rep.ext o3.x).ext o4.x,o4.rep,hm,λz F5 H5 o5=>k z F5 H5 (B5.trans (x3.trans o4.x) o5)⟩⟩
 |false=>
  rw [if_neg Ao] at hm;cases hm;exact b2L (k _ F3 H3 (B5.val x3 rfl))
theorem b2s{a b c:AF}{ma mb mc:M}{pos:Pos}{op op':CmpOp}{g g':g0->g0->Υ g0}(ho:OpM X (compareOp op) g)(ho':OpM X (compareOp op') g')(ha:EE X a ma)(hb:EE X b mb)(hc:EE X c mc)
 (hm:lastMarks [op,op'] [b,c]=false:=by with_unfolding_all rfl):EE X (.Compare a [op,op'] [b,c] pos) (V1 g g' ma mb mc):=
 B1 (b84 ho ho' ha hb hc hm) λ_ _ _ h=>b2p h
theorem a2n{a b c:AF}{ma mb mc:M}{pos:Pos}{op op':CmpOp}{g g':g0->g0->Υ g0}(ho:OpM X (compareOp op) g)(ho':OpM X (compareOp op') g')(ha:EE X a ma)(hb:EE X b mb)(hc:EE X c mc)
 (hm:lastMarks [op,op'] [b,c]=false:=by with_unfolding_all rfl):ET X (.Compare a [op,op'] [b,c] pos) (x9 (V1 g g' ma mb mc)):=
 b1O (b9j ho ho' ha hb hc hm) λσ H Q h0=>z9 h0 λF ρ k h1 h2 q=>by
  obtain⟨r,e1,e2⟩:=bind_some h2;exact b2p ⟨F,ρ,r,h1,e1,λv F1 H1 o=>⟨k,a39 o.rep e2,q F1 H1 o.x⟩⟩
end
inductive Fl where
 |nx (ρ:b9)|rt (r:g0)|bk (ρ:b9)|ct (ρ:b9)
abbrev MS:=b9->Υ Fl
structure SOk(K:AE)(F0 H0 F H:Hp)(σ:L2.St)(ρ:b9):Prop where
 x:Ext F0 H0 F H
 e:V6 K F H σ ρ
 nw:∀(i:Nat) (c:a2y) (a:AA),ρ[i]?=ξ (ξ (.ow c))->σ[i]?=ξ (ξ (.ref a))->H0 a=ζ
def Fin(K:AE)(F0 H0 F:Hp)(D:U7):Fl->Prop
 | .nx ρ=>∀σ' F' H',u3 F F'->SOk K F0 H0 F' H' σ' ρ->D.nx σ' H'
 | .rt r=>∀v F' H',B5 K F0 H0 F' H' v r->D.rt v H'
 | .bk ρ=>∀σ' F' H',u3 F F'->SOk K F0 H0 F' H' σ' ρ->D.bk σ' H'
 | .ct ρ=>∀σ' F' H',u3 F F'->SOk K F0 H0 F' H' σ' ρ->D.ct σ' H'
theorem Fin.later{K:AE}{F0 H0 F F1:Hp}{D:U7}(s:u3 F F1):∀{fl:Fl},Fin K F0 H0 F D fl->Fin K F0 H0 F1 D fl
 | .nx _,h=>λσ' F' H' s' so=>h σ' F' H' (s.trans s') so
 | .rt _,h=>h
 | .bk _,h=>λσ' F' H' s' so=>h σ' F' H' (s.trans s') so
 | .ct _,h=>λσ' F' H' s' so=>h σ' F' H' (s.trans s') so
def tMS(K:AE)(m:MS):TS:=λD σ H=>∃F0 H0 F ρ fl,SOk K F0 H0 F H σ ρ/\m ρ=ξ fl/\Fin K F0 H0 F D fl
theorem Q6{K:AE}{m:MS}{D:U7}{σ:L2.St}{H:Hp}{C:Prop}(h:tMS K m D σ H)(k:∀F0 H0 F ρ fl,SOk K F0 H0 F H σ ρ->m ρ=ξ fl->Fin K F0 H0 F D fl->C):C:=
 h.elim λa h=>h.elim λb h=>z9 h (k a b)
abbrev ES(X:Cx)(st:Stmt)(m:MS):Prop:=PS X st (tMS X.K m)
abbrev ESs(X:Cx)(st:List Stmt)(m:MS):Prop:=PSs X st (tMS X.K m)
theorem SOk.ext{K:AE}{F0 H0 F H F' H':Hp}{σ:L2.St}{ρ:b9}(s:SOk K F0 H0 F H σ ρ)(x:Ext F H F' H'):SOk K F0 H0 F' H' σ ρ:=⟨s.x.trans x,s.e.ext x,s.nw⟩
def g0.nb:g0->Bool
 | .bo _=>false
 |_=>true
theorem SOk.set{K:AE}{F0 H0 F H F' H':Hp}{σ:L2.St}{ρ:b9}{v:V}{r:g0}(s:SOk K F0 H0 F H σ ρ)(o:B5 K F H F' H' v r)(hb:r.nb=true)(i:Nat):SOk K F0 H0 F' H' (σ.set i (ξ v)) (ρ.set i (ξ r)):=by
 have s1:=s.ext o.x;have le:=s.e.len;refine⟨s1.x,⟨s1.e.fh,by simp [le],λj q e=> ?_,λj ps e=> ?_,λj k ps qs a hjk e1 e2 e3 e4=> ?_⟩,λj ps a e1 e2=> ?_⟩
 ·rw [List.getElem?_set] at e ⊢
  by_cases hij:i=j
  ·subst hij;rw [if_pos rfl] at e ⊢;rw [le];split at e
   ·rename_i c;cases e;rw [if_pos c];exact⟨v,rfl,o.rep⟩
   ·cases e
  ·rw [if_neg hij] at e ⊢;exact s1.e.at_ j q e
 ·rw [List.getElem?_set] at e
  by_cases hij:i=j
  ·subst hij;rw [if_pos rfl] at e;split at e
   ·cases e;cases hb
   ·cases e
  ·rw [if_neg hij] at e;exact s1.e.nb j ps e
 ·rw [List.getElem?_set] at e1 e2 e3 e4
  by_cases hij:i=j
  ·subst hij;rw [if_pos rfl] at e1 e3;rw [if_neg hjk] at e2 e4;split at e1
   ·cases e1;split at e3
    ·cases e3;have fr:=o.fr ps a rfl rfl;obtain⟨w,h1,rr⟩:=s.e.at_ k _ e2;obtain⟨a',xs,h2,_,h3⟩:=a3o.at_ rr;rw [e4] at h1;cases h1;cases h2;rw [fr] at h3;cases h3
    ·cases e3
   ·cases e1
  ·rw [if_neg hij] at e1 e3
   by_cases hik:i=k
   ·subst hik;rw [if_pos rfl] at e2 e4;split at e2
    ·cases e2;split at e4
     ·cases e4;have fr:=o.fr qs a rfl rfl;obtain⟨w,h1,rr⟩:=s.e.at_ j _ e1;obtain⟨a',xs,h2,_,h3⟩:=a3o.at_ rr;rw [e3] at h1;cases h1;cases h2;rw [fr] at h3;cases h3
     ·cases e4
    ·cases e2
   ·rw [if_neg hik] at e2 e4;exact s1.e.ap j k ps qs a hjk e1 e2 e3 e4
 ·rw [List.getElem?_set] at e1 e2
  by_cases hij:i=j
  ·subst hij;rw [if_pos rfl] at e1 e2;split at e1
   ·cases e1;split at e2
    ·cases e2;exact s.x.h.free (o.fr ps a rfl rfl)
    ·cases e2
   ·cases e1
  ·rw [if_neg hij] at e1 e2;exact s.nw j ps a e1 e2
section
variable {X:Cx}
def j1:MS:=λρ=>ξ (.nx ρ)
def g7(m n:MS):MS:=λρ=>(m ρ).bind λfl=>match fl with
 | .nx ρ'=>n ρ'
 |f=>ξ f
theorem g6:ESs X [] j1:=a77 a0s λD σ H h0=>Q6 h0 λF0 H0 F ρ fl so e fin=>by
 cases e;exact fin σ F H (PU.u3.refl F) so
theorem b6{st:Stmt}{rest:List Stmt}{m n:MS}(h1:ES X st m)(h2:ESs X rest n):ESs X (st::rest) (g7 m n):=
 a77 (D6 h1 h2) λD σ H h0=>Q6 h0 λF0 H0 F ρ fl so e fin=>by
  obtain⟨f1,e1,e⟩:=bind_some e;cases f1 with
  |nx ρ'=>exact⟨F0,H0,F,ρ,.nx ρ',so,e1,λσ' F' H' s so'=>⟨F0,H0,F',ρ',fl,so',e,fin.later s⟩⟩
  |rt r=>cases e;exact⟨F0,H0,F,ρ,_,so,e1,fin⟩
  |bk r=>cases e;exact⟨F0,H0,F,ρ,_,so,e1,fin⟩
  |ct r=>cases e;exact⟨F0,H0,F,ρ,_,so,e1,fin⟩
theorem d0{st:Stmt}{m:MS}(h1:ES X st m):ESs X [st] m:=b5L h1
def u4(i:Nat)(m:M):MS:=λρ=>(m ρ).bind λr=>if r.nb=true then ξ (.nx (ρ.set i (ξ r))) else ζ
theorem l0{i:Nat}{x:Str}{e:AF}{m:M}{pos pos':Pos}(hN:X.N.Nodup)(he:EE X e m)(hi:X.N[i]?=ξ x:=by rfl)(hx:Loc X.env.scope x:=by exact Or.inl rfl)(hs:swapsWith e (ξ (.Name x pos')) pos.line X.env=pure false:=by rfl)(hf:X.fn x=true\/X.env.scope.names.lookup x=ξ .local:=by first|exact .inl rfl|exact .inr rfl|assumption):
 ES X (.Assign [.Name x pos'] e pos) (u4 i m):=
 G6 (b9f hN hi hx he hs hf) λD σ H h0=>Q6 h0 λF0 H0 F ρ fl so e fin=>by
  obtain⟨r,e1,e⟩:=bind_some e;split at e
  ·rename_i c;cases e;exact⟨F,ρ,r,so.e,e1,λv F' H' o=>fin _ F' H' o.x.f (so.set o c i)⟩
  ·cases e
def j4(m:M):MS:=λρ=>(m ρ).bind λr=>if r.nb=true then ξ (.rt r) else ζ
theorem d7{e:AF}{m:M}{pos:Pos}(he:EE X e m):ES X (.Return (ξ e) pos) (j4 m):=
 G6 (b9e he) λD σ H h0=>Q6 h0 λF0 H0 F ρ fl so e fin=>by
  obtain⟨r,e1,e⟩:=bind_some e;split at e
  ·rename_i c;cases e;exact⟨F,ρ,r,so.e,e1,λv F' H' o=>fin v F' H' (B5.trans so.x o)⟩
  ·cases e
def Y4(i:Nat):MS:=λρ=>match ρ[i]? with
 |some (ξ r)=>ξ (.rt r)
 |_=>ζ
theorem a0l(i:Nat){x:Str}{p pos:Pos}(h:PE X (.Name x p) (a9A i)):ES X (.Return (ξ (.Name x p)) pos) (Y4 i):=
 G6 (b9e h) λD σ H h0=>Q6 h0 λF0 H0 F ρ fl so e fin=>by
  unfold Y4 at e;split at e
  ·rename_i r er;cases e;obtain⟨v,e1,rr⟩:=so.e.at_ i _ er;exact⟨v,e1,fin v F H ⟨so.x,rr,λps a z1 z2=>by subst z1;subst z2;exact so.nw i ps a er e1⟩⟩
  ·cases e
def n5(c:MT)(m n:MS):MS:=λρ=>(c ρ).bind λb=>if b=true then m ρ else n ρ
theorem j9{c:AF}{a b:List Stmt}{mc:MT}{m n:MS}{pos:Pos}(hc:ET X c mc)(ha:ESs X a m)(hb:ESs X b n):ES X (.If c a b pos) (n5 mc m n):=
 G6 (c13 hc ha hb) λD σ H h0=>Q6 h0 λF0 H0 F ρ fl so e fin=>by
  obtain⟨b,e1,e⟩:=bind_some e;refine⟨F,ρ,b,so.e,e1,λF1 H1 x=> ?_⟩;cases b with
  |true=>exact b2M ⟨F0,H0,F1,ρ,fl,so.ext x,e,fin.later x.f⟩
  |false=>exact b2L ⟨F0,H0,F1,ρ,fl,so.ext x,e,fin.later x.f⟩
def setAll{α:Type}:List (Υ α)->List Nat->List α->List (Υ α)
 |σ,i::is,x::xs=>setAll (σ.set i (ξ x)) is xs
 |σ,_,_=>σ
def b39:List Nat->TGs
 |[]=>c4h
 |i::is=>c1U (b2E i) (b39 is)
theorem b0s:∀{is:List Nat} {xs:List V} {σ:L2.St} {H:Hp} {Q:L2.St->Hp->Prop},xs.length=is.length->Q (setAll σ is xs) H->b39 is xs σ H Q
 |[],[],_,_,_,_,q=>⟨rfl,q⟩
 |[],_::_,_,_,_,h,_=>by cases h
 |_::_,[],_,_,_,h,_=>by cases h
 |i::is,x::xs,σ,H,Q,h,q=>⟨x,xs,rfl,b0s (is:=is) (xs:=xs) (by simpa using h) q⟩
theorem SOk.setAll{K:AE}{F0 H0 F H:Hp}:∀{is:List Nat} {xs:List V} {ps:List PV} {σ:L2.St} {ρ:b9},SOk K F0 H0 F H σ ρ->u5 K F ps xs->SOk K F0 H0 F H (PU.setAll σ is xs) (PU.setAll ρ is (ps.map .v))
 |[],xs,ps,σ,ρ,s,r=>by
  have e1:PU.setAll σ [] xs=σ:=by cases xs<;>rfl
  have e2:PU.setAll ρ [] (ps.map g0.v)=ρ:=by cases ps<;>rfl
  rw [e1,e2];exact s
 |i::is,xs,[],σ,ρ,s,r=>by cases r;exact s
 |i::is,xs,p::ps,σ,ρ,s,⟨v,t,e,rp,rl⟩=>by
  subst e;exact SOk.setAll (is:=is) (s.set (B5.here s.e.fh rp) rfl i) rl
def a1z(body:MS)(tg:PV->b9->Υ b9):List PV->b9->Υ Fl
 |[],ρ=>ξ (.nx ρ)
 |p::ps,ρ=>(tg p ρ).bind λρ1=>(body ρ1).bind λfl=>match fl with
  | .nx ρ'=>a1z body tg ps ρ'
  | .ct ρ'=>a1z body tg ps ρ'
  | .bk ρ'=>ξ (.nx ρ')
  | .rt r=>ξ (.rt r)
def u8(i:Nat):PV->b9->Υ b9:=λp ρ=>ξ (ρ.set i (ξ (.v p)))
def a1u(is:List Nat):PV->b9->Υ b9:=λp ρ=>match p with
 | .tuple ps=>if ps.length=is.length then ξ (setAll ρ is (ps.map .v)) else ζ
 |_=>ζ
def a5Z(K:AE)(g:TG)(tg:PV->b9->Υ b9):Prop:=
 ∀F0 H0 F H σ ρ ρ1 p x (Q:L2.St->Hp->Prop),SOk K F0 H0 F H σ ρ->P5 K F p x->tg p ρ=ξ ρ1->(∀σ',SOk K F0 H0 F H σ' ρ1->Q σ' H)->g x σ H Q
theorem a0f{K:AE}(i:Nat):a5Z K (b2E i) (u8 i):=λF0 H0 F H σ ρ ρ1 p x Q so r e k=>by
 cases e;exact k _ (so.set (B5.here so.e.fh r) rfl i)
theorem a9B{K:AE}(is:List Nat):a5Z K (c4i K is.length (b39 is)) (a1u is):=λF0 H0 F H σ ρ ρ1 p x Q so r e k=>by
 unfold a1u at e;split at e
 ·split at e
  ·rename_i c;cases e;obtain⟨a,xs,rfl,hq,rl⟩:=r;have hl:xs.length=is.length:=by rw [rl.length];exact c
   exact⟨a,xs,rfl,E5 so.e.fh hq.sq,hl,b0s hl (k _ (so.setAll rl))⟩
  ·cases e
 ·cases e
theorem b0n{body:MS}{tg:PV->b9->Υ b9}{ps:List PV}{p:PV}{ρ:b9}{fl:Fl}(h:a1z body tg (p::ps) ρ=ξ fl):∃ρ1 f1,tg p ρ=ξ ρ1/\body ρ1=ξ f1/\(match f1 with
 | .nx ρ'=>a1z body tg ps ρ'
 | .ct ρ'=>a1z body tg ps ρ'
 | .bk ρ'=>ξ (.nx ρ')
 | .rt r=>ξ (.rt r))=ξ fl:=by
 unfold a1z at h
 obtain⟨ρ1,e1,h⟩:=bind_some h
 obtain⟨f1,e2,h⟩:=bind_some h
 exact⟨ρ1,f1,e1,e2,h⟩
def PvL(K:AE)(F0 H0 F1:Hp)(body:MS)(tg:PV->b9->Υ b9)(ps:List PV)(fl:Fl)(k:Nat)(σ:L2.St)(H:Hp):Prop:=
 ∃F ρ,u3 F1 F/\SOk K F0 H0 F H σ ρ/\a1z body tg (ps.drop k) ρ=ξ fl
theorem a4H{K:AE}{F0 H0 F1:Hp}{body:MS}{tg:PV->b9->Υ b9}{g:TG}{ps:List PV}{fl:Fl}{D:U7}{k:Nat}{p:PV}{x:V}{σ:L2.St}{H:Hp}(T:a5Z K g tg)(fin:Fin K F0 H0 F1 D fl)(ep:ps[k]?=ξ p)
 (hp:PvL K F0 H0 F1 body tg ps fl k σ H) (rx:∀F,u3 F1 F->P5 K F p x):
 g x σ H λσ2 H2=>tMS K body {D with nx:=PvL K F0 H0 F1 body tg ps fl (k+1),ct:=PvL K F0 H0 F1 body tg ps fl (k+1),bk:=D.nx} σ2 H2:=by
 obtain⟨F,ρ,s,so,e⟩:=hp
 have hk:k<ps.length:=(Au.mp ep).1
 have hd:ps.drop k=p::ps.drop (k+1):=by
  rw [List.drop_eq_getElem_cons hk]
  congr 1
  exact(Au.mp ep).2
 rw [hd] at e
 obtain⟨ρ1,f1,e1,e2,e3⟩:=b0n e
 refine T F0 H0 F H σ ρ ρ1 p x _ so (rx F s) e1 λσ' so'=>⟨F0,H0,F,ρ1,f1,so',e2, ?_⟩
 cases f1 with
 |nx ρ'=>exact λσ2 F2 H2 s2 so2=>⟨F2,ρ',s.trans s2,so2,e3⟩
 |ct ρ'=>exact λσ2 F2 H2 s2 so2=>⟨F2,ρ',s.trans s2,so2,e3⟩
 |bk ρ'=>cases e3;exact λσ2 F2 H2 s2 so2=>fin σ2 F2 H2 (s.trans s2) so2
 |rt r=>cases e3;exact fin
theorem a2r{K:AE}{F0 H0 F1:Hp}{body:MS}{tg:PV->b9->Υ b9}{ps:List PV}{fl:Fl}{D:U7}{σ:L2.St}{H:Hp}(fin:Fin K F0 H0 F1 D fl)
 (hp:PvL K F0 H0 F1 body tg ps fl ps.length σ H):D.nx σ H:=by
 obtain⟨F,ρ,s,so,e⟩:=hp
 rw [List.drop_length] at e
 cases e
 exact fin σ F H s so
abbrev MI:=b9->Υ (List PV)
def b1s(m:M):MI:=λρ=>((m ρ).bind g0.toVal).bind PyData.items?
def c46(K:AE)(tl:TE):TI:=λσ H R=>tl σ H λx H1=>∃a,x= .ref a/\(((∃xs,Y7 K H1 a xs)/\R (Itl K a) H1)\/((∃xs,SqT K H1 a xs)/\R (Itt K a) H1))
theorem b89{tg l:AF}{tl:TE}(hl:PE X l tl):PI X tg l (c46 X.K tl):=by
 intro pins s σ H R I h;refine M9 (hl pins s σ H _ I h) λv s1 h0=>w8 h0 λx H1 I1 r1 q1=> ?_;obtain⟨a,e,q⟩:=q1;subst e;cases r1;rcases q with⟨⟨xs,hq⟩,q⟩|⟨⟨xs,hq⟩,q⟩
 ·obtain⟨its,rv,p,hz⟩:=I1.list hq;refine wpAny_pyIter_list p.isList ?_;refine⟨s1.heap.objs.size,[s1.heap.objs.size],_,_,H1,rfl,I1.kept (t':=s1.toks) λb o e=>AS _ e,b68 a _,⟨_,Am _ rfl,rfl,rfl⟩,λb hb=> ?_,q⟩;have e:b=s1.heap.objs.size:=by simpa using hb
  subst e;exact I1.fpOk (AV _) (I1.hok.fresh (AV _))
 ·obtain⟨its,rv,p,hz⟩:=I1.tuple hq;refine wpAny_pyIter_tuple (show s1.heap.IsTuple a its.toArray from p) ?_;refine⟨s1.heap.objs.size,[s1.heap.objs.size],_,_,H1,rfl,I1.kept (t':=s1.toks) λb o e=>AS _ e,b4Y a _,⟨_,Am _ rfl,rfl,rfl⟩,λb hb=> ?_,q⟩;have e:b=s1.heap.objs.size:=by simpa using hb
  subst e;exact I1.fpOk (AV _) (I1.hok.fresh (AV _))
def a2s(it:MI)(tg:PV->b9->Υ b9)(body:MS):MS:=λρ=>(it ρ).bind λps=>a1z body tg ps ρ
theorem b7Q{tg iter:AF}{body:List Stmt}{m:M}{g:TG}{t:PV->b9->Υ b9}{b:MS}{pos:Pos}(hp:PassesOwn (model X.prog X.w) X.A X.env X.xe)(hc:X.calm=true)(hi:EE X iter m)(hg:PG X tg g)(T:a5Z X.K g t)(hb:ESs X body b)
 (hs:∀x,foldedSetIterable iter X.env x=pure x:=by intro _;rfl):ES X (.For tg iter body [] pos) (a2s (b1s m) t b):=
 G6 (a7a hp hc (b89 hi) hg hb hs) λD σ H h0=>Q6 h0 λF0 H0 F ρ fl so e fin=>by
  obtain⟨ps,e1,e⟩:=bind_some e;obtain⟨q,e1,e2⟩:=bind_some e1;obtain⟨r,e1,e3⟩:=bind_some e1;refine⟨F,ρ,r,so.e,e1,λv F' H' o=> ?_⟩;obtain⟨F1,o1⟩:=o.toVal e3;have fin1:=fin.later o1.x.f;have so1:=so.ext o1.x;obtain⟨a,xs,rfl,hq,rl⟩:=W0 (F:=F1) (H:=F1) (PU.u3.refl F1) (show R0 X.K F1 F1 v (.v q) from o1.rep) e2;have hlen:=rl.length;have get:∀k x,xs[k]?=ξ x->∃p,ps[k]?=ξ p/\∀F,u3 F1 F->P5 X.K F p x:=λk x ex=>by
   obtain⟨p,ep,rp⟩:=rl.getV ex;exact⟨p,ep,λF s=>P5.mono s _ rp⟩
  rcases hq with hq|hq
  ·refine⟨a,rfl,.inl ⟨⟨xs,B8 o1.x.fh hq⟩,b72 (K:=X.K) (a:=a) (xs:=xs) (PvL X.K F0 H0 F1 b t ps fl) ⟨F1,ρ,PU.u3.refl F1,so1,e⟩ (λk σ H _ ⟨F,_,s,so2,_⟩=>B8 (s.trans so2.e.fh) hq) (λk x σ H ex hp=> ?_) (λσ H hp=> ?_)⟩⟩
   ·obtain⟨p,ep,rp⟩:=get k x ex;exact a4H T fin1 ep hp rp
   ·rw [hlen] at hp;exact a2r fin1 hp
  ·refine⟨a,rfl,.inr ⟨⟨xs,E5 o1.x.fh hq⟩,c0k (K:=X.K) (a:=a) (xs:=xs) (PvL X.K F0 H0 F1 b t ps fl) ⟨F1,ρ,PU.u3.refl F1,so1,e⟩ (λk σ H _ ⟨F,_,s,so2,_⟩=>E5 (s.trans so2.e.fh) hq) (λk x σ H ex hp=> ?_) (λσ H hp=> ?_)⟩⟩
   ·obtain⟨p,ep,rp⟩:=get k x ex;exact a4H T fin1 ep hp rp
   ·rw [hlen] at hp;exact a2r fin1 hp
def a2X(lo hi:Int):List PV:=(Aq (hi - lo).toNat).map λk=> .int (lo+(k:Nat))
theorem b8i:∃f:Int->Bool,∀j,f j=decide (-(2 ^ 62)<=j/\j<2 ^ 62):=⟨_,λ_=>rfl⟩
def inR:Int->Bool:=b8i.choose
theorem c2Q(j:Int):inR j=decide (-(2 ^ 62)<=j/\j<2 ^ 62):=b8i.choose_spec j
theorem a4F{j:Int}:inR j=true↔(-(2 ^ 62)<=j/\j<2 ^ 62):=by rw [c2Q,decide_eq_true_iff]
def a34(m:MA):MI:=λρ=>(m ρ).bind λps=>match ps with
 |[.int j]=>if inR j=true then ξ (a2X 0 j) else ζ
 |_=>ζ
def b5A(m:MA):MI:=λρ=>(m ρ).bind λps=>match ps with
 |[.int i,.int j]=>if inR i=true/\inR j=true then ξ (a2X i j) else ζ
 |_=>ζ
theorem a9l{lo hi:Int}{k:Nat}(h:k<(hi - lo).toNat):(a2X lo hi)[k]?=ξ (.int (lo+k)):=by
 simp [a2X,h]
theorem a6t(lo hi:Int):(a2X lo hi).length=(hi - lo).toNat:=by simp [a2X]
theorem a56{tg a:AF}{body:List Stmt}{m:MA}{g:TG}{t:PV->b9->Υ b9}{b:MS}{p rp pos:Pos}(hp:PassesOwn (model X.prog X.w) X.A X.env X.xe)(hc:X.calm=true)(hgl:Gl X "range")(hm:X.mg "range"=ζ)(ha:EA X [a] m)(hg:PG X tg g)(T:a5Z X.K g t)(hb:ESs X body b)
 (hst:AI [a] X.env=[(false,eval a X.env)]:=by rfl) (hs:∀x,foldedSetIterable (.Call (.Name "range" p) [a] [] rp) X.env x=pure x:=by intro _;rfl):ES X (.For tg (.Call (.Name "range" p) [a] [] rp) body [] pos) (a2s (a34 m) t b):=
 G6 (a7a hp hc (b6N hgl hm ha hst) hg hb hs) λD σ H h0=>Q6 h0 λF0 H0 F ρ fl so e fin=>by
  ext ax
  ·rename_i j;split at e2
   ·rename_i c;have c:=a4F.mp c;cases e2;obtain⟨v,r,rfl,rv,rr⟩:=rl;cases rv;cases rr;have fin1:=fin.later x.f;have hz:(j - 0).toNat=j.toNat:=by lia
    refine⟨j,rfl,c.1,c.2,b0o (lo:=0) (n:=j.toNat) (PvL X.K F0 H0 F1 b t (a2X 0 j) fl) ⟨F1,ρ,PU.u3.refl F1,so.ext x,e⟩ (λk σ H hk hp=> ?_) (λσ H hp=> ?_)⟩
    ·exact a4H T fin1 (a9l (by lia)) hp λ_ _=>rfl
    ·have:j.toNat=(a2X 0 j).length:=by rw [a6t,hz]
     rw [this] at hp;exact a2r fin1 hp
   ·cases e2
  ·cases e2
theorem b7R{tg a a2:AF}{body:List Stmt}{m:MA}{g:TG}{t:PV->b9->Υ b9}{b:MS}{p rp pos:Pos}(hp:PassesOwn (model X.prog X.w) X.A X.env X.xe)(hc:X.calm=true)(hgl:Gl X "range")(hm:X.mg "range"=ζ)(ha:EA X [a,a2] m)(hg:PG X tg g)(T:a5Z X.K g t)(hb:ESs X body b)
 (hst:AI [a,a2] X.env=[(false,eval a X.env),(false,eval a2 X.env)]:=by rfl) (hst2:AI [a2] X.env=[(false,eval a2 X.env)]:=by rfl) (hs:∀x,foldedSetIterable (.Call (.Name "range" p) [a,a2] [] rp) X.env x=pure x:=by intro _;rfl):
 ES X (.For tg (.Call (.Name "range" p) [a,a2] [] rp) body [] pos) (a2s (b5A m) t b):=
 G6 (a7a hp hc (b6O hgl hm ha hst hst2) hg hb hs) λD σ H h0=>Q6 h0 λF0 H0 F ρ fl so e fin=>by
  ext ax
  ·rename_i i j;split at e2
   ·rename_i c;have c:(-(2 ^ 62)<=i/\i<2 ^ 62)/\ -(2 ^ 62)<=j/\j<2 ^ 62:=⟨a4F.mp c.1,a4F.mp c.2⟩;cases e2;obtain⟨v,r,rfl,rv,v2,r2,rfl,rv2,rr⟩:=rl;cases rv;cases rv2;cases rr;have fin1:=fin.later x.f;refine⟨i,j,rfl,⟨c.1.1,c.1.2,c.2.1,c.2.2⟩,b0o (lo:=i) (n:=(j - i).toNat) (PvL X.K F0 H0 F1 b t (a2X i j) fl) ⟨F1,ρ,PU.u3.refl F1,so.ext x,e⟩ (λk σ H hk hp=> ?_) (λσ H hp=> ?_)⟩
    ·exact a4H T fin1 (a9l hk) hp λ_ _=>rfl
    ·rw [<-a6t i j] at hp;exact a2r fin1 hp
   ·cases e2
  ·cases e2
def V4(c:MT)(body:MS):Nat->b9->Υ Fl
 |0,_=>ζ
 |n+1,ρ=>(c ρ).bind λb=>if b=true then(body ρ).bind λfl=>match fl with
  | .nx ρ'=>V4 c body n ρ'
  | .ct ρ'=>V4 c body n ρ'
  | .bk ρ'=>ξ (.nx ρ')
  | .rt r=>ξ (.rt r) else ξ (.nx ρ)
theorem b2u(n:Nat){c:AF}{body:List Stmt}{mc:MT}{b:MS}{pos:Pos}(hp:PassesOwn (model X.prog X.w) X.A X.env X.xe)(hc:ET X c mc)(hb:ESs X body b):ES X (.While c body [] pos) (V4 mc b n):=
 G6 (b9h hp hc hb) λD σ H h0=>Q6 h0 λF0 H0 F ρ fl so e fin=>by
  refine⟨λk σ H=>∃F1 ρ,u3 F F1/\SOk X.K F0 H0 F1 H σ ρ/\V4 mc b k ρ=ξ fl,⟨n,F,ρ,PU.u3.refl F,so,e⟩, ?_⟩;rintro k σ H ⟨F1,ρ,s,so,e⟩;cases k with
  |zero=>cases e
  |succ k=>
   unfold V4 at e;obtain⟨d,e1,e⟩:=bind_some e;refine⟨F1,ρ,d,so.e,e1,λF2 H2 x=> ?_⟩;have s2:=s.trans x.f;cases d with
   |true=>
    rw [if_pos rfl] at e;obtain⟨f1,e2,e⟩:=bind_some e;refine b2M ⟨λσ' H'=>∃F1 ρ,u3 F F1/\SOk X.K F0 H0 F1 H' σ' ρ/\V4 mc b k ρ=ξ fl,λσ' H' h=>⟨k,Nat.lt_succ_self k,h⟩,⟨F0,H0,F2,ρ,f1,so.ext x,e2, ?_⟩⟩;cases f1 with
    |nx ρ'=>exact λσ3 F3 H3 s3 so3=>⟨F3,ρ',s2.trans s3,so3,e⟩
    |ct ρ'=>exact λσ3 F3 H3 s3 so3=>⟨F3,ρ',s2.trans s3,so3,e⟩
    |bk ρ'=>cases e;exact λσ3 F3 H3 s3 so3=>fin σ3 F3 H3 (s2.trans s3) so3
    |rt r=>cases e;exact fin
   |false=>
    rw [if_neg Ao] at e;cases e;exact b2L (fin σ F2 H2 s2 (so.ext x))
def m8(n:Nat)(body:MS)(ps:List PV):Υ g0:=(body (ps.map (λp=>ξ (g0.v p))++AU n ζ)).bind λfl=>match fl with
 | .rt r=>ξ r
 | .nx _=>ξ (.v .none)
 |_=>ζ
end
theorem b3q{K:AE}{F H:Hp}{ps:List PV}{vs:List V}(n:Nat)(s:u3 F H)(r:u5 K F ps vs):SOk K F H F H (vs.map ξ++AU n ζ) (ps.map (λp=>ξ (g0.v p))++AU n ζ):=by
 have hl:=r.length;have key:∀(i:Nat) (q:g0),(ps.map (λp=>ξ (g0.v p))++AU n ζ)[i]?=ξ (ξ q)->∃p v,q= .v p/\(vs.map ξ++AU n ζ)[i]?=ξ (ξ v)/\P5 K F p v:=by
  intro i q e
  by_cases h:i<ps.length
  ·rw [BB (by simpa using h),Aw] at e
   rw [BB (by rw [AY,hl];exact h),Aw]
   cases q':ps[i]? with
   |none=>rw [q'] at e;cases e
   |some p=>
    rw [q'] at e;cases e;obtain⟨v,h1,h2⟩:=r.get q';exact⟨p,v,rfl,by rw [h1];rfl,h2⟩
  ·rw [List.getElem?_append_right (by simpa using h),List.getElem?_replicate] at e
   split at e<;>cases e
 refine⟨Ext.refl s,⟨s,by simp [hl],λi q e=> ?_,λi qs e=> ?_,λi j qs _ a _ e=> ?_⟩,λi qs a e=> ?_⟩
 ·obtain⟨p,v,rfl,h1,h2⟩:=key i q e;exact⟨v,h1,h2⟩
 ·obtain⟨p,v,z,_⟩:=key i _ e;cases z
 ·obtain⟨p,v,z,_⟩:=key i _ e;cases z
 ·obtain⟨p,v,z,_⟩:=key i _ e;cases z
theorem b71{P:AK}{w:AJ}{K:AE}{mg:Str->Υ AB}{base:Heap}{x qual:Str}{st:Stmt}{f:AA}{fd:FuncData}{N ps:List Str}{k:Nat}{m:MS}(F:Fun K x qual st f fd)(S:g8 N ps (d4 st))
 (hb:∀(cdv:AB) (A:AL) (outer:List Env) (s:AC) (H:Hp) (E:XK),G3 k (A.deeper (envOfC qual (d4 st) s.heap.objs.size f cdv))->ESs (a2j CX0 P w K mg base N qual (d4 st) f cdv A outer s H E).nox (C4 st) m):
 P4 P w K mg base CX0 (k+1) f fd ps (spP K ps.length (m8 (N.length - ps.length) m)):=by
 refine F.ok S (λvs H Q E h=> ?_) (λcdv A outer s H vs Q E hr h=> ?_)
 ·obtain⟨_,qs,_,_,r,h2,_⟩:=h
  rw [r.length,h2]
 ·obtain⟨F1,qs,r,s1,rl,hl,e,k⟩:=h
  refine⟨_,hb cdv A outer s H E hr, ?_⟩
  unfold m8 at e
  obtain⟨fl,e1,e2⟩:=bind_some e
  have hv:vs.length=ps.length:=by rw [rl.length,hl]
  refine⟨F1,H,F1,_,fl, ?_,e1, ?_⟩
  ·have:=b3q (N.length - ps.length) s1 rl
   unfold L2.a1s
   rw [hv]
   exact this
  ·cases fl with
   |rt q=>cases e2;exact λv F' H' o=>k v F' H' o
   |nx ρ=>cases e2;exact λσ' F' H' _ so=>k .non F' H' (B5.val so.x rfl)
   |bk ρ=>cases e2
   |ct ρ=>cases e2
section
variable {X:Cx}
def rC1(K:AE)(g:g0->Υ g0):List V->Hp->VK->Prop:=λxs H Q=>∃F x rx rz,xs=[x]/\u3 F H/\R0 K F H x rx/\g rx=ξ rz/\∀v F' H',B5 K F H F' H' v rz->Q v H'
def rC2(K:AE)(g:g0->g0->Υ g0):List V->Hp->VK->Prop:=λxs H Q=>∃F x y rx ry rz,xs=[x,y]/\u3 F H/\R0 K F H x rx/\R0 K F H y ry/\g rx ry=ξ rz/\∀v F' H',B5 K F H F' H' v rz->Q v H'
def m1(g:g0->Υ g0)(m:M):M:=λρ=>(m ρ).bind g
theorem b8W{m:M}{g:g0->Υ g0}{σ:L2.St}{H:Hp}{Q:VK}(h:tM X.K (m1 g m) σ H Q):tCB (rC1 X.K g) (b3r (tM X.K m) b9C) σ H Q:=by
 obtain⟨F,ρ,r,he,hm,k⟩:=h;obtain⟨rx,e1,hm⟩:=bind_some hm;exact⟨F,ρ,rx,he,e1,λv F1 H1 o1=>⟨F1,v,rx,r,rfl,o1.x.fh,o1.rep,hm,λz F2 H2 o2=>k z F2 H2 (B5.trans o1.x o2)⟩⟩
theorem c1A{m n:M}{g:g0->g0->Υ g0}{σ:L2.St}{H:Hp}{Q:VK}(h:tM X.K (m2 g m n) σ H Q):tCB (rC2 X.K g) (b3r (tM X.K m) (b3r (tM X.K n) b9C)) σ H Q:=by
 ext ac
 exact⟨F,ρ,rx,he,e1,λv F1 H1 o1=>⟨F1,ρ,ry,he.ext o1.x,e2,λu F2 H2 o2=>⟨F2,v,u,rx,ry,r,rfl,o2.x.fh,o1.rep.ext o2.x,o2.rep,hm,λz F3 H3 o3=>k z F3 H3 (B5.trans (o1.x.trans o2.x) o3)⟩⟩⟩
theorem C1{id:String}{x:Str}{p pos:Pos}{e:AF}{g:g0->Υ g0}{m:M}(hc:R7 X (.builtin id) (rC1 X.K g))(hg:Gl X x)(hm:X.mg x=ζ)(hv:bootBuiltins x=ξ (.builtin id))(ha:EE X e m)(hn:x≠"__name__":=by decide)(hdb:Δ x:=by decide)
 (he:AI [e] X.env=(false,eval e X.env)::AI [] X.env:=by rfl) (hpl:(backTo pos (AI [] X.env)).any (·.1)=false:=by rfl):EE X (.Call (.Name x p) [e] [] pos) (m1 g m):=
 B1 (a2u hc hg hm hv (z7 ha S5 he) hn hdb he hpl) λ_ _ _ h=>b8W h
theorem c1S{id:String}{x:Str}{p pos:Pos}{e e2:AF}{g:g0->g0->Υ g0}{m n:M}(hc:R7 X (.builtin id) (rC2 X.K g))(hg:Gl X x)(hm:X.mg x=ζ)(hv:bootBuiltins x=ξ (.builtin id))(ha:EE X e m)(hb:EE X e2 n)(hn:x≠"__name__":=by decide)(hdb:Δ x:=by decide)
 (he:AI [e,e2] X.env=(false,eval e X.env)::AI [e2] X.env:=by rfl) (he2:AI [e2] X.env=(false,eval e2 X.env)::AI [] X.env:=by rfl) (hpl:(backTo pos (AI [e2] X.env)).any (·.1)=false:=by rfl):EE X (.Call (.Name x p) [e,e2] [] pos) (m2 g m n):=
 B1 (a2u hc hg hm hv (z7 ha (z7 hb S5 he2) he) hn hdb he hpl) λ_ _ _ h=>c1A h
theorem a3d{T:String}{x:Str}{p pos:Pos}{e:AF}{g:g0->Υ g0}{m:M}(hc:R7 X (.type T) (rC1 X.K g))(hg:Gl X x)(hm:X.mg x=ζ)(hv:bootBuiltins x=ξ (.type T))(ha:EE X e m)(hn:x≠"__name__":=by decide)(hdb:Δ x:=by decide)
 (he:AI [e] X.env=(false,eval e X.env)::AI [] X.env:=by rfl) (hpl:(backTo pos (AI [] X.env)).any (·.1)=false:=by rfl):EE X (.Call (.Name x p) [e] [] pos) (m1 g m):=
 B1 (b6M hc hg hm hv (z7 ha S5 he) hn hdb he hpl) λ_ _ _ h=>b8W h
def x8(x:g0):Υ g0:=match x.rd with
 | .str z=>if z.length<=AN then ξ (.v (.int z.length)) else ζ
 |p=>match PyData.items? p with
  |some ps=>ξ (.v (.int ps.length))
  |none=>ζ
theorem A0:R7 X (.builtin "len") (rC1 X.K x8):=by
 ext f
 unfold x8 at h2;split at h2
 ·rename_i z ez;split at h2
  ·rename_i c;cases h2;have rr:=h1.rd s0;rw [ez] at rr;cases rr;exact b06 pins s σ H _ us Q I rv ⟨z,rfl,c,k _ F H (B5.here s0 rfl)⟩
  ·cases h2
 ·split at h2
  ·rename_i ps e;cases h2;obtain⟨a,xs,rfl,hq,r⟩:=W0 s0 h1 e;refine b05 pins s σ H _ us Q I rv ⟨a,xs,rfl,hq, ?_⟩;rw [r.length]
   ext ap
  ·cases h2
theorem b7G(hc:X.calm=true):R7 X (.builtin "min") (rC2 X.K (gI λi j=> .int (if j<i then j else i))):=by
 intro pins s σ H xs us Q I rv h;obtain⟨F,x,y,rx,ry,rz,rfl,s0,h1,h2,h3,k⟩:=h;obtain⟨i,j,rfl,rfl,rfl⟩:=b5i h3;cases h1;cases h2;exact b57 hc pins s σ H _ us Q I rv ⟨i,j,rfl,k _ F H (B5.here s0 rfl)⟩
def a3Q(x:g0):Υ g0:=match PyData.items? x.rd with
 |some ps=>ξ (.v (.tuple ps))
 |none=>ζ
theorem b6p{F H:Hp}{v:V}{r:g0}{ps:List PV}(s0:u3 F H)(h:R0 X.K F H v r)(e:PyData.items? r.rd=ξ ps):∃a xs,v= .ref a/\(Y7 X.K H a xs\/(SqT X.K H a xs/\P5 X.K F (.tuple ps) v))/\u5 X.K F ps xs:=by
 cases r with
 |v p=>
  cases p with
  |list qs=>cases e;obtain⟨a,xs,rfl,hq,r⟩:=h;exact⟨a,xs,rfl,.inl (B8 s0 hq),r⟩
  |tuple qs=>cases e;obtain⟨a,xs,rfl,hq,r⟩:=h;exact⟨a,xs,rfl,.inr ⟨E5 s0 hq.sq,⟨a,xs,rfl,hq,r⟩⟩,r⟩
  |_=>cases e
 |ow c=>cases c<;>cases e;obtain⟨a,xs,rfl,_,hq,r⟩:=h;exact⟨a,xs,rfl,.inl (Y7.of hq),r⟩
 |bo c=>cases c<;>cases e;obtain⟨a,xs,rfl,_,hq,r⟩:=h;exact⟨a,xs,rfl,.inl (Y7.of hq),r⟩
theorem a8x:R7 X (.type "tuple") (rC1 X.K a3Q):=by
 ext f
 unfold a3Q at h2;split at h2
 ·rename_i ps e;cases h2;obtain⟨a,xs,rfl,hq,r⟩:=b6p s0 h1 e;refine a9P pins s σ H _ us Q I rv ⟨a,xs,rfl, ?_⟩;rcases hq with hq|⟨hq,rp⟩
  ·exact .inl ⟨hq,λl hl=>k _ _ _ (B5.tup s0 hl r)⟩
  ·exact .inr ⟨hq,k _ F H (B5.here s0 rp)⟩
 ·cases h2
def kindOf:PV->String
 | .none=>"NoneType"
 | .bool _=>"bool"
 | .int _=>"int"
 | .str _=>"str"
 | .list _=>"list"
 | .tuple _=>"tuple"
 | .dict _=>"dict"
def a6W(T:String)(p:PV):Bool:=kindOf p==T||(kindOf p=="bool" && T=="int")
def isFn:PV->Bool
 | .dict ((.str _,_)::_)=>true
 |_=>false
def F8(T:String)(x:g0):Υ g0:=bif isFn x.rd then ζ else ξ (.v (.bool (a6W T x.rd)))
def b7m(T:String):Prop:=T="int"\/T="bool"\/T="str"\/T="list"\/T="tuple"\/T="dict"
theorem b6s{K:AE}{T:String}(h:b7m T):∀p:PV,PySem.W.kitOne K (.type (kindOf p)) (.type T)=ξ (a6W T p):=by
 intro p;rcases h with rfl|rfl|rfl|rfl|rfl|rfl<;>cases p<;>kernel_rfl
theorem O8{T:String}{e:AF}{m:M}{p p2 pos:Pos}(kt:b7m T)(hg:Gl X "isinstance")(hm:X.mg "isinstance"=ζ)(ha:EE X e m)(hT:PE X (.Name (AD T) p2) (tC (.ty T)))
 (he:AI [e,.Name (AD T) p2] X.env=(false,eval e X.env)::AI [.Name (AD T) p2] X.env:=by rfl) (he2:AI [.Name (AD T) p2] X.env=(false,eval (.Name (AD T) p2) X.env)::AI [] X.env:=by rfl) (hpl:(backTo pos (AI [.Name (AD T) p2] X.env)).any (·.1)=false:=by rfl)
 (hv:bootBuiltins "isinstance"=ξ (.builtin "isinstance"):=by rfl):
 EE X (.Call (.Name "isinstance" p) [e,.Name (AD T) p2] [] pos) (m1 (F8 T) m):=by
 have hc:R7 X (.builtin "isinstance") (λxs H Q=>∃F x rx,xs=[x,.ty T]/\u3 F H/\R0 X.K F H x rx/\isFn rx.rd=false/\Q (.bl (a6W T rx.rd)) H):=by
  intro pins s σ H xs us Q I rv h;obtain⟨F,x,rx,rfl,s0,h1,nf,q⟩:=h;obtain⟨u,u2,rfl,ru,ru2⟩:∃u1 u2,us=[u1,u2]/\y4 x u1/\y4 (.ty T) u2:=by
   cases rv with
   |cons p q=>
    cases q with
    |cons p' q'=>
     cases q';exact⟨_,_,rfl,p,p'⟩
  cases ru2;have rr:=h1.rd s0;have kk:=b6s (K:=X.K) kt rx.rd;have fin:∀tk,EP X pins σ Q (.bool (a6W T rx.rd)) {s with toks:=tk}:=λtk=>⟨.bl _,H,I.tok tk,rfl,q⟩
  cases hp:rx.rd with
  |none=>rw [hp] at rr kk fin;cases rr;cases ru;exact PySem.W.kia_one PySem.W.kitx_none I.kIn True.intro kk (λz=>nomatch z) fin
  |bool b=>rw [hp] at rr kk fin;cases rr;cases ru;exact PySem.W.kia_one PySem.W.kitx_bool I.kIn True.intro kk (λz=>nomatch z) fin
  |int b=>rw [hp] at rr kk fin;cases rr;obtain⟨t,rfl⟩:=ru;exact PySem.W.kia_one PySem.W.kitx_int I.kIn True.intro kk (λz=>nomatch z) fin
  |str b=>rw [hp] at rr kk fin;cases rr;obtain⟨t,rfl⟩:=ru;exact PySem.W.kia_one PySem.W.kitx_str I.kIn True.intro kk (λz=>nomatch z) fin
  |list ps=>
   rw [hp] at rr kk fin;obtain⟨a,ys,rfl,hq,_⟩:=rr;cases ru;obtain⟨its,_,⟨o,n,e1,e2,_⟩,_⟩:=I.list hq;exact PySem.W.kia_one PySem.W.kitx_list I.kIn ⟨o,e1,e2⟩ kk (λz=>nomatch z) fin
  |tuple ps=>
   rw [hp] at rr kk fin;obtain⟨a,ys,rfl,hq,_⟩:=rr;cases ru;obtain⟨its,_,⟨o,e1,e2,_⟩,_⟩:=I.tuple hq.sq;exact PySem.W.kia_one PySem.W.kitx_tuple I.kIn ⟨o,e1,e2⟩ kk (λz=>nomatch z) fin
  |dict ps=>
   rw [hp] at rr kk fin nf;rcases rr with⟨a,_,rfl,hq,_⟩|⟨a,_,rfl,hq,_⟩|⟨x,_,rfl,_⟩|⟨x,m,fs,_,hf⟩
   ·ext ai
   ·ext ai
   ·cases nf
   ·cases ps with
    |nil=>cases hf
    |cons f ps=>obtain⟨k,p⟩:=f;obtain⟨_,_,_,_,z,_⟩:=hf;subst z;cases nf
 exact B1 (a2u hc hg hm hv (z7 ha (z7 hT S5 he2) he) (by decide) (by decide) he hpl) λσ H Q h0=>z9 h0 λF ρ r h1 h2 k=>by
  obtain⟨rx,e1,h2⟩:=bind_some h2;unfold F8 at h2;cases nf:isFn rx.rd with
  |true=>rw [nf] at h2;cases h2
  |false=>
   rw [nf] at h2;cases h2;exact⟨F,ρ,rx,h1,e1,λv F1 H1 o=>⟨F1,v,rx,rfl,o.x.fh,o.rep,nf,k _ F1 H1 (B5.val o.x rfl)⟩⟩
theorem SOk.putC{K:AE}{F0 H0 F H:Hp}{σ:L2.St}{ρ:b9}{i:Nat}{c d:a2y}{a:AA}{o:HO}(s:SOk K F0 H0 F H σ ρ)(e:ρ[i]?=ξ (ξ (.ow c)))(ea:σ[i]?=ξ (ξ (.ref a)))(r:F a=ζ->a3o K F (A5 H a o) (.ref a) d):
 SOk K F0 H0 F (A5 H a o) σ (ρ.set i (ξ (.ow d))):=by
 obtain⟨v,h1,rr0⟩:=s.e.at_ i _ e
 obtain⟨a',xs,rfl,fa,ha⟩:=a3o.at_ rr0
 rw [ea] at h1;cases h1
 have na:H0 a=ζ:=s.nw i c a e ea
 have hi:i<ρ.length:=(Au.mp e).1
 refine⟨⟨s.x.f,λb o z=>by rw [l6 (n4 z na)];exact s.x.h _ _ z,λb o z=>by rw [l6 (n4 z fa)];exact s.x.fh _ _ z,s.x.nw,s.x.nf⟩,⟨λb o z=>by rw [l6 (n4 z fa)];exact s.e.fh _ _ z,by simp [s.e.len],λj q ej=> ?_,λj z ej=> ?_,λj k z1 z2 c' hjk e1 e2 e3 e4=> ?_⟩,λj z c' e1 e2=> ?_⟩
 ·rw [List.getElem?_set] at ej
  by_cases hij:i=j
  ·subst hij
   rw [if_pos rfl,if_pos hi] at ej
   cases ej
   exact⟨.ref a,ea,r fa⟩
  ·rw [if_neg hij] at ej
   obtain⟨v,h1,rr⟩:=s.e.at_ j q ej
   refine⟨v,h1, ?_⟩
   cases q with
   |v p=>exact rr
   |bo z=>exact absurd ej (s.e.nb j z)
   |ow z=>
    have key:∀b,v= .ref b->b≠a:=λb hb hab=>by subst hab;subst hb;exact s.e.ap i j c z b hij e ej ea h1
    cases z with
    |lst z=>
     obtain⟨b,zs,rfl,fb,hb,rz⟩:=rr
     exact⟨b,zs,rfl,fb,by rw [l6 (key b rfl)];exact hb,rz⟩
    |dct z=>
     obtain⟨b,zs,rfl,fb,hb,rz⟩:=rr
     exact⟨b,zs,rfl,fb,by rw [l6 (key b rfl)];exact hb,rz⟩
    |txt z=>
     obtain⟨b,zs,rfl,fb,hb,rz⟩:=rr
     exact⟨b,zs,rfl,fb,by rw [l6 (key b rfl)];exact hb,rz⟩
 ·rw [List.getElem?_set] at ej
  by_cases hij:i=j
  ·subst hij;rw [if_pos rfl,if_pos hi] at ej;cases ej
  ·rw [if_neg hij] at ej;exact s.e.nb j z ej
 ·have own_at:∀(j:Nat) (z:a2y),(ρ.set i (ξ (g0.ow d)))[j]?=ξ (ξ (g0.ow z))->∃z':a2y,ρ[j]?=ξ (ξ (g0.ow z')):=λj z h=>by
   rw [List.getElem?_set] at h
   by_cases hij:i=j
   ·subst hij;exact⟨c,e⟩
   ·rw [if_neg hij] at h;exact⟨z,h⟩
  obtain⟨y1,h1⟩:=own_at j z1 e1;obtain⟨y2,h2⟩:=own_at k z2 e2;exact s.e.ap j k y1 y2 c' hjk h1 h2 e3 e4
 ·rw [List.getElem?_set] at e1
  by_cases hij:i=j
  ·subst hij;rw [ea] at e2;cases e2;exact na
  ·rw [if_neg hij] at e1;exact s.nw j z c' e1 e2
theorem SOk.put{K:AE}{F0 H0 F H:Hp}{σ:L2.St}{ρ:b9}{i:Nat}{ps qs:List PV}{a:AA}{ys:List V}(s:SOk K F0 H0 F H σ ρ)(e:ρ[i]?=ξ (ξ (.own ps)))(ea:σ[i]?=ξ (ξ (.ref a)))(r:u5 K F qs ys):
 SOk K F0 H0 F (A5 H a (.lst ys)) σ (ρ.set i (ξ (.own qs))):=s.putC e ea λfa=>⟨a,ys,rfl,fa,p9,r⟩
def U5(i:Nat)(m:M):MS:=λρ=>(m ρ).bind λr=>r.toVal.bind λp=>match ρ[i]? with
 |some (ξ (.ow (.lst ps)))=>if ps.length<AN then ξ (.nx (ρ.set i (ξ (.own (ps++[p]))))) else ζ
 |_=>ζ
theorem a2m(i:Nat){x:Str}{p apos cpos pos:Pos}{e:AF}{m:M}(hx:PE X (.Name x p) (a9A i))(ha:EE X e m)
 (hbase:attributeBase (.Name x p) "append" X.env (eval (.Name x p) X.env)=eval (.Name x p) X.env:=by rfl)
 (hfew:((backTo cpos (AI [e] X.env)).all (λx=> !x.1)&&(backToKw cpos (keywordEach [] X.env)).all (λx=>x.1.isSome)
  && decide ([e].length+([]:List Keyword).length+(if([]:List Keyword).isEmpty then 0 else 1)<30))=true:=by rfl)
 (hline:(apos.endLine==cpos.line)=true:=by rfl) (hs:AI [e] X.env=(false,eval e X.env)::AI [] X.env:=by rfl) (hplain:(backTo cpos (AI [] X.env)).any (·.1)=false:=by rfl)
 (hsw:swapsWith (.Call (.Attribute (.Name x p) "append" apos) [e] [] cpos) ζ pos.line X.env=pure false:=by rfl):
 ES X (.Expr (.Call (.Attribute (.Name x p) "append" apos) [e] [] cpos) pos) (U5 i m):=
 G6 (b1N (b0G PySem.F.plainAttrs_list PySem.F.slot_list_append PySem.F.type_list_append b0A hx (z7 ha S5 hs) hbase hfew hline hs hplain) hsw) λD σ H h0=>Q6 h0 λF0 H0 F ρ fl so e fin=>by
  obtain⟨r,e1,e⟩:=bind_some e;obtain⟨q,e2,e⟩:=bind_some e;split at e
  ·rename_i ps eo;split at e
   ·rename_i c;cases e;obtain⟨v,h1,a,xs,rfl,fa,ha',rl⟩:=so.e.at_ i _ eo;refine⟨.ref a,h1,.inl ⟨rfl,xs,Y7.of ha'⟩,F,ρ,r,so.e,e1,λw F1 H1 o=> ?_⟩;obtain⟨F2,o2⟩:=o.toVal e2;have so2:=so.ext o2.x;refine⟨a,xs,w,rfl,rfl,o.x.h _ _ ha',by rw [rl.length];exact c, ?_⟩
    exact fin σ F2 _ o2.x.f (so2.put eo h1 ((u5.mono o2.x.f _ rl).append ⟨w,[],rfl,o2.rep,rfl⟩))
   ·cases e
  ·cases e
def c0H(i:Nat)(g:g0->g0->Υ g0)(m:M):MS:=λρ=>match ρ[i]? with
 |some (ξ (.v x))=>(m ρ).bind λy=>(g (.v x) y).bind λz=>if z.nb=true then ξ (.nx (ρ.set i (ξ z))) else ζ
 |_=>ζ
theorem c2x{i:Nat}{x:Str}{e:AF}{m:M}{g:g0->g0->Υ g0}{op:Operator}{pos pos':Pos}(hN:X.N.Nodup)(he:EE X e m)(ho:OpM X (inplaceOp op) g)(hi:X.N[i]?=ξ x:=by rfl)(hx:Loc X.env.scope x:=by exact Or.inl rfl)(hf:X.fn x=true\/X.env.scope.names.lookup x=ξ .local:=by first|exact .inl rfl|exact .inr rfl|assumption):
 ES X (.AugAssign (.Name x pos') op e pos) (c0H i g m):=
 G6 (c3B hN hi hx he (ti:=rM2 X.K g) ho hf) λD σ H h0=>Q6 h0 λF0 H0 F ρ fl so e fin=>by
  unfold c0H at e;split at e
  ·rename_i p ep;obtain⟨y,e1,e⟩:=bind_some e;obtain⟨z,e2,e⟩:=bind_some e;split at e
   ·rename_i c;cases e;obtain⟨v,h1,rv⟩:=so.e.at_ i _ ep;exact⟨v,h1,F,ρ,y,so.e,e1,λu F1 H1 o=>⟨F1,.v p,y,z,o.x.fh,rv.ext o.x,o.rep,e2,λt F2 H2 o2=>fin _ F2 H2 (o.x.f.trans o2.x.f) ((so.ext o.x).set o2 c i)⟩⟩
   ·cases e
  ·cases e
theorem b8Y:OpM X (inplaceOp .Add) (gI λi j=> .int (i+j)):=b5I c0v λ_ _ _=>rfl
def a2t(i:Nat)(n:MS):MS:=λρ=>match ρ[i]? with
 |some (ξ (.ow (.lst ps)))=>n (ρ.set i (ξ (.v (.list ps))))
 |_=>n ρ
theorem SOk.frz{K:AE}{F0 H0 F H:Hp}{σ:L2.St}{ρ:b9}{i:Nat}{ps:List PV}(s:SOk K F0 H0 F H σ ρ)(e:ρ[i]?=ξ (ξ (.own ps))):∃F',u3 F F'/\SOk K F0 H0 F' H σ (ρ.set i (ξ (.v (.list ps)))):=by
 obtain⟨v,h1,a,xs,rfl,fa,ha,rl⟩:=s.e.at_ i _ e;have na:H0 a=ζ:=s.nw i _ a e h1;have hi:i<ρ.length:=(Au.mp e).1;have up:u3 F (A5 F a (.lst xs)):=a0M fa;have fh:u3 (A5 F a (.lst xs)) H:=λb o z=>by
  by_cases hb:b=a
  ·subst hb;rw [p9] at z;cases z;exact ha
  ·rw [l6 hb] at z;exact s.e.fh _ _ z
 refine⟨A5 F a (.lst xs),up,⟨⟨s.x.f.trans up,s.x.h,fh,λb o z y t=>by rw [l6 (n4 y na)];exact s.x.nw b o z y t,b8P s.x.nf⟩,⟨fh,by simp [s.e.len],λj q ej=> ?_,λj z ej=> ?_,λj k z1 z2 c hjk e1 e2 e3 e4=> ?_⟩,λj z c e1 e2=> ?_⟩⟩
 ·rw [List.getElem?_set] at ej
  by_cases hij:i=j
  ·subst hij;rw [if_pos rfl,if_pos hi] at ej;cases ej;exact⟨.ref a,h1,a,xs,rfl,Y7.of p9,u5.mono up _ rl⟩
  ·rw [if_neg hij] at ej;obtain⟨v,h2,rr⟩:=s.e.at_ j q ej;refine⟨v,h2, ?_⟩;cases q with
   |v p=>exact P5.mono up p rr
   |bo z=>exact absurd ej (s.e.nb j z)
   |ow z=>
    have key:∀b,v= .ref b->b≠a:=λb hb hab=>by subst hab;subst hb;exact s.e.ap i j _ z b hij e ej h1 h2
    cases z with
    |lst z=>
     obtain⟨b,zs,rfl,fb,hb,rz⟩:=rr;exact⟨b,zs,rfl,by rw [l6 (key b rfl)];exact fb,hb,u5.mono up _ rz⟩
    |dct z=>
     obtain⟨b,zs,rfl,fb,hb,rz⟩:=rr;exact⟨b,zs,rfl,by rw [l6 (key b rfl)];exact fb,hb,a3p.mono up _ rz⟩
    |txt z=>
     obtain⟨b,zs,rfl,fb,hb,rz⟩:=rr;exact⟨b,zs,rfl,by rw [l6 (key b rfl)];exact fb,hb,a3p.mono up _ rz⟩
 ·rw [List.getElem?_set] at ej
  by_cases hij:i=j
  ·subst hij;rw [if_pos rfl,if_pos hi] at ej;cases ej
  ·rw [if_neg hij] at ej;exact s.e.nb j z ej
 ·have own_at:∀(j:Nat) (z:a2y),(ρ.set i (ξ (g0.v (.list ps))))[j]?=ξ (ξ (g0.ow z))->ρ[j]?=ξ (ξ (g0.ow z)):=λj z h=>by
   rw [List.getElem?_set] at h
   by_cases hij:i=j
   ·subst hij;rw [if_pos rfl,if_pos hi] at h;cases h
   ·rw [if_neg hij] at h;exact h
  exact s.e.ap j k z1 z2 c hjk (own_at j z1 e1) (own_at k z2 e2) e3 e4
 ·rw [List.getElem?_set] at e1
  by_cases hij:i=j
  ·subst hij;rw [if_pos rfl,if_pos hi] at e1;cases e1
  ·rw [if_neg hij] at e1;exact s.nw j z c e1 e2
theorem a2K(i:Nat){st:Stmt}{n:MS}(h:ES X st n):ES X st (a2t i n):=G6 h λD σ H h0=>Q6 h0 λF0 H0 F ρ fl so e fin=>by
 unfold a2t at e;split at e
 ·rename_i ps eo;obtain⟨F',s,so'⟩:=so.frz eo;exact⟨F0,H0,F',_,fl,so',e,fin.later s⟩
 ·exact⟨F0,H0,F,ρ,fl,so,e,fin⟩
end
def r8(P:AK)(w:AJ)(K:AE)(mg:Str->Υ AB)(base:Heap)(x:Str)(ps:List Str)(k:Nat)(g:Λ):Prop:=
 ∃f fd,P4 P w K mg base CX0 k f fd ps (spP K ps.length g)/\mg x=ξ (.ref f)/\PySem.W.keepIn K (.ref f)=true/\V5 K fd ps []
section
variable {X:Cx}
theorem i8{k k':Nat}{ps:List Str}{g:Λ}{x:Str}{p pos:Pos}{e:AF}{es:List AF}{m:MA}
 (d:r8 X.prog X.w X.K X.mg X.base x ps k g) (hr:G3 k' X.A) (hk:k<=k') (hg:Gl X x) (hn:∀ρ qs,m ρ=ξ qs->qs.length=ps.length) (ha:EA X (e::es) m)
 (hdb:Δ x:=by decide) (he:Ψ e es X.env:=by rfl) (hpl:Φ₁ pos es X.env:=by rfl):
 EE X (.Call (.Name x p) (e::es) [] pos) (i7 g m):=by
 obtain⟨f,fd,G,h1,h2,h3⟩:=d
 exact b95 G (hr.mono hk) hg h1 h2 h3 hn ha hdb he hpl
theorem b09{k k':Nat}{g:Λ}{x:Str}{p pos:Pos}
 (d:r8 X.prog X.w X.K X.mg X.base x [] k g) (hr:G3 k' X.A) (hk:k<=k') (hg:Gl X x) (hdb:Δ x:=by decide):
 EE X (.Call (.Name x p) [] [] pos) (λ_=>g []):=by
 obtain⟨f,fd,G,h1,h2,h3⟩:=d
 exact b7M G (hr.mono hk) hg h1 h2 h3 hdb
end
def b3p(K:AE):Sp:=λvs H Q _=>∃(a:AA) (ns:List Int),vs=[.ref a]/\Y7 K H a (ns.map V.int)/\ns.length<=63/\∀H',Q (.bl true) H'
theorem b0K{K:AE}{H:Hp}:∀ns:List Int,u5 K H (ns.map PyData.int) (ns.map V.int)
 |[]=>rfl
 |n::ns=>⟨.int n,_,rfl,rfl,b0K ns⟩
theorem c0D{K:AE}{g:Λ}(h:∀ns:List Int,ns.length<=63->g [.list (ns.map .int)]=ξ (.v (.bool true))):∀vs H Q E,b3p K vs H Q E->spP K 1 g vs H Q E:=
 λvs H Q E ⟨a,ns,e,hs,hl,k⟩=>by
  subst e;exact⟨H,[.list (ns.map .int)],_,PU.u3.refl H,⟨.ref a,[],rfl,⟨a,_,rfl,hs,b0K ns⟩,rfl⟩,rfl,h ns hl,λv F' H' o=>by
   have:v= .bl true:=o.rep;subst this;exact k H'⟩
def c0n(x y:g0):Υ g0:=G7 b3y (λi j=> .int (i*j)) x y
theorem b8Z{X:Cx}:OpM X (binaryOp .Mult) c0n:=c01
theorem O2(i j:Int):l8 (.v (.int i)) (.v (.int j))=ξ (.v (.int (i+j))):=ω
theorem b76{i j:Str}(h:i.length+j.length<=AN):l8 (.v (.str i)) (.v (.str j))=ξ (.v (.str (i++j))):=by simp [l8,h]
theorem b1g{ps qs:List PV}(h:ps.length+qs.length<=AN):l8 (.bor ps) (.own qs)=ξ (.own (ps++qs)):=by simp [l8,g0.mine,h]
theorem b5h{ps qs:List PV}(h:ps.length+qs.length<=AN):l8 (.own ps) (.own qs)=ξ (.own (ps++qs)):=by simp [l8,g0.mine,h]
theorem a12(f:Int->Int->PV)(i j:Int):gI f (.v (.int i)) (.v (.int j))=ξ (.v (f i j)):=ω
theorem a57{C:Int->Int->Prop}[∀i j,Decidable (C i j)](f:Int->Int->PV){i j:Int}(h:C i j):G7 C f (.v (.int i)) (.v (.int j))=ξ (.v (f i j)):=by
 show(if okC C i j=true then ξ (g0.v (f i j)) else ζ)=_
 rw [if_pos (a00.mpr h)]
theorem c2N{i j:Int}(h: -18446744073709551616<i/\i<18446744073709551616):c0n (.v (.int i)) (.v (.int j))=ξ (.v (.int (i*j))):=a57 _ (.inl (by lia))
theorem c2O{i j:Int}(h: -18446744073709551616<j/\j<18446744073709551616):c0n (.v (.int i)) (.v (.int j))=ξ (.v (.int (i*j))):=a57 _ (.inr (by lia))
theorem b8b{f:Int->Int->PV}{i j:Int}(h:0<j):G7 (λ_ j=>0<j) f (.v (.int i)) (.v (.int j))=ξ (.v (f i j)):=a57 _ h
theorem b77{f:Int->Int->PV}{i j:Int}(h:0<j/\j<1073741824):G7 a9F f (.v (.int i)) (.v (.int j))=ξ (.v (f i j)):=a57 _ h
theorem b8c{f:Int->Int->PV}{i j:Int}(h:(0<=j/\j<=1000000)/\i.natAbs<18446744073709551616):G7 b53 f (.v (.int i)) (.v (.int j))=ξ (.v (f i j)):=a57 _ ⟨h.1.1,h.1.2,h.2⟩
theorem b36{x y:g0}(h:z6 x.rd 50=true/\z6 y.rd 50=true):B7 x y=ξ (.v (.bool (η x.rd y.rd))):=by simp [B7,h]
theorem b38{x y:g0}(h:z6 x.rd 50=true/\z6 y.rd 50=true):gNe x y=ξ (.v (.bool (!η x.rd y.rd))):=by simp [gNe,h]
theorem R5(ps:List PV):x8 (.v (.list ps))=ξ (.v (.int ps.length)):=ω
theorem b2D(ps:List PV):x8 (.v (.tuple ps))=ξ (.v (.int ps.length)):=ω
theorem a59{ps:List PV}{i:Int}{p:PV}(h:L2.atI ps i=ξ p):o9 (.v (.list ps)) (.v (.int i))=ξ (.v p):=by simp [o9,g0.rd,a2y.rd,PyData.items?,h]
theorem b1h{ps:List PV}{i:Int}{p:PV}(h:L2.atI ps i=ξ p):o9 (.v (.tuple ps)) (.v (.int i))=ξ (.v p):=by simp [o9,g0.rd,a2y.rd,PyData.items?,h]
theorem c0l{ps:List PV}{i:Int}{p:PV}(h:L2.atI ps i=ξ p):o9 (.bor ps) (.v (.int i))=ξ (.v p):=by simp [o9,g0.rd,a2y.rd,PyData.items?,h]
theorem E4(p:PV)(ps:List PV):o9 (.v (.tuple (p::ps))) (.v (.int 0))=ξ (.v p):=by
 refine b1h ?_;have h:(0:Int)<(((p::ps).length:Nat):Int):=by simp only [AO];lia
 unfold L2.atI L2.ixN;rw [if_pos (by decide),if_pos h]
 rfl
theorem T4(p q:PV)(ps:List PV):o9 (.v (.tuple (p::q::ps))) (.v (.int 1))=ξ (.v q):=by
 refine b1h ?_;have h:(1:Int)<(((p::q::ps).length:Nat):Int):=by simp only [AO];lia
 unfold L2.atI L2.ixN;rw [if_pos (by decide),if_pos h]
 rfl
theorem a3N(p q r:PV)(ps:List PV):o9 (.v (.tuple (p::q::r::ps))) (.v (.int 2))=ξ (.v r):=by
 refine b1h ?_;have h:(2:Int)<(((p::q::r::ps).length:Nat):Int):=by simp only [AO];lia
 unfold L2.atI L2.ixN;rw [if_pos (by decide),if_pos h]
 rfl
theorem t7(g:g0->g0->Υ g0)(ma mb:M)(ρ:b9):m2 g ma mb ρ=(ma ρ).bind λx=>(mb ρ).bind λy=>g x y:=ω
theorem D3(g:g0->Υ g0)(ma:M)(ρ:b9):m1 g ma ρ=(ma ρ).bind g:=ω
theorem r9(p:PV)(ρ:b9):mC p ρ=ξ (.v p):=ω
theorem k7(p:PV)(ρ:b9):b0 0 (ξ (.v p)::ρ)=ξ (.v p):=ω
theorem b5C(p:List PV)(ρ:b9):b0 0 (ξ (.own p)::ρ)=ξ (.bor p):=ω
theorem p8(n:Nat)(r:Υ g0)(ρ:b9):b0 (n+1) (r::ρ)=b0 n ρ:=ω
theorem j7(ρ:b9):b8 ρ=ξ []:=ω
theorem j0(m:M)(r:MA)(ρ:b9):a8 m r ρ=((m ρ).bind g0.toVal).bind λp=>(r ρ).bind λps=>ξ (p::ps):=ω
theorem j8(p:PV):(g0.v p).toVal=ξ p:=ω
theorem L8(m:MA)(ρ:b9):C3 m ρ=(m ρ).bind λps=>if ps.length<=AN then ξ (.v (.tuple ps)) else ζ:=ω
theorem b2S(m:MA)(ρ:b9):B4 m ρ=(m ρ).bind λps=>if ps.length<=AN then ξ (.own ps) else ζ:=ω
theorem l9(g:Λ)(m:MA)(ρ:b9):i7 g m ρ=(m ρ).bind g:=ω
def c2m(i:Nat)(ρ:b9)(r:g0):Υ Fl:=if r.nb=true then ξ (.nx (ρ.set i (ξ r))) else ζ
theorem u0(i:Nat)(m:M)(ρ:b9):u4 i m ρ=(m ρ).bind (c2m i ρ):=ω
theorem B9(i:Nat)(ρ:b9)(p:PV):c2m i ρ (.v p)=ξ (.nx (ρ.set i (ξ (.v p)))):=ω
theorem b3R(i:Nat)(ρ:b9)(p:List PV):c2m i ρ (.own p)=ξ (.nx (ρ.set i (ξ (.own p)))):=ω
def c4H(r:g0):Υ Fl:=if r.nb=true then ξ (.rt r) else ζ
theorem p0(m:M)(ρ:b9):j4 m ρ=(m ρ).bind c4H:=ω
theorem A7(p:PV):c4H (.v p)=ξ (.rt (.v p)):=ω
def c3F(n:MS):Fl->Υ Fl
 | .nx ρ=>n ρ
 |f=>ξ f
theorem n8(m n:MS)(ρ:b9):g7 m n ρ=(m ρ).bind (c3F n):=ω
theorem u9(n:MS)(ρ:b9):c3F n (.nx ρ)=n ρ:=ω
theorem K8(n:MS)(r:g0):c3F n (.rt r)=ξ (.rt r):=ω
def ifK(m n:MS)(ρ:b9)(b:Bool):Υ Fl:=if b=true then m ρ else n ρ
theorem p7(c:MT)(m n:MS)(ρ:b9):n5 c m n ρ=(c ρ).bind (ifK m n ρ):=ω
theorem a0T(m n:MS)(ρ:b9):ifK m n ρ true=m ρ:=ω
theorem E9(m n:MS)(ρ:b9):ifK m n ρ false=n ρ:=ω
theorem m9(ρ:b9):j1 ρ=ξ (.nx ρ):=ω
def c4I:Fl->Υ g0
 | .rt r=>ξ r
 | .nx _=>ξ (.v .none)
 |_=>ζ
theorem o8(n:Nat)(b:MS)(ps:List PV):m8 n b ps=(b (ps.map (λp=>ξ (g0.v p))++AU n ζ)).bind c4I:=ω
theorem v7(r:g0):c4I (.rt r)=ξ r:=ω
theorem C5(m:M)(ρ:b9):V2 m ρ=(m ρ).bind tru:=ω
theorem r6(m:M)(ρ:b9):x9 m ρ=(m ρ).bind a93:=ω
theorem w4(b:Bool):a93 (.v (.bool b))=ξ b:=ω
theorem S4(b:Bool):tru (.v (.bool b))=ξ b:=ω
theorem A8(c:MT)(ρ:b9):A4 c ρ=(c ρ).map not:=ω
def orK(d:MT)(ρ:b9)(b:Bool):Υ Bool:=if b=true then ξ true else d ρ
def c2j(d:MT)(ρ:b9)(b:Bool):Υ Bool:=if b=true then d ρ else ξ false
theorem x6(c d:MT)(ρ:b9):K5 c d ρ=(c ρ).bind (orK d ρ):=ω
theorem a4J(c d:MT)(ρ:b9):Y9 c d ρ=(c ρ).bind (c2j d ρ):=ω
theorem b3e(d:MT)(ρ:b9):orK d ρ true=ξ true:=ω
theorem S2(d:MT)(ρ:b9):orK d ρ false=d ρ:=ω
theorem b3Q(d:MT)(ρ:b9):c2j d ρ true=d ρ:=ω
theorem c2k(d:MT)(ρ:b9):c2j d ρ false=ξ false:=ω
def c35(n:M)(ρ:b9)(r:g0):Υ g0:=(a93 r).bind λb=>if b=true then n ρ else ξ (.v (.bool false))
theorem b8y(m n:M)(ρ:b9):a61 m n ρ=(m ρ).bind (c35 n ρ):=ω
theorem c2l(n:M)(ρ:b9):c35 n ρ (.v (.bool true))=n ρ:=ω
def c4s:g0->Υ g0
 | .v (.int i)=>ξ (.v (.int (-i)))
 |_=>ζ
theorem b8B(m:M)(ρ:b9):a63 m ρ=(m ρ).bind c4s:=ω
theorem c3a(i:Int):c4s (.v (.int i))=ξ (.v (.int (-i))):=ω
theorem b2B(T:String)(p:PV):F8 T (.v p)=bif isFn p then ζ else ξ (.v (.bool (a6W T p))):=ω
theorem b2I(i:Str):isFn (.str i)=false:=ω
theorem c1O{α:Type}(a b:α):(bif false then a else b)=b:=ω
theorem b1P(p:PV):(g0.v p).rd=p:=ω
theorem b8A(it:MI)(tg:PV->b9->Υ b9)(body:MS)(ρ:b9):a2s it tg body ρ=(it ρ).bind λps=>a1z body tg ps ρ:=ω
def c16:List PV->Υ (List PV)
 |[.int j]=>if inR j=true then ξ (a2X 0 j) else ζ
 |_=>ζ
theorem b6x(m:MA)(ρ:b9):a34 m ρ=(m ρ).bind c16:=ω
theorem c1i{j:Int}(h: -4611686018427387904<=j/\j<4611686018427387904):c16 [.int j]=ξ (a2X 0 j):=by
 show(if inR j=true then ξ (a2X 0 j) else ζ)=_
 rw [if_pos (a4F.mpr (by lia))]
def c17:List PV->Υ (List PV)
 |[.int i,.int j]=>if inR i=true/\inR j=true then ξ (a2X i j) else ζ
 |_=>ζ
theorem b6y(m:MA)(ρ:b9):b5A m ρ=(m ρ).bind c17:=ω
theorem c1j{i j:Int}(h:(-4611686018427387904<=i/\i<4611686018427387904)/\ -4611686018427387904<=j/\j<4611686018427387904):c17 [.int i,.int j]=ξ (a2X i j):=by
 show(if inR i=true/\inR j=true then ξ (a2X i j) else ζ)=_
 rw [if_pos ⟨a4F.mpr (by lia),a4F.mpr (by lia)⟩]
theorem b0p(i j:Int):B7 (.v (.int i)) (.v (.int j))=ξ (.v (.bool (i==j))):=ω
theorem a2o{p:PV}(h:z6 p 50=true):B7 (.v p) (.v p)=ξ (.v (.bool true)):=by
 rw [b36 (x:= .v p) (y:= .v p) ⟨h,h⟩,b1P,a8D p 50 h]
theorem T5{p:PV}(h:z6 p 50=true):gNe (.v p) (.v p)=ξ (.v (.bool false)):=by
 rw [b38 (x:= .v p) (y:= .v p) ⟨h,h⟩,b1P,a8D p 50 h]
 rfl
theorem sz(n:Nat):(n<=AN)=(n<=16777216):=by rw [sizeLine_eq]
end PU
namespace L2
theorem O5:∀(names:List (Str×NameKind)) (n:Nat) (acc:List (Str×AA)),cellsFrom n names acc=cellsFrom n names []++acc
 |[],_,_=>rfl
 |(x,k)::r,n,acc=>by
  unfold cellsFrom;split
  ·rw [O5 r (n+1) ((x,n)::acc),O5 r (n+1) [(x,n)],List.append_assoc];rfl
  ·exact O5 r n acc
theorem X3:∀{names:List (Str×NameKind)} {n:Nat} {x:Str} {c:AA},(x,c)∈cellsFrom n names []->n<=c/\(x,NameKind.cell)∈names
 |[],_,_,_,h=>nomatch h
 |(y,k)::r,n,x,c,h=>by
  unfold cellsFrom at h;split at h
  ·rename_i hk;rw [O5] at h;rcases Av.mp h with h|h
   ·obtain⟨a,b⟩:=X3 h;exact⟨by lia,Af _ b⟩
   ·have e:(x,c)=(y,n):=by simpa using h
    cases e;have:k= .cell:=by simpa using hk
    subst this;exact⟨AV _,AZ⟩
  ·obtain⟨a,b⟩:=X3 h;exact⟨a,Af _ b⟩
theorem a8Q{α:Type}:∀{l:List (Str×α)} {x:Str},(∀c,(x,c)∉l)->l.lookup x=ζ:=λ {l x} h=>by
 cases e:l.lookup x with
 |none=>rfl
 |some c=>exact absurd (PySem.mem_of_lookup e) (h c)
theorem a47{α:Type}:∀{l r:List (Str×α)} {x:Str},l.lookup x=ζ->(l++r).lookup x=r.lookup x
 |[],_,_,_=>rfl
 |(y,v)::l,r,x,h=>by
  rw [Ac,List.lookup_cons];rw [List.lookup_cons] at h;cases e:x==y with
  |true=>rw [e] at h;cases h
  |false=>rw [e] at h;exact a47 h
def a0S(cells:List (Str×AA)):List (Str×NameKind)->List (Str×AA)->List (Str×AA)
 |[],acc=>acc
 |(x,k)::r,acc=>if k== .free then a0S cells r ((x,(cells.lookup x).getD 0)::acc) else a0S cells r acc
theorem a6N{cells:List (Str×AA)}:∀{names:List (Str×NameKind)} {acc:List (Str×AA)} {x:Str} {c:AA},(x,c)∈a0S cells names acc->(x,c)∈acc\/((x,NameKind.free)∈names/\c=(cells.lookup x).getD 0)
 |[],_,_,_,h=> .inl h
 |(y,k)::r,acc,x,c,h=>by
  unfold a0S at h;split at h
  ·rename_i hk;rcases a6N h with h|⟨h1,h2⟩
   ·rcases Ah.mp h with e|h
    ·cases e;have:k= .free:=by simpa using hk
     subst this;exact .inr ⟨AZ,rfl⟩
    ·exact .inl h
   ·exact .inr ⟨Af _ h1,h2⟩
  ·rcases a6N h with h|⟨h1,h2⟩
   ·exact .inl h
   ·exact .inr ⟨Af _ h1,h2⟩
theorem a3C{cells:List (Str×AA)}:∀{names:List (Str×NameKind)} {acc:List (Str×AA)} {x:Str},x∉names.map (·.1)->(a0S cells names acc).lookup x=acc.lookup x
 |[],_,_,_=>rfl
 |(y,k)::r,acc,x,h=>by
  have h':¬(x=y)/\x∉r.map (·.1):=by simpa using h
  unfold a0S;split
  ·rw [a3C h'.2,List.lookup_cons];have e:(x==y)=false:=by simpa using h'.1
   rw [e]
  ·exact a3C h'.2
theorem a2G{cells:List (Str×AA)}:∀{names:List (Str×NameKind)} {acc:List (Str×AA)} {x:Str},(names.map (·.1)).Nodup->names.lookup x=ξ .free->(a0S cells names acc).lookup x=ξ ((cells.lookup x).getD 0)
 |[],_,_,_,h=>by cases h
 |(y,k)::r,acc,x,nd,h=>by
  have nd':y∉r.map (·.1)/\(r.map (·.1)).Nodup:=List.nodup_cons.mp nd;rw [List.lookup_cons] at h;unfold a0S;cases e:x==y with
  |true=>
   rw [e] at h;have hk:k= .free:=by simpa using h
   subst hk;have exy:x=y:=by simpa using e
   subst exy;rw [if_pos (show(NameKind.free==NameKind.free)=true from rfl),a3C nd'.1,List.lookup_cons,e]
  |false=>
   rw [e] at h;split
   ·exact a2G nd'.2 h
   ·exact a2G nd'.2 h
theorem a1X{env:Env}(f:Str×NameKind->List (Str×AA)->Sem (ForInStep (List (Str×AA))))(hf:∀x k cs,f (x,k) cs=if k== .free then(do let c<-cellOf env x;pure (.yield ((x,c)::cs))) else pure (.yield cs)):
 ∀(names:List (Str×NameKind)) (acc:List (Str×AA)),(∀x∈names,x.2= .free->(env.cells.lookup x.1).isSome=true)->forIn names acc f=pure (a0S env.cells names acc)
 |[],acc,_=>rfl
 |(x,k)::r,acc,h=>by
  rw [List.forIn_cons,hf];unfold a0S;have hr:=λy hy=>h y (Af _ hy);split
  ·rename_i hk;have:=h (x,k) AZ (by simpa using hk)
   obtain⟨c,hc⟩:=Option.isSome_iff_exists.mp this;unfold cellOf;rw [hc];show forIn r ((x,c)::acc) f=_;exact a1X f hf r _ hr
  ·exact a1X f hf r acc hr
theorem a9Q{scope:Scope}{env:Env}(h:∀x∈scope.names,x.2= .free->(env.cells.lookup x.1).isSome=true):closureFor scope env=pure (a0S env.cells scope.names []):=by
 unfold closureFor;have e:=a1X (env:=env) (λ(x:Str×NameKind) (cs:List (Str×AA))=>if x.2== .free then(do let c<-cellOf env x.1;pure (.yield ((x.1,c)::cs))) else pure (.yield cs)) (λ_ _ _=>rfl) scope.names [] h
 show(forIn scope.names [] _>>=λr=>pure r)=_;refine Eq.trans (congrArg (· >>=λr=>pure r) (Eq.trans (congrArg (forIn scope.names []) ?_) e)) rfl
 funext x cs
 cases x with
 |mk n k=>cases k<;>rfl
theorem a38{env:Env}{x:Str}:∀{names:List (Str×NameKind)},(names.map λ(p:Str×NameKind)=>if(p.2==NameKind.free && env.scope.kind== .function && env.kindOf p.1==ξ .cell) then(p.1,NameKind.cell) else(p.1,p.2)).lookup x
 =(names.lookup x).map λk=>if(k==NameKind.free && env.scope.kind== .function && env.kindOf x==ξ .cell) then NameKind.cell else k
 |[]=>rfl
 |(n,k)::r=>by
  rw [AT];have ih:= @a38 env x r;show List.lookup x ((if(k==NameKind.free && env.scope.kind== .function && env.kindOf n==ξ .cell)=true then(n,NameKind.cell) else(n,k))::_)=_
  cases hx:x==n with
  |true=>
   have e:x=n:=by simpa using hx
   subst e
   by_cases c:(k==NameKind.free && env.scope.kind== .function && env.kindOf x==ξ .cell)=true
   ·rw [if_pos c,List.lookup_cons,hx,List.lookup_cons,hx];exact congrArg ξ (if_pos c).symm
   ·rw [if_neg c,List.lookup_cons,hx,List.lookup_cons,hx];exact congrArg ξ (if_neg c).symm
  |false=>
   by_cases c:(k==NameKind.free && env.scope.kind== .function && env.kindOf n==ξ .cell)=true
   ·rw [if_pos c,List.lookup_cons,hx,List.lookup_cons,hx];exact ih
   ·rw [if_neg c,List.lookup_cons,hx,List.lookup_cons,hx];exact ih
def V8(scope:Scope)(C:AA)(env:Env):Env:=
 {scope:=relabel scope env,locals:=C,globals:=env.globals,cells:=cellsFrom (C+1) scope.names (a0S env.cells scope.names []),qual:=env.qual,func:=ζ,code:=env.code,frame:=env.frame,builtins:=env.builtins}
def hid(ys:List Str)(x:Str):Str:=if ys.contains x=true then AD "0"++x else x
def P7(X:Cx)(N0:List Str)(scope:Scope)(ys:List Str)(C:AA)(fp:List AA)(pins:List (AA×Obj))(s₃:AC)(H₃:Hp):Cx:=
 {X with N:=N0++ys,s₀:=s₃,H₀:=H₃,env:=V8 scope C X.env,outer:=X.stack,ex:=fp,fn:=λx=>scope.names.lookup x==ξ .cell,pn:=X.pn++pins}
theorem a09{scope:Scope}{C:AA}{env:Env}{x:Str}:(V8 scope C env).kindOf x=(scope.names.lookup x).map λk=>if(k==NameKind.free && env.scope.kind== .function && env.kindOf x==ξ .cell) then NameKind.cell else k:=
 a38
structure Z1(N N0 ys:List Str)(env:Env)(scope:Scope):Prop where
 eq:N0=N.map (hid ys)
 kind:scope.kind= .function
 nd:(scope.names.map (·.1)).Nodup
 fr:∀x∈scope.names,x.2= .free->env.kindOf x.1=ξ .cell\/env.kindOf x.1=ξ .free
 ou:∀x∈N,(ys.contains x=true->scope.names.lookup (hid ys x)=ζ)/\(ys.contains x=false->scope.names.lookup x=ζ\/scope.names.lookup x=ξ .free\/scope.names.lookup x=ξ .globalImplicit)
theorem L7{α:Type}:∀{l:List (Str×α)} {x:Str} {v:α},(l.map (·.1)).Nodup->(x,v)∈l->l.lookup x=ξ v
 |[],_,_,_,h=>nomatch h
 |(y,w)::r,x,v,nd,h=>by
  have nd':y∉r.map (·.1)/\(r.map (·.1)).Nodup:=List.nodup_cons.mp nd;rw [List.lookup_cons];rcases Ah.mp h with e|h
  ·cases e;simp
  ·have:x≠y:=λe=>nd'.1 (by rw [<-e];exact BA.mpr ⟨_,h,rfl⟩)
   have e:(x==y)=false:=by simpa using this
   rw [e];exact L7 nd'.2 h
section
variable {M:Model}{A:AL}{E:AB->AC->Prop}{s:AC}
theorem a4T{scope:Scope}{globals:AA}{cl:List (Str×AA)}{qual:Str}{env:Env}{builtins:AA}{Q:Env->AC->Prop}
 (h:Q (newEnv scope s.heap.objs.size globals (cellsFrom (s.heap.objs.size+1) scope.names cl) qual ζ .none (ξ env) builtins) {s with heap:=pushCells (s.heap.push {cls:= .type "dict",data:= .dict #[]}) scope.names}):
 AH M A (newFunctionEnv scope globals cl [] qual ζ .none (ξ env) builtins) Q E s:=by
 simp only [newFunctionEnv,Option.isSome_some,if_true]
 refine AG (wpAny_alloc ?_)
 refine AG (wpAny_layCells _ (λname kind cells=>by cases hkc:kind==NameKind.cell<;>simp [hkc]) _ _ _ _ ?_)
 rw [show({s with heap:=s.heap.push {cls:= .type "dict",data:= .dict #[]}}:AC).heap.objs.size=s.heap.objs.size+1 from Heap.size_push ..]
 exact AG (AR (AR h))
end
section
variable {prog:AK}{w:AJ}{A:AL}{R:Result->AC->Prop}{s:AC}
theorem a4P{elt target iter:AF}{ifs:List AF}{scope:Scope}{pos:Pos}{it acc:AB}{env:Env}(I:Nat->AC->Prop)
 (turn:∀n s,I n s->AH (model prog w) A (pyNext it) (λr s₁=>match r with
  |none=>R (.ok .next) s₁
  |some v=>AH (model prog w) A (letOwnedTupleGo target it v) (λ_ s₁'=>AH (model prog w) A (assign target env v) (λ_ s₂=>
   AH (model prog w) A (forIn ifs true λc r=>if r=true then do let ok<-isTrue c env (eval c env);pure (ForInStep.yield ok) else pure (ForInStep.yield r)) (λok s₃=>
    if ok=true then AH (model prog w) A (eval elt env) (λx s₄=>
     AH (model prog w) A (call (.builtin "list.append") [acc,x]) (λ_ s₅=>∃m,m<n/\I m s₅) (λ_ _=>False) s₄) (λ_ _=>False) s₃
    else ∃m,m<n/\I m s₃) (λ_ _=>False) s₂) (λ_ _=>False) s₁') (λ_ _=>False) s₁) (λ_ _=>False) s)
 (n:Nat) (h:I n s):
 codeAny (model prog w) A (.compLoop (.ListComp elt [⟨target,iter,ifs,0⟩] scope pos) 0 it acc env) R s:=by
 refine codeAny_loop rfl I (λn s hI=> ?_) n h
 show AH _ A ((compTurn (.ListComp elt [⟨target,iter,ifs,0⟩] scope pos) 0 it acc env).onRaise (λx=>do noteFrame x env;theTreesLotGoes x)) _ _ s
 refine wpAny_noted ?_
 rw [compTurn_list]
 refine AG (wpAny_standAt (AG (wpAny_mono (turn n s hI) (λr s₁ h₁=> ?_) λ_ _ h'=>h'.elim)))
 cases r with
 |none=>exact AR h₁
 |some v=>
  refine AG (wpAny_mono h₁ (λ_ s₁' h₁'=> ?_) λ_ _ h'=>h'.elim)
  refine AG (wpAny_mono h₁' (λ_ s₂ h₂=>AG (wpAny_mono h₂ (λok s₃ h₃=> ?_) λ_ _ h'=>h'.elim)) λ_ _ h'=>h'.elim)
  cases ok with
  |false=>exact AR ⟨rfl,h₃⟩
  |true=>
   exact AG (AG (wpAny_mono h₃ (λx s₄ h₄=>AG (wpAny_mono h₄ (λ_ s₅ h₅=>AR (AR ⟨rfl,h₅⟩)) λ_ _ h'=>h'.elim)) λ_ _ h'=>h'.elim))
end
def PCs(X:Cx)(ifs:List AF)(t:TT):Prop:=
 ∀pins s σ (H:Hp) (Q:Bool->Hp->Prop),Inv X pins σ H s->t σ H Q->
  AH (model X.prog X.w) X.A (forIn ifs true λc r=>if r=true then do let ok<-isTrue c X.env (eval c X.env);pure (ForInStep.yield ok) else pure (ForInStep.yield r)) (TP X pins σ Q) X.xe s
def c4R:TT:=λ_ H Q=>Q true H
theorem c03{X:Cx}:PCs X [] c4R:=λpins s σ H Q I h=>wpAny_tests_nil ⟨H,I,h⟩
theorem c04{X:Cx}{c:AF}{t:TT}(h:PT X c t):PCs X [c] t:=λpins s σ H Q I hq=>wpAny_tests_one (h pins s σ H Q I hq)
def b5T(wi:TI)(g:TG)(tc:TT)(te:TE)(k:Nat):TE:=λσ H Q=>wi σ H λJ H1=>∀D,H1 D=ζ->∃W:Nat->Nat->List V->Hp->Prop,(∃m,W 0 m [] (A5 H1 D (.lst [])))/\∀i m xs H2,W i m xs H2->H2 D=ξ (.lst xs)->
 (J.stop i H2/\Q (.ref D) H2)\/(J.go i H2/\∀x H3,J.yld i H2 x H3->g x (σ++AU k ζ) H3 λσ4 H4=>(∀(j:Nat) v,(σ++AU k ζ)[j]?=ξ (ξ v)->σ4[j]?=ξ (ξ v))/\tc σ4 H4 λb H5=>if b=true then te σ4 H5 λv H6=>H6 D=ξ (.lst xs)/\xs.length<AN/\∃m',m'<m/\W (i+1) m' (xs++[v]) (A5 H6 D (.lst (xs++[v])))
  else H5 D=ξ (.lst xs)/\∃m',m'<m/\W (i+1) m' xs H5)
section
variable {X:Cx}{elt iter tg:AF}{ifs:List AF}{scope:Scope}{N0 ys:List Str}{wi:TI}{g:TG}{tc:TT}{te:TE}{pos:Pos}
theorem a2T{pins:List (AA×Obj)}{σ:St}{H:Hp}{s:AC}(I:Inv X pins σ H s)(S:Z1 X.N N0 ys X.env scope){x:Str}(h:(x,NameKind.free)∈scope.names):∃c,X.env.cells.lookup x=ξ c:=I.ok.has x (S.fr _ h rfl)
theorem b3X{pins:List (AA×Obj)}{σ:St}{H:Hp}{s:AC}{fp:List AA}(S:Z1 X.N N0 ys X.env scope)(I:Inv X pins σ H s)(hf:∀b∈fp,a5e X pins H b)(ho:∀b∈fp,∃o,s.heap.get? b=ξ o/\∀v,o.data≠.cell v):
 Inv (P7 X N0 scope ys s.heap.objs.size fp pins s H) [] (σ++AU ys.length ζ) H {s with heap:=pushCells (s.heap.push {cls:= .type "dict",data:= .dict #[]}) scope.names}:=by
 have up:∀b o,s.heap.get? b=ξ o->(pushCells (s.heap.push {cls:= .type "dict",data:= .dict #[]}) scope.names).get? b=ξ o:=λb o e=>pushCells_keeps _ _ b o (AS _ e)
 have okc:=cellsFrom_ok scope.names (s.heap.push {cls:= .type "dict",data:= .dict #[]}) (s.heap.objs.size+1) [] ⟨λ_ _ hm=>(nomatch hm),List.Pairwise.nil⟩ (by rw [Heap.size_push];exact AV _)
 rw [Heap.size_push] at okc
 have cel:∀x c,(V8 scope s.heap.objs.size X.env).cells.lookup x=ξ c->((x,c)∈cellsFrom (s.heap.objs.size+1) scope.names []/\(x,NameKind.cell)∈scope.names/\s.heap.objs.size<c)\/(X.env.cells.lookup x=ξ c/\(x,NameKind.free)∈scope.names):=λx c e=>by
  have m:=PySem.mem_of_lookup e;have m:(x,c)∈cellsFrom (s.heap.objs.size+1) scope.names (a0S X.env.cells scope.names []):=m;rw [O5] at m;rcases Av.mp m with m|m
  ·obtain⟨h1,h2⟩:=X3 m;exact .inl ⟨m,h2,h1⟩
  ·rcases a6N m with m|⟨m,e⟩
   ·exact nomatch m
   ·obtain⟨c',hc'⟩:=a2T I S m;rw [hc'] at e;exact .inr ⟨by rw [hc',e];rfl,m⟩
 have celLt:∀x c,X.env.cells.lookup x=ξ c->c<s.heap.objs.size:=λx c e=>let ⟨_,h⟩:=I.cell x c e;h.lt
 have fpLt:∀b∈fp,b<s.heap.objs.size:=λb hb=>let ⟨_,e,_⟩:=ho b hb;AW e
 have cellNo:∀x,(x,NameKind.cell)∉scope.names->(cellsFrom (s.heap.objs.size+1) scope.names []).lookup x=ζ:=λx hx=>a8Q λc m=>hx (X3 m).2
 have look:∀x,(x,NameKind.free)∈scope.names->(V8 scope s.heap.objs.size X.env).cells.lookup x=X.env.cells.lookup x:=λx m=>by
  have hl:=L7 S.nd m;have hn:(x,NameKind.cell)∉scope.names:=λz=>by
   have:=L7 S.nd z;rw [hl] at this;cases this
  show(cellsFrom (s.heap.objs.size+1) scope.names (a0S X.env.cells scope.names [])).lookup x=_;rw [O5,a47 (cellNo x hn),a2G S.nd hl];obtain⟨c,hc⟩:=a2T I S m;rw [hc];rfl
 have kindF:∀x,scope.names.lookup x=ξ .free->X.env.kindOf x=ξ .cell\/X.env.kindOf x=ξ .free:=λx h=>S.fr _ (PySem.mem_of_lookup h) rfl
 refine⟨⟨I.mod,S.kind,I.ok.glob,I.ok.blt,AV _,λx y c h1 h2=> ?_,λx h=> ?_,λx c h1 h2=> ?_,I.ok.hd,I.ok.frames,.inl rfl,λb hb=> ?_,I.bs,Nat.le_trans I.ok.bsz I.sz,λb o e hb=> ?_,λb hb hz=> ?_,I.stack,I.stkFree⟩,
  rfl,I.bare,Un.kept up,⟨λ_=>ζ, ?_,λi x v h1 h2 h3=> ?_⟩,λx c e=> ?_,I.hok.fresh (AV _),λx c e=> ?_,λp hp=> ?_,I.hok.kept up, ?_⟩
 ·rcases cel x c h1 with⟨a1,b1,c1⟩|⟨a1,b1⟩
  ·rcases cel y c h2 with⟨a2,b2,c2⟩|⟨a2,b2⟩
   ·exact name_of_addr okc.apart a1 a2
   ·exact absurd (Nat.lt_trans c1 (celLt y c a2)) (Nat.lt_irrefl _)
  ·rcases cel y c h2 with⟨a2,b2,c2⟩|⟨a2,b2⟩
   ·exact absurd (Nat.lt_trans c2 (celLt x c a1)) (Nat.lt_irrefl _)
   ·exact I.ok.inj x y c a1 a2
 ·have hk:(V8 scope s.heap.objs.size X.env).kindOf x=ξ .cell\/(V8 scope s.heap.objs.size X.env).kindOf x=ξ .free:=h
  rw [a09] at hk
  cases e:scope.names.lookup x with
  |none=>rw [e] at hk;rcases hk with z|z<;>cases z
  |some k=>
   rw [e] at hk
   have hk':k= .cell\/k= .free:=by
    by_cases c:(k==NameKind.free && X.env.scope.kind== .function && X.env.kindOf x==ξ .cell)=true
    ·have:(k==NameKind.free)=true:=by
      rw [χ,χ] at c;exact c.1.1
     exact .inr (by simpa using this)
    ·simp only [An] at hk;rw [if_neg c] at hk;rcases hk with z|z
     ·cases z;exact .inl rfl
     ·cases z;exact .inr rfl
   rcases hk' with rfl|rfl
   ·have q:=PySem.W.cellsFrom_some (x:=x) scope.names (s.heap.objs.size+1) (a0S X.env.cells scope.names []) (.inl e)
    exact Option.isSome_iff_exists.mp q
   ·obtain⟨c,hc⟩:=a2T I S (PySem.mem_of_lookup e)
    exact⟨c,by show(V8 scope s.heap.objs.size X.env).cells.lookup x=_;rw [look x (PySem.mem_of_lookup e)];exact hc⟩
 ·rcases cel x c h2 with⟨_,_,c1⟩|⟨_,b1⟩
  ·exact BH c1
  ·have h1':(scope.names.lookup x==ξ .cell)=true:=h1
   rw [L7 S.nd b1] at h1'
   cases h1'
 ·refine⟨Ak (fpLt b hb),λx c e z=> ?_⟩
  rcases cel x c e with⟨_,_,c1⟩|⟨a1,_⟩
  ·rw [z] at c1;exact absurd (Nat.lt_trans c1 (fpLt b hb)) (Nat.lt_irrefl _)
  ·exact(hf b hb).2.2.2.2.1 x c a1 z
 ·have hb:b∈fp:=hb
  rcases(hf b hb).2.2.2.1 with z|z
  ·exact I.ok.noex b o e z
  ·have h1:=(I.ok.bs b o e).1
   have:=AW h1
   exact absurd (As this z) (Nat.lt_irrefl _)
 ·have hb:b∈fp:=hb
  have hz:b∈frs X.stack:=hz
  rcases Ah.mp (I.stkSub b hz) with z|z
  ·exact(hf b hb).2.1 z
  ·exact(hf b hb).2.2.1 z
 ·exact(Heap.Ns.new s.heap (.type "dict")).keeps (pushCells_keeps _ _)
 ·have h1:(N0++ys)[i]?=ξ x:=h1
  rw [S.eq] at h1
  have hi:i<σ.length:=by
   by_cases hi:i<σ.length
   ·exact hi
   ·rw [List.getElem?_append_right (by lia),List.getElem?_replicate] at h2
    split at h2<;>cases h2
  rw [BB hi] at h2
  rw [BB (by rw [AY,<-I.len];exact hi),Aw] at h1
  have hvis:Vis (V8 scope s.heap.objs.size X.env).scope x:=h3
  have hkn:scope.names.lookup x=ζ->False:=λz=>by
   have hk:∀k,(V8 scope s.heap.objs.size X.env).kindOf x=ξ k->scope.names.lookup x≠ζ:=λk z e=>by
    rw [a09,e] at z;cases z
   rcases hvis with e|e|e<;>exact absurd z (hk _ e)
  have h1:X.N[i]?=ξ x/\ys.contains x=false:=by
   cases e0:X.N[i]? with
   |none=>rw [e0] at h1;cases h1
   |some x0=>
    rw [e0] at h1;have h1:hid ys x0=x:=Option.some.inj h1;have ho:=S.ou x0 (BE e0);cases hc:ys.contains x0 with
    |true=>exact(hkn (by rw [<-h1];exact ho.1 hc)).elim
    |false=>
     have hx:x0=x:=by rw [<-h1];unfold hid;rw [if_neg (by rw [hc];exact Ao)]
     subst hx;exact⟨rfl,hc⟩
  obtain⟨h1,hys⟩:=h1
  have hfree:scope.names.lookup x=ξ .free:=by
   have hk:∀k,(V8 scope s.heap.objs.size X.env).kindOf x=ξ k->scope.names.lookup x≠ζ:=λk z e=>by
    rw [a09,e] at z;cases z
   rcases(S.ou x (BE h1)).2 hys with z|z|z
   ·rcases hvis with e|e|e<;>exact absurd z (hk _ e)
   ·exact z
   ·have hg:(V8 scope s.heap.objs.size X.env).kindOf x=ξ .globalImplicit:=by
     rw [a09,z];rfl
    rcases hvis with e|e|e
    ·have e:(V8 scope s.heap.objs.size X.env).kindOf x=ξ .local:=e;rw [hg] at e;cases e
    ·have e:(V8 scope s.heap.objs.size X.env).kindOf x=ξ .cell:=e;rw [hg] at e;cases e
    ·have e:(V8 scope s.heap.objs.size X.env).kindOf x=ξ .free:=e;rw [hg] at e;cases e
  obtain⟨m,hn,hl⟩:=I.loc
  have hv:Vis X.env.scope x:=by
   rcases kindF x hfree with z|z
   ·exact .inr (.inl z)
   ·exact .inr (.inr z)
  obtain⟨u,r,l⟩:=hl i x v h1 h2 hv
  refine⟨u,r, ?_⟩
  rcases l with⟨k,_⟩|⟨k,c,e,z⟩
  ·rcases kindF x hfree with q|q<;>rw [q] at k<;>cases k
  ·refine .inr ⟨?_,c,by show(V8 scope s.heap.objs.size X.env).cells.lookup x=_;rw [look x (PySem.mem_of_lookup hfree)];exact e,z.keeps up⟩
   show(V8 scope s.heap.objs.size X.env).kindOf x=ξ .cell\/(V8 scope s.heap.objs.size X.env).kindOf x=ξ .free
   rw [a09,hfree]
   by_cases cc:((NameKind.free==NameKind.free)&& X.env.scope.kind== .function && X.env.kindOf x==ξ .cell)=true
   ·exact .inl (congrArg ξ (if_pos cc))
   ·exact .inr (congrArg ξ (if_neg cc))
 ·rcases cel x c e with⟨a1,_,_⟩|⟨a1,_⟩
  ·exact⟨ζ,(okc.empty x c a1).1⟩
  ·obtain⟨v,z⟩:=I.cell x c a1
   exact⟨v,z.keeps up⟩
 ·rcases cel x c e with⟨_,_,c1⟩|⟨a1,_⟩
  ·exact I.hok.fresh (BH c1)
  ·exact I.freeC x c a1
 ·have hp:p∈(X.pn++pins)++[]:=hp
  rw [Al] at hp
  obtain⟨e,n,ne,nf,d⟩:=I.pin p hp
  refine⟨up _ _ e,n,Ak (AW e),λhz=> ?_,d⟩
  have hz:p.1∈frs X.stack:=hz
  rcases Ah.mp (I.stkSub p.1 hz) with z|z
  ·exact ne z
  ·exact nf z
 ·show(σ++AU ys.length ζ).length=(N0++ys).length
  rw [AQ,List.length_replicate,AQ,S.eq,AY,I.len]
def b7l(X:Cx)(pins:List (AA×Obj))(C:AA):Prop:=C≠X.env.locals/\X.s₀.heap.objs.size<=C/\(∀x c,X.env.cells.lookup x=ξ c->c≠C)/\∀p∈X.pn++pins,p.1≠C
theorem b0f{pos':Pos}{use:Υ (AB->Sem Unit)}{QQ:AB->AC->Prop}(hx:∀e s,X.xe e s->False)(hc:X.calm=true)(S:Z1 X.N N0 ys X.env scope)(hi:PI X tg iter wi)
 (hg:∀C fp pins s H,PG (P7 X N0 scope ys C fp pins s H) tg g) (ht:∀C fp pins s H,PCs (P7 X N0 scope ys C fp pins s H) ifs tc) (he:∀C fp pins s H,PE (P7 X N0 scope ys C fp pins s H) elt te)
 (hs:∀x,foldedSetIterable iter X.env x=pure x) {pins:List (AA×Obj)} {s:AC} {σ:St} {H:Hp} {Q:VK} (I:Inv X pins σ H s) (h:b5T wi g tc te ys.length σ H Q)
 (fin:∀D C s' H' m,Inv X pins σ H' s'->s'.heap.Ns C m->H' C=ζ->b7l X pins C->Q (.ref D) H'->compPost (model X.prog X.w) X.A X.xe use QQ (.ref D) C (.ok .next) s'):
 AH (model X.prog X.w) X.A (comprehension (.ListComp elt [⟨tg,iter,ifs,0⟩] scope pos) scope X.env pos' (newList []) false (eval iter X.env) use) QQ X.xe s:=by
 have hcl:closureFor scope X.env=pure (a0S X.env.cells scope.names []):=a9Q λx hx' hk=>by
  obtain⟨c,e⟩:=a2T (ys:=ys) I S (x:=x.1) (by rw [<-hk];exact hx')
  rw [e];rfl
 refine wpAny_comprehension_free (use:=use) rfl hs hcl S.kind (λx hx' hk=>L7 S.nd (by rw [<-hk];exact hx')) (M9 (hi pins s σ H _ I h) λv s1 h1=>M9 h1 λitv s2 h2=> ?_)
 obtain⟨it,fp,tn,J,H2,e,I2,T,st2,f2,hW⟩:=h2
 subst e
 have hfr:=I2.hok.fresh (AV _)
 obtain⟨W,⟨m0,w0⟩,turn⟩:=hW s2.heap.objs.size hfr
 have fpLt:∀b∈fp,b<s2.heap.objs.size:=λb hb=>let ⟨_,e,_⟩:=T.obj _ _ st2 b hb;AW e
 refine wpAny_newObj_type ?_
 have I3:Inv X pins σ (A5 H2 s2.heap.objs.size (.lst [])) {s2 with heap:=s2.heap.push {cls:= .type "list",data:= .seq ([]:List AB).toArray}}:=
  I2.laid (t':=s2.toks) (λb o e=>AS _ e) (AV _) ⟨by decide,[],0,.nil,Am _ rfl⟩
 have up3:∀b o,s2.heap.get? b=ξ o->(s2.heap.push {cls:= .type "list",data:= .seq ([]:List AB).toArray}).get? b=ξ o:=λb o e=>AS _ e
 have st3:tn 0 (s2.heap.push {cls:= .type "list",data:= .seq ([]:List AB).toArray}):=T.keep _ _ _ st2 λb _ o e=>up3 b o e
 have f3:∀b∈fp,a5e X pins (A5 H2 s2.heap.objs.size (.lst [])) b:=λb hb=>⟨by rw [l6 (Ak (fpLt b hb))];exact(f2 b hb).1,(f2 b hb).2⟩
 generalize hs3:({s2 with heap:=s2.heap.push {cls:= .type "list",data:= .seq ([]:List AB).toArray}}:AC)=s3 at I3
 have hs3h:s3.heap=s2.heap.push {cls:= .type "list",data:= .seq ([]:List AB).toArray}:=by rw [<-hs3]
 rw [<-hs3h] at st3 up3
 refine a4T ?_
 have I4:=b3X S I3 f3 (T.obj _ _ st3)
 generalize hs4:({s3 with heap:=pushCells (s3.heap.push {cls:= .type "dict",data:= .dict #[]}) scope.names}:AC)=s4 at I4 ⊢
 have hs4h:s4.heap=pushCells (s3.heap.push {cls:= .type "dict",data:= .dict #[]}) scope.names:=by rw [<-hs4]
 have st4:tn 0 s4.heap:=T.keep _ _ _ st3 λb _ o e=>by rw [hs4h];exact pushCells_keeps _ _ b o (AS _ e)
 generalize hX:P7 X N0 scope ys s3.heap.objs.size fp pins s3 (A5 H2 s2.heap.objs.size (.lst []))=Y at I4
 have Yp:Y.prog=X.prog:=by rw [<-hX];rfl
 have Yw:Y.w=X.w:=by rw [<-hX];rfl
 have YK:Y.K=X.K:=by rw [<-hX];rfl
 have YA:Y.A=X.A:=by rw [<-hX];rfl
 have Yc:Y.calm=true:=by rw [<-hX];exact hc
 have Yx:Y.xe=X.xe:=by rw [<-hX];rfl
 have YL:Y.env.locals=s3.heap.objs.size:=by rw [<-hX];rfl
 have Yf:Y.fs=frs X.stack:=by rw [<-hX];rfl
 have Ye:Y.ex=fp:=by rw [<-hX];rfl
 have Yn:Y.pn=X.pn++pins:=by rw [<-hX];rfl
 have Ys:Y.s₀=s3:=by rw [<-hX];rfl
 have YH:Y.H₀=A5 H2 s2.heap.objs.size (.lst []):=by rw [<-hX];rfl
 have YE:Y.env=V8 scope s3.heap.objs.size X.env:=by rw [<-hX];rfl
 have hgY:PG Y tg g:=by rw [<-hX];exact hg _ _ _ _ _
 have htY:PCs Y ifs tc:=by rw [<-hX];exact ht _ _ _ _ _
 have heY:PE Y elt te:=by rw [<-hX];exact he _ _ _ _ _
 have nlen:(σ++AU ys.length ζ).length=Y.N.length:=I4.len
 have exf:=I4.ok.exf
 have exfs:=I4.ok.exfs
 have stat:∀{H':Hp},(∀b∈fp,H' b=ζ)->∀b∈fp,a5e Y [] H' b:=λ {H'} hn b hb=>by
  have hb':b∈Y.ex:=by rw [Ye];exact hb
  refine⟨hn b hb,(exf b hb').1,exfs b hb',.inl hb',(exf b hb').2,λp hp=> ?_⟩;rw [Al,Yn] at hp;exact(f2 b hb).2.2.2.2.2 p hp
 have TY:b01 Y.prog Y.w Y.K tg J fp it tn:=by rw [Yp,Yw,YK];exact T
 have noX:∀e s,Y.xe e s->False:=λe s h=>hx e s (by rw [<-Yx];exact h)
 have loop:∀R:Result->AC->Prop,(∀s' H' m,Inv X pins σ H' s'->s'.heap.Ns s3.heap.objs.size m->H' s3.heap.objs.size=ζ->b7l X pins s3.heap.objs.size->Q (.ref s2.heap.objs.size) H'->R (.ok .next) s')->
  codeAny (model X.prog X.w) X.A (.compLoop (.ListComp elt [⟨tg,iter,ifs,0⟩] scope pos) 0 (.ref it) (.ref s2.heap.objs.size) (V8 scope s3.heap.objs.size X.env)) R s4:=by
  intro R hR
  refine a4P (λn s'=>∃i xs H' σ',Inv Y [] σ' H' s'/\(∀(j:Nat) v,(σ++AU ys.length ζ)[j]?=ξ (ξ v)->σ'[j]?=ξ (ξ v))/\tn i s'.heap/\(∀b∈fp,H' b=ζ)/\H' s2.heap.objs.size=ξ (.lst xs)/\W i n xs H') ?_ m0
   ⟨0,[],_,_,I4,λ_ _ e=>e,st4,λb hb=>(f3 b hb).1,p9,w0⟩
  rintro n s5 ⟨i,xs,H5,σ5,I5,k5,st5,fr5,hD5,w5⟩
  have I5:Inv Y [] (σ++AU ys.length ζ) H5 s5:=I5.weak (by rw [nlen,I5.len]) k5
  rw [<-Yp,<-Yw,<-YA]
  rcases turn i n xs H5 w5 hD5 with⟨stop,q⟩|⟨go,step⟩
  ·refine wpAny_mono (TY.done Y rfl rfl rfl Yc i [] s5 _ H5 (λ_ _=>False) I5 (stat fr5) st5 stop) (λr s6 ⟨hr,I6⟩=> ?_) λ_ _ z=>z
   subst hr
   obtain⟨m,hn,_⟩:=I6.loc
   have un:=I6.base
   rw [Yf,Ye,Ys,YH] at un
   rw [YL] at hn
   have hfC:=I6.free
   rw [YL] at hfC
   refine hR s6 H5 m (I3.call' (ch:=fp) (by rw [I6.os,Ys]) un (by have z:=I6.hok;rw [Yp,Yw] at z;exact z) I6.bare λb hb=>⟨(f3 b hb).2.2.2.1,(f3 b hb).2.1,(f3 b hb).2.2.2.2.1,(f3 b hb).2.2.2.2.2⟩) hn hfC ⟨Nat.ne_of_gt I3.lt,I3.sz,λx c e=> ?_,λp hp=> ?_⟩ q
   ·obtain⟨v,z⟩:=I3.cell x c e
    exact Ak z.lt
   ·exact Ak (AW (I3.pin p hp).1)
  ·refine wpAny_mono (TY.item Y rfl rfl rfl Yc i [] s5 _ H5 (λ_ _=>False) I5 (stat fr5) st5 go) (λr s6 ⟨u,hr,h6⟩=> ?_) λ_ _ z=>z
   subst hr
   dsimp only
   refine wpAny_mono h6 (λ_ s7 ⟨x,H7,I7,r7,y7,st7,fr7⟩=> ?_) λ_ _ z=>z
   have I7':=I7.pinned (stat fr7) (T.obj _ _ st7)
   rw [<-YE]
   have keepT:∀{σ8:St} {H8:Hp} {s8:AC},Inv Y ([]++a9f fp s7.heap) σ8 H8 s8->tn (i+1) s8.heap/\∀b∈fp,H8 b=ζ:=λ {σ8 H8 s8} I8=>by
    refine⟨T.keep _ _ _ st7 λb hb o e=>(I8.pin (b,o) (Ay _ (Ay _ (a2V hb e)))).1,λb hb=> ?_⟩;obtain⟨o,e,d⟩:=T.obj _ _ st7 b hb;exact(I8.pin (b,o) (Ay _ (Ay _ (a2V hb e)))).2.1
   refine wpAny_mono (hgY _ s7 _ H7 x u _ I7' r7 (step x H7 y7)) (λ_ s8 h0=>w8 h0 λσ8 H8 I8 k8 q8=> ?_) λe s z=>noX e s z
   refine wpAny_mono (htY _ s8 σ8 H8 _ I8 q8) (λb s9 ⟨H9,I9,q9⟩=> ?_) λe s z=>noX e s z
   cases b with
   |false=>
    rw [if_neg Ao] at q9 ⊢
    obtain⟨hD9,m',lt,w9⟩:=q9
    obtain⟨t9,n9⟩:=keepT I9
    exact⟨m',lt,i+1,xs,H9,σ8,I9.pins_of (λp hp=>nomatch hp),k8,t9,n9,hD9,w9⟩
   |true=>
    rw [if_pos rfl] at q9 ⊢
    refine wpAny_mono (heY _ s9 σ8 H9 _ I9 q9) (λy s10 ⟨v,H10,I10,r10,hD10,hz,m',lt,w10⟩=> ?_) λe s z=>noX e s z
    refine wpAny_mono (b0A _ s10 σ8 H10 (.ref s2.heap.objs.size) [v] (.ref s2.heap.objs.size) [y] (λ_ H'=>H'=A5 H10 s2.heap.objs.size (.lst (xs++[v]))) I10 rfl (.cons r10 .nil) ⟨_,xs,v,rfl,rfl,hD10,hz,rfl⟩) (λ_ s11 h0=>w8 h0 λ_ H11 I11 _ e11=> ?_) λe s z=>noX e s z
    subst e11
    obtain⟨t11,n11⟩:=keepT I11
    exact⟨m',lt,i+1,xs++[v],_,σ8,I11.pins_of (λp hp=>nomatch hp),k8,t11,n11,p9,w10⟩
 show codeAny _ _ (.compStart _ 0 _ _ (V8 scope s3.heap.objs.size X.env)) _ _
 refine codeAny_compStart_list (loop _ λs' H' m a b c d e=>fin _ _ s' H' m a b c d e) (T.self _ 0 _ _ _ st4 (loop _ λs' H' m a b c d e=>fin _ _ s' H' m a b c d e))
theorem c06(hx:∀e s,X.xe e s->False)(hc:X.calm=true)(S:Z1 X.N N0 ys X.env scope)(hi:PI X tg iter wi)
 (hg:∀C fp pins s H,PG (P7 X N0 scope ys C fp pins s H) tg g) (ht:∀C fp pins s H,PCs (P7 X N0 scope ys C fp pins s H) ifs tc) (he:∀C fp pins s H,PE (P7 X N0 scope ys C fp pins s H) elt te)
 (hs:∀x,foldedSetIterable iter X.env x=pure x:=by intro _;rfl):PE X (.ListComp elt [⟨tg,iter,ifs,0⟩] scope pos) (b5T wi g tc te ys.length):=by
 intro pins s σ H Q I h
 rw [eval_ListComp]
 refine b0f hx hc S hi hg ht he hs I h λD C s' H' m I' hn hC a3m q=>⟨m,hn,λh' hs'=>⟨.ref D,H', ?_,rfl,q⟩⟩
 obtain⟨g1,g2,g3,g4⟩:=a3m
 exact I'.turned (t':=s'.toks) (λb o hb e=>hs'.extBut b o hb e) hC g1 (.inr g2) g3 g4
theorem c1b{i:Nat}{y:Str}{py spos:Pos}(hx:∀e s,X.xe e s->False)(hc:X.calm=true)(S:Z1 X.N N0 ys X.env scope)(hi:PI X tg iter wi)
 (hg:∀C fp pins s H,PG (P7 X N0 scope ys C fp pins s H) tg g) (ht:∀C fp pins s H,PCs (P7 X N0 scope ys C fp pins s H) ifs tc) (he:∀C fp pins s H,PE (P7 X N0 scope ys C fp pins s H) elt te)
 (hN:X.N.Nodup) (hiy:X.N[i]?=ξ y) (hy:X.env.scope.names.lookup y=ξ .local)
 (hsw:swapsWith (.ListComp elt [⟨tg,iter,ifs,0⟩] scope pos) (ξ (.Name y py)) spos.line X.env=pure true)
 (hs:∀x,foldedSetIterable iter X.env x=pure x:=by intro _;rfl):PS X (.Assign [.Name y py] (.ListComp elt [⟨tg,iter,ifs,0⟩] scope pos) spos) (λD σ H=>b5T wi g tc te ys.length σ H λv H'=>D.nx (σ.set i (ξ v)) H'):=by
 intro pins s σ H D I h
 rw [exec_Assign_Name_used _ _ _ _ hsw]
 refine AG (wpAny_standAt (AG ?_))
 show AH _ X.A (do let _<-comprehension (.ListComp elt [⟨tg,iter,ifs,0⟩] scope pos) scope X.env _ (newList []) false (eval iter X.env) (ξ (assign (.Name y py) X.env))) _ _ s
 refine AG (wpAny_mono (b0f (QQ:=λ_ s'=>SP X pins D .next s') hx hc S hi hg ht he hs I h λL C s' H' m I' hn hC a3m q=> ?_) (λ_ s' hq=>AR (AR hq)) λ_ _ e=>e)
 obtain⟨g1,g2,g3,g4⟩:=a3m
 show AH _ X.A (assign (.Name y py) X.env (.ref L)) _ _ _
 refine wpAny_assign_Name (b0V (v:= .ref L) I' hN hiy (.inl hy) rfl (λs2 I2 ⟨a,sb,ha⟩=> ?_) (.inr hy))
 have hCa:C≠a:=by
  rcases ha with z|z
  ·rw [z];exact g1
  ·exact λe=>g3 y a z e.symm
 refine⟨m,hn.sameBut sb hCa,λh' hs'=>⟨_,H',I2.turned (t':=s2.toks) (λb o hb e=>hs'.extBut b o hb e) hC g1 (.inr g2) g3 g4,q⟩⟩
end
end L2
namespace PU
open L2
def a44(c:MT)(elt:M)(tg:PV->b9->Υ b9)(ρ:b9):List PV->Υ (List PV)
 |[]=>ξ []
 |p::ps=>(tg p ρ).bind λρ1=>(c ρ1).bind λb=>if b=true then((elt ρ1).bind g0.toVal).bind λq=>(a44 c elt tg ρ ps).bind λr=>ξ (q::r) else a44 c elt tg ρ ps
def W3:MT:=λ_=>ξ true
def O3(k:Nat)(it:MI)(tg:PV->b9->Υ b9)(c:MT)(elt:M):M:=λρ=>(it ρ).bind λps=>if ps.length<=AN then(a44 c elt tg (ρ++AU k ζ) ps).bind λr=>ξ (.own r) else ζ
def a98(K:AE)(n:Nat)(g:TG)(tg:PV->b9->Υ b9):Prop:=
 ∀F H σ ρ ρ1 p x (Q:L2.St->Hp->Prop),V6 K F H σ ρ->P5 K F p x->tg p ρ=ξ ρ1->(∀σ',V6 K F H σ' ρ1->(∀(j:Nat),j<n->σ'[j]?=σ[j]?)->Q σ' H)->g x σ H Q
theorem V6.set{K:AE}{F H:Hp}{σ:L2.St}{ρ:b9}{p:PV}{x:V}(e:V6 K F H σ ρ)(r:P5 K F p x)(i:Nat):V6 K F H (σ.set i (ξ x)) (ρ.set i (ξ (.v p))):=by
 refine⟨e.fh,by simp [e.len],λj q h=> ?_,λj ps h=> ?_,λj k ps qs a hjk h1 h2 h3 h4=> ?_⟩
 ·rw [List.getElem?_set] at h ⊢
  by_cases hij:i=j
  ·subst hij;rw [if_pos rfl] at h ⊢;rw [e.len];split at h
   ·rename_i c;cases h;rw [if_pos c];exact⟨x,rfl,r⟩
   ·cases h
  ·rw [if_neg hij] at h ⊢;exact e.at_ j q h
 ·rw [List.getElem?_set] at h
  by_cases hij:i=j
  ·subst hij;rw [if_pos rfl] at h;split at h<;>cases h
  ·rw [if_neg hij] at h;exact e.nb j ps h
 ·have get:∀(j:Nat) (ps:a2y),(ρ.set i (ξ (g0.v p)))[j]?=ξ (ξ (g0.ow ps))->i≠j/\ρ[j]?=ξ (ξ (g0.ow ps)):=λj ps h=>by
   rw [List.getElem?_set] at h
   by_cases hij:i=j
   ·subst hij;rw [if_pos rfl] at h;split at h<;>cases h
   ·rw [if_neg hij] at h;exact⟨hij,h⟩
  obtain⟨n1,h1⟩:=get j ps h1;obtain⟨n2,h2⟩:=get k qs h2;rw [List.getElem?_set_ne n1] at h3;rw [List.getElem?_set_ne n2] at h4;exact e.ap j k ps qs a hjk h1 h2 h3 h4
theorem N8{K:AE}{n i:Nat}(h:n<=i):a98 K n (b2E i) (u8 i):=λF H σ ρ ρ1 p x Q e r q k=>by
 cases q;exact k _ (e.set r i) λj hj=>by rw [List.getElem?_set_ne (by lia)]
theorem V6.more{K:AE}{F H:Hp}{σ:L2.St}{ρ:b9}(e:V6 K F H σ ρ)(k:Nat):V6 K F H (σ++AU k ζ) (ρ++AU k ζ):=by
 have key:∀(j:Nat) (q:g0),(ρ++AU k ζ)[j]?=ξ (ξ q)->ρ[j]?=ξ (ξ q)/\(σ++AU k ζ)[j]?=σ[j]?:=λj q h=>by
  by_cases hj:j<ρ.length
  ·rw [BB hj] at h;rw [BB (by rw [e.len];exact hj)]
   exact⟨h,rfl⟩
  ·rw [List.getElem?_append_right (by lia),List.getElem?_replicate] at h
   split at h<;>cases h
 refine⟨e.fh,by simp [e.len],λj q h=> ?_,λj ps h=>e.nb j ps (key j _ h).1,λj k' ps qs a hjk h1 h2 h3 h4=> ?_⟩
 ·obtain⟨h1,h2⟩:=key j q h;rw [h2];exact e.at_ j q h1
 ·obtain⟨a1,b1⟩:=key j _ h1;obtain⟨a2,b2⟩:=key k' _ h2;rw [b1] at h3;rw [b2] at h4;exact e.ap j k' ps qs a hjk a1 a2 h3 h4
def WC(K:AE)(F H:Hp)(D:AA)(c:MT)(elt:M)(tg:PV->b9->Υ b9)(ρ:b9)(ps r:List PV)(i m:Nat)(xs:List V)(H':Hp):Prop:=
 ∃F' done rest,i<=ps.length/\m=ps.length - i/\Ext F H F' H'/\F' D=ζ/\u5 K F' done xs/\done.length<=i/\a44 c elt tg ρ (ps.drop i)=ξ rest/\done++rest=r
theorem b58{K:AE}{F H:Hp}{D:AA}{c:MT}{elt:M}{tg:PV->b9->Υ b9}{g:TG}{σ:L2.St}{ρ:b9}{k:Nat}{ps r:List PV}{i m:Nat}{xs:List V}{H':Hp}{p:PV}{x:V}
 (T:a98 K ρ.length g tg) (en:V6 K F H σ ρ) (hD:H D=ζ) (hsz:ps.length<=AN) (W:WC K F H D c elt tg (ρ++AU k ζ) ps r i m xs H') (hx:H' D=ξ (.lst xs)) (ep:ps[i]?=ξ p) (rx:P5 K F p x):
 g x (σ++AU k ζ) H' λσ4 H4=>(∀(j:Nat) v,(σ++AU k ζ)[j]?=ξ (ξ v)->σ4[j]?=ξ (ξ v))/\tMT K c σ4 H4 λb H5=>if b=true then tM K elt σ4 H5 λv H6=>H6 D=ξ (.lst xs)/\xs.length<AN/\∃m',m'<m/\WC K F H D c elt tg (ρ++AU k ζ) ps r (i+1) m' (xs++[v]) (A5 H6 D (.lst (xs++[v])))
  else H5 D=ξ (.lst xs)/\∃m',m'<m/\WC K F H D c elt tg (ρ++AU k ζ) ps r (i+1) m' xs H5:=by
 obtain⟨F',done,rest,hi,hm,ex,fD,rl,dl,hc,hr⟩:=W
 have hk:i<ps.length:=(Au.mp ep).1
 have hd:ps.drop i=p::ps.drop (i+1):=by
  rw [List.drop_eq_getElem_cons hk]
  congr 1
  exact(Au.mp ep).2
 rw [hd] at hc
 unfold a44 at hc
 obtain⟨ρ1,e1,hc⟩:=bind_some hc
 obtain⟨b,e2,hc⟩:=bind_some hc
 have en':=(en.ext ex).more k
 refine T F' H' _ _ ρ1 p x _ en' (P5.mono ex.f _ rx) e1 λσ4 en4 keep=>⟨λj v e=> ?_, ?_⟩
 ·by_cases hj:j<ρ.length
  ·rw [keep j hj];exact e
  ·rw [List.getElem?_append_right (by rw [en.len];lia),List.getElem?_replicate] at e
   split at e<;>cases e
 refine⟨F',ρ1,b,en4,e2,λF5 H5 x5=> ?_⟩
 have ex5:=ex.trans x5
 have fD5:F5 D=ζ:=x5.nw D _ fD hx (λ_ h=>nomatch h)
 cases b with
 |false=>
  rw [if_neg Ao] at hc
  refine b2L ⟨x5.h _ _ hx,ps.length - (i+1),by lia,F5,done,rest,by lia,rfl,ex5,fD5,u5.mono x5.f _ rl,by lia,hc,hr⟩
 |true=>
  rw [if_pos rfl] at hc
  obtain⟨q,e3,hc⟩:=bind_some hc
  obtain⟨rt,e4,hc⟩:=bind_some hc
  cases hc
  obtain⟨re,e5,e6⟩:=bind_some e3
  refine b2M ⟨F5,ρ1,re,en4.ext x5,e5,λv F6 H6 o6=> ?_⟩
  obtain⟨F7,o7⟩:=o6.toVal e6
  have hx6:H6 D=ξ (.lst xs):=o6.x.h _ _ (x5.h _ _ hx)
  have fD7:F7 D=ζ:=o7.x.nw D _ fD5 (x5.h _ _ hx) (λ_ h=>nomatch h)
  have ex7:=ex5.trans o7.x
  have hlen:=rl.length
  refine⟨hx6,by lia,ps.length - (i+1),by lia,F7,done++[q],rt,by lia,rfl,⟨ex7.f,λa o z=> ?_,λa o z=> ?_,ex7.nw,ex7.nf⟩,fD7,u5.append (u5.mono (x5.f.trans o7.x.f) _ rl) ⟨v,[],rfl,o7.rep,rfl⟩,by simp;lia,e4,by rw [List.append_assoc];exact hr⟩
  ·rw [l6 (n4 z hD)];exact ex7.h _ _ z
  ·rw [l6 (n4 z fD7)];exact ex7.fh _ _ z
theorem b7E{K:AE}{F H:Hp}{D:AA}{c:MT}{elt:M}{tg:PV->b9->Υ b9}{ρ:b9}{ps r:List PV}{m:Nat}{xs:List V}{H':Hp}(hD:H D=ζ)(W:WC K F H D c elt tg ρ ps r ps.length m xs H')(hx:H' D=ξ (.lst xs)):∃F',B5 K F H F' H' (.ref D) (.own r):=by
 obtain⟨F',done,rest,hi,hm,ex,fD,rl,dl,hc,hr⟩:=W;rw [List.drop_length] at hc;cases hc;rw [Al] at hr;subst hr;exact⟨F',ex,⟨D,xs,rfl,fD,hx,rl⟩,λ_ _ _ e=>by cases e;exact hD⟩
structure Src(K:AE)(F0 F H:Hp)(J:It)(ps:List PV):Prop where
 st:∀i H',u3 H H'->ps.length<=i->J.stop i H'
 go:∀i p H',u3 H H'->ps[i]?=ξ p->J.go i H'
 yd:∀i p x H' H'',u3 H H'->ps[i]?=ξ p->J.yld i H' x H''->H''=H'/\P5 K F p x
def SI(K:AE)(mi:MI)(wi:TI):Prop:=∀F H σ ρ ps (R:It->Hp->Prop),V6 K F H σ ρ->mi ρ=ξ ps->(∀F1 H1 J,Ext F H F1 H1->Src K F F1 H1 J ps->R J H1)->wi σ H R
abbrev EI(X:Cx)(tg iter:AF)(mi:MI):Prop:=∃wi,PI X tg iter wi/\SI X.K mi wi
section
variable {X:Cx}{tg:AF}
def A3(m:M):MI:=λρ=>(m ρ).bind λr=>PyData.items? r.rd
theorem a3L{l:AF}{m:M}(h:EE X l m):EI X tg l (A3 m):=⟨_,b89 h,λF H σ ρ ps R en e k=>by
 obtain⟨r,e1,e2⟩:=bind_some e;refine⟨F,ρ,r,en,e1,λv F1 H1 o1=> ?_⟩;obtain⟨a,xs,rfl,hq,rl⟩:=W0 o1.x.fh o1.rep e2;have hlen:=rl.length;rcases hq with hq|hq
 ·refine⟨a,rfl,.inl ⟨⟨xs,hq⟩,k F1 H1 _ o1.x ⟨λi H2 s h=>⟨xs,B8 s hq,by lia⟩,λi p H2 s h=> ?_,λi p x H2 H3 s h y=> ?_⟩⟩⟩
  ·obtain⟨v,ev,_⟩:=rl.get h;exact⟨xs,v,B8 s hq,ev⟩
  ·obtain⟨v,ev,rv⟩:=rl.get h;obtain⟨e,y⟩:=y;have:=y xs (B8 s hq);rw [ev] at this;cases this;exact⟨e,rv⟩
 ·refine⟨a,rfl,.inr ⟨⟨xs,hq⟩,k F1 H1 _ o1.x ⟨λi H2 s h=>⟨xs,E5 s hq,by lia⟩,λi p H2 s h=> ?_,λi p x H2 H3 s h y=> ?_⟩⟩⟩
  ·obtain⟨v,ev,_⟩:=rl.get h;exact⟨xs,v,E5 s hq,ev⟩
  ·obtain⟨v,ev,rv⟩:=rl.get h;obtain⟨e,y⟩:=y;have:=y xs (E5 s hq);rw [ev] at this;cases this;exact⟨e,rv⟩⟩
abbrev EC(X:Cx)(ifs:List AF)(c:MT):Prop:=PCs X ifs (tMT X.K c)
theorem a3H:EC X [] W3:=λpins s σ H Q I ⟨F,ρ,b,en,e,k⟩=>by
 cases e;exact c03 pins s σ H Q I (k F H (Ext.refl en.fh))
theorem c2s{c:AF}{mc:MT}(h:ET X c mc):EC X [c] mc:=c04 h
theorem b0g{mi:MI}{wi:TI}{g:TG}{c:MT}{elt:M}{t:PV->b9->Υ b9}{N:List Str}{k:Nat}(hi:SI X.K mi wi)(T:∀n,n=N.length->a98 X.K n g t){σ:L2.St}{H:Hp}{Q:VK}(hl:σ.length=N.length)(h:tM X.K (O3 k mi t c elt) σ H Q):b5T wi g (tMT X.K c) (tM X.K elt) k σ H Q:=by
 obtain⟨F,ρ,r,en,e,kk⟩:=h;obtain⟨ps,e1,e⟩:=bind_some e;split at e
 ·rename_i hsz;obtain⟨rs,e2,e⟩:=bind_some e;cases e;refine hi F H σ ρ ps _ en e1 λF1 H1 J x1 S D hD=> ?_;have en1:=en.ext x1;have T':a98 X.K ρ.length g t:=T _ (by rw [<-en.len,hl])
  refine⟨WC X.K F1 H1 D c elt t (ρ++AU k ζ) ps rs,⟨ps.length,F1,[],rs,Nat.zero_le _,rfl,Ext.layH x1.fh hD,x1.fh.free hD,rfl,AV _,e2,rfl⟩,λi m xs H2 W hx=> ?_⟩;have W':=W;obtain⟨F',done,rest,hi',hm,ex,fD,rl,dl,hc,hr⟩:=W';have sF:u3 H1 H2:=ex.h
  by_cases hlt:i<ps.length
  ·refine .inr ⟨S.go i ps[i] H2 sF (by simp [hlt]),λx H3 y=> ?_⟩
   obtain⟨e3,rx⟩:=S.yd i ps[i] x H2 H3 sF (by simp [hlt]) y
   subst e3;exact b58 T' en1 hD hsz W hx (by simp [hlt]) rx
  ·have e3:i=ps.length:=by lia
   subst e3;refine .inl ⟨S.st _ H2 sF (AV _), ?_⟩;obtain⟨F2,o⟩:=b7E hD W hx;exact kk _ F2 H2 (B5.trans x1 o)
 ·cases e
theorem a4C{elt iter:AF}{ifs:List AF}{scope:Scope}{N0 ys:List Str}{mi:MI}{g:TG}{c:MT}{m:M}{t:PV->b9->Υ b9}{pos:Pos}(hx:∀e s,X.xe e s->False)(hc:X.calm=true)(S:Z1 X.N N0 ys X.env scope)(hi:EI X tg iter mi)
 (hg:∀C fp pins s H,PG (P7 X N0 scope ys C fp pins s H) tg g) (T:∀n,n=X.N.length->a98 X.K n g t) (ht:∀C fp pins s H,EC (P7 X N0 scope ys C fp pins s H) ifs c) (he:∀C fp pins s H,EE (P7 X N0 scope ys C fp pins s H) elt m)
 (hs:∀x,foldedSetIterable iter X.env x=pure x:=by intro _;rfl):EE X (.ListComp elt [⟨tg,iter,ifs,0⟩] scope pos) (O3 ys.length mi t c m):=by
 obtain⟨wi,h1,h2⟩:=hi
 intro pins s σ H Q I h
 exact c06 hx hc S h1 hg ht he hs pins s σ H Q I (b0g (N:=X.N) h2 T I.len h)
theorem b1b{i:Nat}{y:Str}{elt iter:AF}{ifs:List AF}{scope:Scope}{N0 ys:List Str}{mi:MI}{g:TG}{c:MT}{m:M}{t:PV->b9->Υ b9}{pos py spos:Pos}(hN:X.N.Nodup)(hx:∀e s,X.xe e s->False)(hc:X.calm=true)(S:Z1 X.N N0 ys X.env scope)(hi:EI X tg iter mi)
 (hg:∀C fp pins s H,PG (P7 X N0 scope ys C fp pins s H) tg g) (T:∀n,n=X.N.length->a98 X.K n g t) (ht:∀C fp pins s H,EC (P7 X N0 scope ys C fp pins s H) ifs c) (he:∀C fp pins s H,EE (P7 X N0 scope ys C fp pins s H) elt m)
 (hiy:X.N[i]?=ξ y:=by rfl) (hy:X.env.scope.names.lookup y=ξ .local:=by rfl) (hsw:swapsWith (.ListComp elt [⟨tg,iter,ifs,0⟩] scope pos) (ξ (.Name y py)) spos.line X.env=pure true:=by rfl)
 (hs:∀x,foldedSetIterable iter X.env x=pure x:=by intro _;rfl):ES X (.Assign [.Name y py] (.ListComp elt [⟨tg,iter,ifs,0⟩] scope pos) spos) (u4 i (O3 ys.length mi t c m)):=by
 obtain⟨wi,h1,h2⟩:=hi
 intro pins s σ H D I ⟨F0,H0,F,ρ,fl,so,e,fin⟩
 obtain⟨r,e1,e⟩:=bind_some e
 split at e
 ·rename_i c
  cases e
  exact c1b hx hc S h1 hg ht he hN hiy hy hsw hs pins s σ H D I (b0g (N:=X.N) h2 T I.len ⟨F,ρ,r,so.e,e1,λv F' H' o=>fin _ F' H' o.x.f (so.set o c i)⟩)
 ·cases e
end
def a3b:List PV->Υ (List Str)
 |[]=>ξ []
 | .str x::r=>(a3b r).map (x::·)
 |_=>ζ
theorem a9z:∀xs:List Str,a3b (xs.map .str)=ξ xs
 |[]=>rfl
 |x::xs=>by rw [AT];simp only [a3b,a9z xs,An]
theorem a5Q{K:AE}{H:Hp}:∀{ps:List PV} {ys:List Str} {xs:List V} {us:List AB},a3b ps=ξ ys->u5 K H ps xs->y0 xs us->StrsAre us ys
 |[],_,_,_,h,r,v=>by cases h;cases r;cases v;exact .nil
 |p::ps,ys,_,_,h,⟨x,r,e,hp,t⟩,v=>by
  subst e;cases p with
  |str z=>
   simp only [a3b] at h;cases q:a3b ps with
   |none=>rw [q] at h;cases h
   |some zs=>
    rw [q] at h;cases h;cases hp;cases v with
    |cons a b=>
     obtain⟨tk,rfl⟩:=a;exact .cons z tk (a5Q q t b)
  |_=>simp [a3b] at h
def M5(x y:g0):Υ g0:=match x with
 | .v (.str z)=>(match PyData.items? y.rd with
   |some ps=>(a3b ps).bind λys=>if(ys.map (·.length)).sum+ys.length*z.length<=16777216 then ξ (.v (.str (Txt.join z ys))) else ζ
   |none=>ζ)
 |_=>ζ
section
variable {X:Cx}
theorem c0M:MtR X "str.join" (λx xs H Q=>∃F y rx ry rz,xs=[y]/\u3 F H/\R0 X.K F H x rx/\R0 X.K F H y ry/\M5 rx ry=ξ rz/\∀v F' H',B5 X.K F H F' H' v rz->Q v H'):=by
 ext w
 unfold M5 at h3;split at h3
 ·rename_i z;split at h3
  ·rename_i ps e;obtain⟨ys,e2,h3⟩:=bind_some h3;split at h3
   ·ext bh
    cases h1;obtain⟨t,rfl⟩:=rx;obtain⟨a,xs,rfl,hq,r⟩:=W0 s0 h2 e;cases ru;rcases hq with hq|hq
    ·obtain⟨its,rv,pl,hz⟩:=I.list hq;exact join_list pl.isList (by simpa using a5Q e2 r rv) c λt' k'=>⟨.str _,H,I.tok _,⟨_,rfl⟩,k _ F H (B5.here s0 rfl)⟩
    ·obtain⟨its,rv,pl,hz⟩:=I.tuple hq;exact join_tuple pl (by simpa using a5Q e2 r rv) c λt' k'=>⟨.str _,H,I.tok _,⟨_,rfl⟩,k _ F H (B5.here s0 rfl)⟩
   ·cases h3
  ·cases h3
 ·cases h3
theorem a1F{o e:AF}{m n:M}{apos cpos:Pos}(ho:EE X o m)(ha:EE X e n)
 (hbase:attributeBase o "join" X.env (eval o X.env)=eval o X.env:=by rfl)
 (hfew:((backTo cpos (AI [e] X.env)).all (λx=> !x.1)&&(backToKw cpos (keywordEach [] X.env)).all (λx=>x.1.isSome)
  && decide ([e].length+([]:List Keyword).length+(if([]:List Keyword).isEmpty then 0 else 1)<30))=true:=by rfl)
 (hline:(apos.endLine==cpos.line)=true:=by rfl) (hs:AI [e] X.env=(false,eval e X.env)::AI [] X.env:=by rfl) (hplain:(backTo cpos (AI [] X.env)).any (·.1)=false:=by rfl):
 EE X (.Call (.Attribute o "join" apos) [e] [] cpos) (m2 M5 m n):=
 B1 (b0G PySem.F.plainAttrs_str PySem.F.slot_str_join PySem.F.type_str_join c0M ho (z7 ha S5 hs) hbase hfew hline hs hplain) λσ H Q h0=>z9 h0 λF ρ r he hm k=>by
  ext e
  unfold M5 at hm;split at hm
  ·cases o1.rep;rfl
  ·cases hm
end
def cut{α:Type}(xs:List α)(lo hi:Υ Int):List α:=(xs.drop (HT.sIx xs.length 0 lo)).take (HT.sIx xs.length xs.length hi - HT.sIx xs.length 0 lo)
theorem a54(n d:Nat)(hd:d<=n)(o:Υ Int):(match o with|none=>(d:Int)|some i=>max 0 (min (if i<0 then i+n else i) n))=((HT.sIx n d o:Nat):Int):=by
 cases o with
 |none=>rfl
 |some i=>unfold HT.sIx;dsimp only;split<;>lia
theorem b91(n:Nat)(lo hi:Υ Int):Builtin.Str.strSliceIndices lo hi 1 n=(Aq (HT.sIx n n hi - HT.sIx n 0 lo)).map (HT.sIx n 0 lo+·):=by
 have h1:=a54 n 0 (Nat.zero_le _) lo;have h2:=a54 n n (AV _) hi;have key:∀a b:Int,a=((HT.sIx n 0 lo:Nat):Int)->b=((HT.sIx n n hi:Nat):Int)->sliceRange a b 1=(Aq (HT.sIx n n hi - HT.sIx n 0 lo)).map (HT.sIx n 0 lo+·):=λa b ha hb=>by rw [ha,hb,sliceRange_one]
 refine key _ _ ?_ ?_
 ·cases lo with
  |none=>rfl
  |some i=>exact h1
 ·cases hi with
  |none=>rfl
  |some i=>exact h2
theorem c1r(z:Str)(lo hi:Υ Int):Txt.slice z lo hi=⟨(cut z.cps.toList lo hi).toArray⟩:=by
 have hz:z.cps.toList.length=z.length:=by simp [Str.length]
 unfold Txt.slice;rw [b91,pick_run z.cps];split
 ·rename_i c;have c':HT.sIx z.length z.length hi - HT.sIx z.length 0 lo=z.length:=by
   simpa using c
  have hle:=HT.sIx_le z.length z.length (AV _) hi;unfold cut;rw [hz,c'];have:HT.sIx z.length 0 lo=0\/z.length=0:=by lia
  cases z with
  |mk a=>
   congr 1
   rcases this with h|h
   ·rw [h,List.drop_zero];have:a.toList.length=(⟨a⟩:Str).length:=hz;rw [<-this,List.take_length]
   ·have h0:a.toList=[]:=List.length_eq_zero_iff.mp (by rw [<-h];exact hz)
    have:a= #[]:=by
     apply Array.ext';rw [h0]
    subst this;simp
 ·unfold cut;rw [hz]
theorem a94(items:Array AB)(lo hi:Υ Int):slicePick items lo hi ζ=(cut items.toList lo hi).toArray:=by
 have hz:items.toList.length=items.size:=by simp
 unfold slicePick cut;rw [hz];have key:∀a b:Int,a=((HT.sIx items.size 0 lo:Nat):Int)->b=((HT.sIx items.size items.size hi:Nat):Int)->(List.filterMap (items[·]?) (sliceRange a b 1)).toArray=((items.toList.drop (HT.sIx items.size 0 lo)).take (HT.sIx items.size items.size hi - HT.sIx items.size 0 lo)).toArray:=λa b ha hb=>by rw [ha,hb,sliceRange_one,pick_run]
 refine key _ _ ?_ ?_
 ·cases lo with
  |none=>rfl
  |some i=>exact a54 items.size 0 (Nat.zero_le _) (ξ i)
 ·cases hi with
  |none=>rfl
  |some i=>exact a54 items.size items.size (AV _) (ξ i)
theorem u5.cut{K:AE}{H:Hp}{ps:List PV}{xs:List V}(r:u5 K H ps xs)(lo hi:Υ Int):u5 K H (PU.cut ps lo hi) (PU.cut xs lo hi):=by
 unfold PU.cut;rw [r.length];exact(r.drop _).take _
theorem b92{α:Type}(xs:List α)(lo hi:Υ Int):(cut xs lo hi).length<=xs.length:=by
 unfold cut;rw [List.length_take,List.length_drop];lia
theorem a4S{prog:AK}{w:AJ}{A:AL}{E:AB->AC->Prop}{s:AC}{t sl:AA}{items:Array AB}{vl vu:AB}{lo hi:Υ Int}{Q:AB->AC->Prop}(ht:IsTup s.heap t items)(hs:s.heap.IsSliceOf sl vl vu .none)(pl:IsPart vl lo)(pu:IsPart vu hi)
 (hw:HT.sIx items.size 0 lo=0/\HT.sIx items.size items.size hi=items.size)
 (h:Q (.ref t) s):AH (model prog w) A (getItem (.ref t) (.ref sl)) Q E s:=by
 obtain⟨os,hos,hcs,hds⟩:=id hs
 have hTs:s.TypeIs (.ref sl) "slice":=⟨os,hos,hcs⟩
 unfold getItem
 try with_reducible refine wpAny_holding ?_
 first|refine AG (AR ?_)|skip
 refine AG (wpAny_sequenceKey ht.typeIs (by decide) ?_)
 refine AG (wpAny_callSpecial?_slot (name:=AD "__getitem__") ht.typeIs PyProof.Rows.slot_tuple_getitem
  (wpAny_call_entry PyProof.Rows.slot_tuple_getitem ht.typeIs entry_tuple_getitem ?_ (args_tuple_getitem _ _)))
 show AH _ _ (Builtin.Tuple.tupleItemsOf (.ref t)>>=_) _ _ s
 refine AG (tupleItemsOf_ ht ?_)
 refine AG (wpAny_typeOf hTs ?_)
 rw [if_pos (by decide)]
 refine AG (HT.sliceApplied_gen hs pl pu ?_)
 have hno:(((HT.sIx items.size 0 lo:Nat):Int)==0 &&(1:Int)==1 &&(HT.sIx items.size items.size hi - HT.sIx items.size 0 lo)==items.size)=true:=by
  rw [hw.1,hw.2];simp
 show AH _ _ (if(((HT.sIx items.size 0 lo:Nat):Int)==0 &&(1:Int)==1 &&(HT.sIx items.size items.size hi - HT.sIx items.size 0 lo)==items.size)=true then _ else _) _ _ s
 rw [if_pos hno]
 refine AG (AG (m:=typeOf (.ref t)) (wpAny_typeOf ht.typeIs (AR ?_)))
 rw [if_pos (by decide)]
 wp_walk
 exact⟨_,rfl,AR h⟩
theorem c1q{X:Cx}:SlR X (λx lo hi H Q=>∃a xs,x= .ref a/\SqT X.K H a xs/\(HT.sIx xs.length 0 lo=0/\HT.sIx xs.length xs.length hi=xs.length)/\Q (.ref a) H):=by
 ext z
 refine⟨"tuple",_,PyProof.Rows.slot_tuple_getitem.lookup,ht.typeIs, ?_⟩;exact a4S ht hs pl pu (by rw [hlen];exact hw) ⟨.ref a,H,I,rfl,q⟩
theorem b59{α:Type}{xs:List α}{lo hi:Υ Int}(h:HT.sIx xs.length 0 lo=0/\HT.sIx xs.length xs.length hi=xs.length):cut xs lo hi=xs:=by
 unfold cut;rw [h.1,h.2,List.drop_zero,Nat.sub_zero,List.take_length]
section
variable {X:Cx}
theorem b4i{h:Heap}{sl:AA}{vl vu:AB}{lo hi:Υ Int}(hs:h.IsSliceOf sl vl vu .none)(pl:IsPart vl lo)(pu:IsPart vu hi):∃l u:Υ (Int×Tok),h.IsSlice sl l u ζ/\l.map (·.1)=lo/\u.map (·.1)=hi:=by
 obtain⟨o,ho,hc,hd⟩:=hs;cases pl with
 |none=>
  cases pu with
  |none=>exact⟨ζ,ζ,⟨o,ho,hc,hd⟩,rfl,rfl⟩
  |int j t=>exact⟨ζ,ξ (j,t),⟨o,ho,hc,hd⟩,rfl,rfl⟩
 |int i t=>
  cases pu with
  |none=>exact⟨ξ (i,t),ζ,⟨o,ho,hc,hd⟩,rfl,rfl⟩
  |int j t'=>exact⟨ξ (i,t),ξ (j,t'),⟨o,ho,hc,hd⟩,rfl,rfl⟩
theorem c3I:SlR X (λx lo hi H Q=>∃z,x= .str z/\z.length<=AN/\Q (.str (Txt.slice z lo hi)) H):=by
 intro pins s σ H x v vl vu lo hi sl Q I rx hs pl pu h;obtain⟨z,rfl,hz,q⟩:=h;obtain⟨t,rfl⟩:=rx;obtain⟨l,u,hs',e1,e2⟩:=b4i hs pl pu;subst e1 e2;exact⟨"str",_,PySem.F.slot_str_getitem.lookup,typeIs_str _ _ _,wpAny_getItem_str_slice hs' rfl (post_val_or_str ⟨Nat.le_trans (Txt.slice_le z _ _) hz,λt' k=>⟨.str _,H,I.tok _,⟨_,rfl⟩,q⟩⟩)⟩
theorem c3H:SlR X (λx lo hi H Q=>∃a xs,x= .ref a/\Y7 X.K H a xs/\∀p,H p=ζ->Q (.ref p) (A5 H p (.lst (PU.cut xs lo hi)))):=by
 intro pins s σ H x v vl vu lo hi sl Q I rx hs pl pu h;obtain⟨a,xs,rfl,hx,q⟩:=h;cases rx;obtain⟨its,r,pl',hz⟩:=I.list hx;have hlen:=r.length;refine⟨"list",_,list_getitem_lookup,pl'.isList.typeIs, ?_⟩;refine wpAny_getItem_list_slice pl'.isList hs pl pu .none (by simp) ?_ (by rw [Ar];lia)
 rw [a94];refine⟨.ref s.heap.objs.size,_,I.laid (t':=s.toks) (o:= .lst (PU.cut xs lo hi)) (λb ob q=>AS _ q) (AV _) ?_,rfl,q _ (I.hok.fresh (AV _))⟩;refine⟨Nat.le_trans (b92 xs lo hi) hz,PU.cut its lo hi,0, ?_,Am _ rfl⟩;unfold PU.cut;rw [hlen];exact(r.drop _).take _
def gSl(x:g0)(lo hi:Υ Int):Υ g0:=match x with
 | .v (.str z)=>if z.length<=AN then ξ (.v (.str ⟨(cut z.cps.toList lo hi).toArray⟩)) else ζ
 | .v (.tuple ps)=>ξ (.v (.tuple (cut ps lo hi)))
 | .v (.list ps)=>ξ (.own (cut ps lo hi))
 | .ow (.lst ps)=>ξ (.own (cut ps lo hi))
 | .bo (.lst ps)=>ξ (.own (cut ps lo hi))
 |_=>ζ
def rSl(K:AE):V->Υ Int->Υ Int->Hp->VK->Prop:=λx lo hi H Q=>∃F rx rz,u3 F H/\R0 K F H x rx/\gSl rx lo hi=ξ rz/\∀v F' H',B5 K F H F' H' v rz->Q v H'
theorem slm:SlR X (rSl X.K):=by
 intro pins s σ H x v vl vu lo hi sl Q I rx hs pl pu h;obtain⟨F,ra,rz,s0,h1,h2,k⟩:=h;have lst:∀ps,PyData.items? ra.rd=ξ ps->(∃a xs,x= .ref a/\Y7 X.K H a xs/\u5 X.K F ps xs)->rz= .own (cut ps lo hi)->∃T id,typeLookup (.type T) "__getitem__"=pure (ξ (.builtin id))/\s.TypeIs v T/\AH (model X.prog X.w) X.A (getItem v (.ref sl)) (EP X pins σ Q) X.xe s:=λps e ⟨a,xs,e1,hq,rl⟩ e2=>by
  subst e2;exact c3H pins s σ H x v vl vu lo hi sl Q I rx hs pl pu ⟨a,xs,e1,hq,λp hp=>k _ _ _ (B5.lst s0 hp (rl.cut lo hi))⟩
 unfold gSl at h2;split at h2
 ·rename_i z;split at h2
  ·rename_i c;cases h2;cases h1;refine c3I pins s σ H _ v vl vu lo hi sl Q I rx hs pl pu ⟨z,rfl,c, ?_⟩;rw [c1r]
   ext ap
  ·cases h2
 ·rename_i ps;cases h2
  by_cases c:HT.sIx ps.length 0 lo=0/\HT.sIx ps.length ps.length hi=ps.length
  ·obtain⟨a,xs,rfl,hq,rl⟩:=h1;have hlen:=rl.length;refine c1q pins s σ H _ v vl vu lo hi sl Q I rx hs pl pu ⟨a,xs,rfl,E5 s0 hq.sq,by rw [hlen];exact c, ?_⟩
   rw [b59 c] at k;exact k _ F H (B5.here s0 ⟨a,xs,rfl,hq,rl⟩)
  ·obtain⟨a,xs,rfl,hq,rl⟩:=h1;have hlen:=rl.length;refine c3J pins s σ H _ v vl vu lo hi sl Q I rx hs pl pu ⟨a,xs,rfl,E5 s0 hq.sq,by rw [hlen];exact c,λp hp=> ?_⟩
   exact k _ _ _ (B5.tup s0 hp (rl.cut lo hi))
 ·rename_i ps;cases h2;obtain⟨a,xs,e1,hq,rl⟩:=h1;exact lst ps rfl ⟨a,xs,e1,B8 s0 hq,rl⟩ rfl
 ·rename_i ps;cases h2;obtain⟨a,xs,e1,_,hq,rl⟩:=h1;exact lst ps rfl ⟨a,xs,e1,Y7.of hq,rl⟩ rfl
 ·rename_i ps;cases h2;obtain⟨a,xs,e1,_,hq,rl⟩:=h1;exact lst ps rfl ⟨a,xs,e1,Y7.of hq,rl⟩ rfl
 ·cases h2
abbrev MO:=b9->Υ (Υ Int)
def tMO(K:AE)(m:MO):TO:=λσ H Q=>∃F ρ o,V6 K F H σ ρ/\m ρ=ξ o/\∀F' H',Ext F H F' H'->Q o H'
abbrev EO(X:Cx)(e:Υ AF)(m:MO):Prop:=PO X e (tMO X.K m)
def N5:MO:=λ_=>ξ ζ
def a8K:g0->Υ (Υ Int)
 | .v (.int i)=>ξ (ξ i)
 |_=>ζ
def C0(m:M):MO:=λρ=>(m ρ).bind a8K
theorem X5:EO X ζ N5:=λpins s σ H Q I ⟨F,ρ,o,en,e,k⟩=>by
 cases e;exact c09 pins s σ H Q I (k F H (Ext.refl en.fh))
theorem E6{e:AF}{m:M}(h:EE X e m):EO X (ξ e) (C0 m):=λpins s σ H Q I ⟨F,ρ,o,en,e1,k⟩=>by
 obtain⟨r,e2,e3⟩:=bind_some e1;refine c1a h pins s σ H Q I ⟨F,ρ,r,en,e2,λv F1 H1 o1=> ?_⟩;unfold a8K at e3;split at e3
 ·cases e3;exact⟨_,o1.rep,k F1 H1 o1.x⟩
 ·cases e3
def E3(m:M)(lo hi:MO):M:=λρ=>(m ρ).bind λr=>(lo ρ).bind λl=>(hi ρ).bind λh=>gSl r l h
theorem G0{e:AF}{lo hi:Υ AF}{m:M}{ml mh:MO}{pos p2:Pos}(he:EE X e m)(hl:EO X lo ml)(hh:EO X hi mh):EE X (.Subscript e (.Slice lo hi ζ p2) pos) (E3 m ml mh):=
 B1 (b87 slm he hl hh) λσ H Q h0=>z9 h0 λF ρ r en e k=>by
  obtain⟨ra,e1,e⟩:=bind_some e;obtain⟨l,e2,e⟩:=bind_some e;obtain⟨h,e3,e⟩:=bind_some e;exact⟨F,ρ,ra,en,e1,λv F1 H1 o1=>⟨F1,ρ,l,en.ext o1.x,e2,λF2 H2 x2=>⟨F2,ρ,h,(en.ext o1.x).ext x2,e3,λF3 H3 x3=>⟨F3,ra,r,x3.fh,(o1.rep.ext x2).ext x3,e,λz F4 H4 o4=>k z F4 H4 (B5.trans ((o1.x.trans x2).trans x3) o4)⟩⟩⟩⟩
end
def Its(x:Str):It:=⟨λi _=>i<x.cps.size,λi H v H'=>H'=H/\∃c,x.cps[i]?=ξ c/\v= .str ⟨#[c]⟩,λi _=>x.cps.size<=i⟩
theorem b9F{P:AK}{w:AJ}{K:AE}{tg:AF}(b:Bool)(it:AA)(x:Str)(t:Tok):b01 P w K tg (Its x) [it] it (λi h=>h.IsStrIter it (if b then "str_ascii_iterator" else "str_iterator") x t i) where
 mem:=by simp
 obj:=λi h st c hb=>by
  have e:c=it:=by simpa using hb
  subst e
  ext aa
 keep:=λi h h' st k=>let ⟨o,e,r⟩:=st;⟨o,k it (by simp) o e,r⟩
 item:=by
  ext h
  ext n
  have hg:i<x.cps.size:=hg;have hx:x.cps[i]?=ξ x.cps[i]:=by simp [hg]
  have fin:∀h':Heap,h'.IsStrIter it (if b then "str_ascii_iterator" else "str_iterator") x t (i+1)->Heap.SameBut it s.heap h'->∃u,ξ (Value.str ⟨#[x.cps[i]]⟩ s.toks)=ξ u/\
   AH (model X.prog X.w) X.A (letOwnedTupleGo tg (.ref it) u) (λ_ s2=>∃y H',Inv X pins σ H' s2/\y4 y u/\(Its x).yld i H y H'/\s2.heap.IsStrIter it (if b then "str_ascii_iterator" else "str_iterator") x t (i+1)/\∀b∈[it],H' b=ζ) E {s with heap:=h',toks:=s.toks+1}:=λh' st' sb=>by
   have I1:Inv X pins σ H {s with heap:=h',toks:=s.toks+1}:=I.turned (λb o hb e=>(sb.2 b hb).trans e) f0 f1 f3 f4 f5
   obtain⟨o,e,c,d⟩:=id st'
   refine⟨_,rfl,b5l (s:={s with heap:=h',toks:=s.toks+1}) (n:=if b then "str_ascii_iterator" else "str_iterator") e c d (by cases b<;>decide) ⟨.str ⟨#[x.cps[i]]⟩,H,I1,⟨_,rfl⟩,⟨rfl,_,hx,rfl⟩,st',λb hb=>(hf b hb).1⟩⟩
  cases b with
  |true=>exact wpAny_pyNext_ascii_item st hx λh' a b=>fin h' a b
  |false=>exact wpAny_pyNext_wide_item st hx λh' a b=>fin h' a b
 done:=by
   ext h
   ext n
   have hg:x.cps.size<=i:=hg;have hx:x.cps[i]?=ζ:=by simp [hg]
   cases b with
   |true=>exact wpAny_pyNext_ascii_end (I.ok.hd hc) st hx λh' eb=>⟨rfl,I.turned (t':=s.toks) (λb o hb e=>eb b o hb e) f0 f1 f3 f4 f5⟩
   |false=>exact wpAny_pyNext_wide_end (I.ok.hd hc) st hx λh' eb=>⟨rfl,I.turned (t':=s.toks) (λb o hb e=>eb b o hb e) f0 f1 f3 f4 f5⟩
 self:=λ_ _ _ _ _ st h=>by
  cases b with
  |true=>exact wpAny_pyIter_striter_ascii st h
  |false=>exact wpAny_pyIter_striter_wide st h
section
variable {X:Cx}{tg:AF}
def c47(tl:TE):TI:=λσ H R=>tl σ H λx H1=>∃z,x= .str z/\R (Its z) H1
theorem c3z{l:AF}{tl:TE}(hl:PE X l tl):PI X tg l (c47 tl):=by
 intro pins s σ H R I h;refine M9 (hl pins s σ H _ I h) λv s1 h0=>w8 h0 λx H1 I1 r1 q1=> ?_;obtain⟨z,e,q⟩:=q1;subst e;obtain⟨t,rfl⟩:=r1;have fin:∀b:Bool,PIE X pins σ tg R (.ref s1.heap.objs.size) {s1 with heap:=s1.heap.push {cls:= .type (if b then "str_ascii_iterator" else "str_iterator"),data:= .fields #[.str z t,.int 0 0]}}:=λb=>by
  refine⟨s1.heap.objs.size,[s1.heap.objs.size],_,_,H1,rfl,I1.kept (t':=s1.toks) λb o e=>AS _ e,b9F b _ z t,⟨_,Am _ rfl,rfl,rfl⟩,λc hb=> ?_,q⟩;have e:c=s1.heap.objs.size:=by simpa using hb
  subst e;exact I1.fpOk (AV _) (I1.hok.fresh (AV _))
 cases ha:z.cps.all (· <128)
 ·exact wpAny_pyIter_wide ha (fin false)
 ·exact wpAny_pyIter_ascii ha (fin true)
structure b9S(K:AE)(F:Hp)(J:It)(ps:List PV):Prop where
 st:∀i H',u3 F H'->ps.length<=i->J.stop i H'
 go:∀i p H',u3 F H'->ps[i]?=ξ p->J.go i H'
 yd:∀i p x H' H'',u3 F H'->ps[i]?=ξ p->J.yld i H' x H''->H''=H'/\P5 K F p x
def SIF(K:AE)(mi:MI)(wi:TI):Prop:=∀F H σ ρ ps (R:It->Hp->Prop),V6 K F H σ ρ->mi ρ=ξ ps->(∀F1 H1 J,Ext F H F1 H1->b9S K F1 J ps->R J H1)->wi σ H R
abbrev EIF(X:Cx)(tg iter:AF)(mi:MI):Prop:=∃wi,PI X tg iter wi/\SIF X.K mi wi
theorem EIF.ei{iter:AF}{mi:MI}(h:EIF X tg iter mi):EI X tg iter mi:=by
 obtain⟨wi,h1,h2⟩:=h;exact⟨wi,h1,λF H σ ρ ps R en e k=>h2 F H σ ρ ps R en e λF1 H1 J x S=>k F1 H1 J x ⟨λi H' s=>S.st i H' (x.fh.trans s),λi p H' s=>S.go i p H' (x.fh.trans s),λi p y H' H'' s=>S.yd i p y H' H'' (x.fh.trans s)⟩⟩
def a8U(m:M):MI:=λρ=>(m ρ).bind λr=>match r with
 | .v (.str z)=>ξ (z.cps.toList.map λc=> .str ⟨#[c]⟩)
 |_=>ζ
theorem b98{l:AF}{m:M}(h:EE X l m):EIF X tg l (a8U m):=⟨_,c3z h,λF H σ ρ ps R en e k=>by
 obtain⟨r,e1,e2⟩:=bind_some e;refine⟨F,ρ,r,en,e1,λv F1 H1 o1=> ?_⟩;split at e2
 ·rename_i z;cases e2;cases o1.rep;refine⟨z,rfl,k F1 H1 _ o1.x ⟨λi H2 s h=> ?_,λi p H2 s h=> ?_,λi p x H2 H3 s h y=> ?_⟩⟩
  ·have h:z.cps.size<=i:=by simpa using h
   exact h
  ·have:=(Au.mp h).1;have h:i<z.cps.size:=by simpa using this
   exact h
  ·obtain⟨e,c,hc,rfl⟩:=y;refine⟨e, ?_⟩;rw [Aw,Array.getElem?_toList,hc] at h;cases h
   rfl
 ·cases e2⟩
def X2:List PV->Υ (List Bool)
 |[]=>ξ []
 | .bool b::r=>(X2 r).map (b::·)
 |_=>ζ
theorem a7q:∀bs:List Bool,X2 (bs.map .bool)=ξ bs
 |[]=>rfl
 |b::bs=>by rw [AT];simp only [X2,a7q bs,An]
theorem a7r{K:AE}{H:Hp}:∀{ps:List PV} {bs:List Bool} {xs:List V} {us:List AB},X2 ps=ξ bs->u5 K H ps xs->y0 xs us->us=bs.map Value.bool
 |[],_,_,_,h,r,v=>by cases h;cases r;cases v;rfl
 |p::ps,bs,_,_,h,⟨x,r,e,hp,t⟩,v=>by
  subst e;cases p with
  |bool z=>
   simp only [X2] at h;cases q:X2 ps with
   |none=>rw [q] at h;cases h
   |some zs=>
    rw [q] at h;cases h;cases hp;cases v with
    |cons a b=>rw [a7r q t b,show _=_ from a];rfl
  |_=>simp [X2] at h
def b34(x:g0):Υ g0:=match x.rd with
 | .list ps=>(X2 ps).map λbs=> .v (.bool (bs.all id))
 |_=>ζ
theorem b6T(bs:List Bool):(Aq bs.length).all (λi=>bs.getD i false)=bs.all id:=by
 rw [Bool.eq_iff_iff,List.all_eq_true,List.all_eq_true];constructor
 ·intro h b hb;obtain⟨i,hi,rfl⟩:=List.getElem_of_mem hb;have:=h i (List.mem_range.mpr hi)
  simpa [List.getD,hi] using this
 ·intro h i hi;have hi:=List.mem_range.mp hi;have:=h bs[i] (List.getElem_mem _)
  simpa [List.getD,hi] using this
theorem b6U(bs:List Bool):(Aq bs.length).any (λi=>bs.getD i false)=bs.any id:=by
 rw [Bool.eq_iff_iff,List.any_eq_true,List.any_eq_true];constructor
 ·rintro⟨i,hi,h⟩;have hi:=List.mem_range.mp hi;exact⟨bs[i],List.getElem_mem _,by simpa [List.getD,hi] using h⟩
 ·rintro⟨b,hb,h⟩;obtain⟨i,hi,rfl⟩:=List.getElem_of_mem hb;exact⟨i,List.mem_range.mpr hi,by simpa [List.getD,hi] using h⟩
theorem b3U{pins:List (AA×Obj)}{σ:L2.St}{H:Hp}{s:AC}{a:AA}{xs:List V}{ps:List PV}{bs:List Bool}{F:Hp}(hc:X.calm=true)(I:Inv X pins σ H s)(hq:Y7 X.K H a xs)(r:u5 X.K F ps xs)(e:X2 ps=ξ bs){E:AB->AC->Prop}{Q:AB->AC->Prop}(c:Bool)
 (h:∀h' tk,(∀b o,b∉[s.heap.objs.size]->(s.heap.push {cls:= .type "list_iterator",data:= .fields #[.ref a,.int 0 0]}).get? b=ξ o->h'.get? b=ξ o)->Q (.bool (if c then bs.all id else bs.any id)) {s with heap:=h',toks:=tk}):
 AH (model X.prog X.w) X.A.in1 (pyIter (.ref a)) (λit s₂=>∃I fp wr n P St tr,it= .ref I/\Walks X.prog X.w X.A.in1 I fp wr n P St/\St 0 s₂.heap/\TruthOf X.prog X.w X.A.in1 P tr/\
  ∀h' tk,(∀b o,b∉wr->s₂.heap.get? b=ξ o->h'.get? b=ξ o)->Q (.bool (if c then(Aq n).all tr else(Aq n).any tr)) {s₂ with heap:=h',toks:=tk}) E s:=by
 obtain⟨its,rv,pl,hz⟩:=I.list hq
 have eb:=a7r e r rv
 have hlt:a<s.heap.objs.size:=by obtain⟨_,e,_⟩:=pl.isList;exact AW e
 refine wpAny_pyIter_list pl.isList ?_
 refine⟨s.heap.objs.size,[s.heap.objs.size,a],[s.heap.objs.size],its.toArray.size,_,_,λi=>bs.getD i false,rfl,Walks.list (by show X.A.handled=ζ;exact I.ok.hd hc) s.heap.objs.size a (Ak hlt) its.toArray,⟨⟨_,Am _ rfl,rfl,rfl⟩,pl.isList.push _⟩,λi v s' Q E hv hQ=> ?_,λh' tk hk=> ?_⟩
 ·rw [eb] at hv
  have hv:(bs.map Value.bool)[i]?=ξ v:=by simpa using hv
  rw [Aw] at hv
  cases q:bs[i]? with
  |none=>rw [q] at hv;cases hv
  |some z=>
   rw [q] at hv;cases hv
   have:bs.getD i false=z:=by simp [List.getD,q]
   have hQ:Q (bs.getD i false) s':=hQ
   rw [this] at hQ
   exact AR hQ
 ·have hn:its.toArray.size=bs.length:=by rw [eb];simp
  rw [hn,b6T,b6U]
  exact h h' tk hk
theorem b3Z(hc:X.calm=true):R7 X (.builtin "all") (rC1 X.K b34):=by
 ext f
 ext bi
 unfold b34 at h2;split at h2
 ·rename_i ps ep;cases e:X2 ps with
  |none=>rw [e] at h2;cases h2
  |some bs=>
   rw [e] at h2;cases h2;obtain⟨a,xs,rfl,hq,r⟩:=W0 (ps:=ps) s0 h1 (by rw [ep];rfl)
   have hq:Y7 X.K H a xs:=by
    have rr:=h1.rd s0;rw [ep] at rr;obtain⟨a',xs',e1,hq',rl⟩:=rr;cases e1;rcases hq with hq|hq
    ·exact hq
    ·exact(a36 I hq' hq).elim
   cases ru;exact call_all_walk (b3U hc I hq r e true λh' tk hk=>⟨.bl _,H,I.turned (it:=s.heap.objs.size) (λb o hb e=>hk b o (by simpa using hb) (AS _ e)) (I.hok.fresh (AV _)) (Nat.ne_of_gt I.lt) (.inr I.sz) (λx c e=>by obtain⟨v,z⟩:=I.cell x c e;exact Ak z.lt) (λp hp=>Ak (AW (I.pin p hp).1)),rfl,k _ F H (B5.here s0 rfl)⟩)
 ·cases h2
end
def a4R:g0->g0->Υ g0
 | .v (.int i),.v (.int j)=>ξ (.v (.bool (decide (i<j))))
 | .v (.str i),.v (.str j)=>ξ (.v (.bool (decide (i.cps.toList<j.cps.toList))))
 |_,_=>ζ
def X6:g0->g0->Υ g0
 | .v (.int i),.v (.int j)=>ξ (.v (.bool (decide (i<=j))))
 | .v (.str i),.v (.str j)=>ξ (.v (.bool (!decide (j.cps.toList<i.cps.toList))))
 |_,_=>ζ
section
variable {X:Cx}
theorem a6o:OpM X (compareOp .Lt) a4R:=by
 ext d
 unfold a4R at h3;split at h3
 ·ext x
  exact c4z pins s σ H _ _ v u Q I rx ry ⟨_,_,rfl,rfl,k _ F H (B5.here s0 rfl)⟩
 ·ext x
  exact b6J pins s σ H _ _ v u Q I rx ry ⟨_,_,rfl,rfl,k _ F H (B5.here s0 rfl)⟩
 ·cases h3
theorem J7:OpM X (compareOp .LtE) X6:=by
 ext d
 unfold X6 at h3;split at h3
 ·ext x
  exact c4y pins s σ H _ _ v u Q I rx ry ⟨_,_,rfl,rfl,k _ F H (B5.here s0 rfl)⟩
 ·ext x
  ext t
  exact PySem.P.le_str ⟨.bl _,H,I,rfl,k _ F H (B5.here s0 rfl)⟩
 ·cases h3
def a7P(neg:Bool)(x y:g0):Υ g0:=match x,y with
 | .v (.str i),.v (.str j)=>ξ (.v (.bool (if neg then !(!(Builtin.Str.occurrences j i 0 j.length 1).isEmpty) else !(Builtin.Str.occurrences j i 0 j.length 1).isEmpty)))
 |x,y=>gIn neg x y
theorem b5J(hu:X.A.units+64<cLine):OpM X (compareOp .In) (a7P false):=by
 ext d
 unfold a7P at h3;split at h3
 ·ext x
  exact b6I pins s σ H _ _ v u Q I rx ry ⟨_,_,rfl,rfl,k _ F H (B5.here s0 rfl)⟩
 ·exact c3o hu pins s σ H x y v u Q I rx ry ⟨F,_,_,rz,s0,h1,h2,h3,k⟩
theorem b4J(hu:X.A.units+64<cLine):OpM X (compareOp .NotIn) (a7P true):=by
 ext d
 unfold a7P at h3;split at h3
 ·ext x
  exact b1I pins s σ H _ _ v u Q I rx ry ⟨_,_,rfl,rfl,k _ F H (B5.here s0 rfl)⟩
 ·exact b6K hu pins s σ H x y v u Q I rx ry ⟨F,_,_,rz,s0,h1,h2,h3,k⟩
def a1A(neg:Bool)(x y:g0):Υ g0:=match x,y with
 | .v (.bool a),.v (.bool b)=>ξ (.v (.bool (if neg then !(a==b) else a==b)))
 |x,y=>c2L neg x y
theorem b8m{a b:Bool}{M:Model}{A:AL}{E:AB->AC->Prop}{s:AC}{Q:AB->AC->Prop}(h:Q (.bool (a==b)) s):AH M A (compareOp .Is (.bool a) (.bool b)) Q E s:=by
 refine wpAny_is_plain (by cases a<;>cases b<;>rfl) ?_
 have e:(Value.bool a==Value.bool b)=(a==b):=by cases a<;>cases b<;>rfl
 rw [e];exact h
theorem P3:OpM X (compareOp .Is) (a1A false):=by
 ext d
 unfold a1A at h3;split at h3
 ·cases h3;cases h1;cases h2;cases rx;cases ry;exact b8m ⟨.bl _,H,I,rfl,k _ F H (B5.here s0 rfl)⟩
 ·exact c00 pins s σ H x y v u Q I rx ry ⟨F,_,_,rz,s0,h1,h2,h3,k⟩
def a3P:g0->g0->Υ g0
 | .v (.str z),.v (.int k)=>if okC (λk n=>0<=k/\k<=1000000/\n*k<=16777216) k z.length=true then ξ (.v (.str ⟨(AU k.toNat z.cps.toList).flatten.toArray⟩)) else ζ
 | .ow (.lst ps),.v (.int k)=>if okC (λk n=>0<=k/\k<=1000000/\n*k<=16777216) k ps.length=true then ξ (.own (AU k.toNat ps).flatten) else ζ
 |x,y=>c0n x y
theorem a8G(xs:List Nat):∀(m:Nat) (acc:Array Nat),(AU m xs.toArray).foldl (· ++·) acc=acc++(AU m xs).flatten.toArray
 |0,acc=>by simp
 |m+1,acc=>by
  rw [Ag,List.foldl_cons,a8G xs m,Ag,List.flatten_cons];apply Array.ext';simp
theorem c1B{z:Str}{k:Int}(h0:0<=k):Txt.mul z k=⟨(AU k.toNat z.cps.toList).flatten.toArray⟩:=by
 unfold Txt.mul
 by_cases h1:k<1
 ·have:k=0:=by lia
  subst this
  rfl
 ·rw [if_neg h1]
  by_cases h2:(k==1||z.length==0)=true
  ·rw [if_pos h2];rw [Bool.or_eq_true] at h2;cases z with
   |mk a=>
    rcases h2 with h2|h2
    ·have:k=1:=by simpa using h2
     subst this;show(⟨a⟩:Str)=_
     congr 1
     apply Array.ext';simp
    ·have ha:a.size=0:=by simpa [Str.length] using h2
     have:a= #[]:=Array.eq_empty_of_size_eq_zero ha;subst this
     congr 1
     apply Array.ext';simp
  ·rw [if_neg h2];have e:z.cps=z.cps.toList.toArray:=by simp
   congr 1
   rw [e,a8G];simp
theorem a9k{K:AE}{H:Hp}{ps:List PV}{xs:List V}(r:u5 K H ps xs):∀m:Nat,u5 K H (AU m ps).flatten (AU m xs).flatten
 |0=>rfl
 |m+1=>by
  rw [Ag,Ag,List.flatten_cons,List.flatten_cons];exact r.append (a9k r m)
theorem b80:OpM X (binaryOp .Mult) a3P:=by
 ext d
 unfold a3P at h3;split at h3
 ·rename_i z n;split at h3
  ·rename_i c;obtain⟨c0,c1,c2⟩:=a00.mp c
   ext x
   ext t
   have hz:z.length*n.toNat<=AN:=by
    rw [sizeLine_eq];have:((z.length*n.toNat:Nat):Int)=z.length*n:=by rw [Int.natCast_mul,Int.toNat_of_nonneg c0]
    lia
   refine SB.mul ⟨?_,λh4 h5 h6=> ?_,λh4 h5=> ?_⟩ λt' k'=>⟨.str _,H,I.tok _,⟨_,rfl⟩, ?_⟩
   ·have e1:¬n< -(2 ^ 63:Int):=by lia
    have e2:¬n>=2 ^ 63:=by lia
    simp [e1,e2]
    lia
   ·have h7:(2 ^ 63 - 1:Int)/ n<z.length:=h6;have h8:(2 ^ 63 - 1:Int)<(z.length:Int)*n:=by
     have:=Int.lt_mul_of_ediv_lt (a:=(2 ^ 63 - 1:Int)) (b:=(z.length:Int)) (c:=n) (by lia) h7
     exact this
    lia
   ·unfold Builtin.Str.tooLong;rw [decide_eq_false (by lia)]
   ·rw [c1B c0]
    ext ap
  ·cases h3
 ·rename_i ps n;split at h3
  ·rename_i c;obtain⟨c0,c1,c2⟩:=a00.mp c;cases h3;cases h2;obtain⟨a,xs,rfl,fa,hq,rl⟩:=h1;have hlen:=rl.length;have hz:xs.length*n.toNat<=AN:=by
    rw [sizeLine_eq,hlen];have:((ps.length*n.toNat:Nat):Int)=ps.length*n:=by rw [Int.natCast_mul,Int.toNat_of_nonneg c0]
    lia
   exact c3l pins s σ H _ _ v u Q I rx ry ⟨a,n,xs,rfl,rfl,hq,by lia,by lia,hz,λp hp=>k _ _ _ (B5.lst s0 hp (a9k rl _))⟩
  ·cases h3
 ·exact b8Z pins s σ H x y v u Q I rx ry ⟨F,_,_,rz,s0,h1,h2,h3,k⟩
def a62:M:=λ_=>ξ (.v (.dict []))
theorem a8B{pos:Pos}:EE X (.Dict [] [] pos) a62:=
 B1 b86 λσ H Q h0=>z9 h0 λF ρ r en e k=>by
  cases e;exact λd hd=>k _ _ _ (B5.val (Ext.lay en.fh hd) (Or.inl ⟨d,[],rfl,p9,rfl⟩))
end
theorem a65:fillsNumberSlot (.type "tuple") "mul"=pure false:=
 PySem.fillsNumberSlot_seq (id:="tuple.__mul__") (r:=ξ (.builtin "tuple.__rmul__")) PySem.F.slot_tuple_mul.lookup (by decide+kernel) PySem.F.slot_tuple_rmul.lookup (by decide+kernel)
theorem b1R:seqRepeat? (.type "tuple")=pure (ξ (.builtin "tuple.__mul__")):=by
 unfold seqRepeat?;rw [PySem.seqSlot_of (T:="tuple") (name:="__mul__") (id:="tuple.__mul__") PySem.F.slot_tuple_mul.lookup (by decide+kernel),PySem.seqSlot_of (T:="tuple") (name:="__rmul__") (id:="tuple.__rmul__") PySem.F.slot_tuple_rmul.lookup (by decide+kernel)]
 rfl
theorem a8L(a:Int)(t:Tok)(l:AA)(items:Array AB)(n:Nat)(dd:Υ AA)(sl:Array (Υ AB)):Meets (Builtin.«int.__rmul__» ⟨[.int a t,.ref l],[]⟩) (λ_ R s=>s.heap.get? l=ξ {cls:= .type "tuple",dict:=dd,data:= .seq items n,slots:=sl}/\R (.ok (.ret Value.notImplemented)) s):=
 .of_wp λprog w A R s h=>by obtain⟨hp,g,d,tk,os⟩:=s;obtain⟨hl,h⟩:=h;wp_walk;exact⟨_,rfl,h⟩
theorem a9C(l:AA)(items:Array AB)(n:Nat)(dd:Υ AA)(sl:Array (Υ AB))(x:Int)(u:Tok)(hc0:(decide (x< -(2 ^ 63))||decide (x>=2 ^ 63))=false)(hc1:(items.isEmpty||x==1)=false)(hc2:(decide (x<=0)||items.isEmpty)=false)(hc3:¬(items.size:Int)*x>(2 ^ 63 - 1)/ 8)(hc4:Builtin.Tuple.tupleTooMany ((items.size:Int)*x)=false)(hz:((AU x.toNat items).foldl (· ++·) #[]).size<=AN):
 Meets (Builtin.«tuple.__mul__» ⟨[.ref l,.int x u],[]⟩) (λ_ R s=>s.heap.get? l=ξ {cls:= .type "tuple",dict:=dd,data:= .seq items n,slots:=sl}/\R (.ok (.ret (Value.ref s.heap.objs.size))) {s with heap:=s.heap.push {cls:=Value.type "tuple",data:=Data.seq ((AU x.toNat items).foldl (· ++·) #[])},toks:=s.toks}):=
 .of_wp λprog w A R s h=>by
  obtain⟨hp,g,d,tk,os⟩:=s;obtain⟨hl,h⟩:=h
  wp_walk
  have ht:IsTup hp l items:=⟨_,hl,rfl,n,rfl⟩;rw [if_neg (by rw [hc0];exact Ao)]
  wp_walk
  rw [if_neg hc3]
  wp_walk
  exact⟨_,rfl,h⟩
section
variable {X:Cx}
theorem c0Z:OpR X (binaryOp .Mult) (λx y H Q=>∃a xs n,x= .ref a/\y= .int n/\SqT X.K H a xs/\xs≠[]/\2<=n/\n<=1000000/\xs.length*n.toNat<=AN/\∀p,H p=ζ->Q (.ref p) (A5 H p (.tup (AU n.toNat xs).flatten))):=by
 ext q
 obtain⟨a,xs,n,rfl,rfl,hx,hne,h1,h2,hz,q⟩:=h;cases rx;obtain⟨t,rfl⟩:=ry;obtain⟨its,r,ht,_⟩:=I.tuple hx;have hlen:its.toArray.size=xs.length:=by rw [Ar];exact r.length.symm
 have hie:its.toArray.isEmpty=false:=by
  cases its with
  |nil=>exact absurd (r.nil_iff.mp rfl) hne
  |cons _ _=>rfl
 have hnew:List.foldl (λx1 x2=>x1++x2) #[] (AU n.toNat its.toArray)=(AU n.toNat its).flatten.toArray:=by
  have:=a6T its n.toNat [];rw [Aa] at this;exact this
 have hc:((xs.length*n.toNat:Nat):Int)=(xs.length:Int)*n:=by rw [Int.natCast_mul,Int.toNat_of_nonneg (by lia)]
 have hsl:=sizeLine_eq;obtain⟨⟨cls,dd,data,sl⟩,ho,hc',m,hd⟩:=id ht;simp only at hc' hd;subst hc' hd;have hzz:(List.foldl (λx1 x2=>x1++x2) #[] (AU n.toNat its.toArray)).size<=AN:=by
  rw [hnew,Ar,b1n,Nat.mul_comm,<-r.length];exact hz
 refine wpAny_binaryOp_repeat_ref (T:="tuple") (U:="int") (by decide) ht.typeIs (λs'=>typeIs_int s' n t) a65 F.fills_int_mul F.slot_int_rmul b1R F.slot_int_index.lookup
  (call_meets F.slot_int_rmul (typeIs_int s n t) F.entry_int_rmul (F.args_int_rmul_2 _ _) (a8L n t a its.toArray m dd sl)
   ⟨ho,rfl,ht.typeIs,call_meets PySem.F.slot_tuple_mul ht.typeIs PySem.F.entry_tuple_mul (PySem.F.args_tuple_mul_2 _ _) (a9C a its.toArray m dd sl n t ?_ ?_ ?_ ?_ ?_ hzz) ⟨ho, ?_⟩⟩)
 ·have e1:¬n< -(2 ^ 63:Int):=by lia
  have e2:¬n>=2 ^ 63:=by lia
  simp [e1,e2]
  lia
 ·rw [hie];have:n≠1:=by lia
  simp [this]
 ·rw [hie];have:¬n<=0:=by lia
  simp [this]
 ·rw [hlen,<-hc]
  lia
 ·rw [hlen,<-hc];unfold Builtin.Tuple.tupleTooMany;rw [decide_eq_false (by lia)]
 ·rw [hnew];refine⟨.ref s.heap.objs.size,_,I.laid (t':=s.toks) (o:= .tup (AU n.toNat xs).flatten) (λb ob q=>AS _ q) (AV _) ?_,rfl,q _ (I.hok.fresh (AV _))⟩;exact⟨by rw [b1n,Nat.mul_comm];exact hz,_,r.rep n.toNat,IsTup.new _ _⟩
def t8:g0->g0->Υ g0
 | .v (.tuple ps),.v (.int k)=>if okC (λk n=>2<=k/\k<=1000000/\1<=n/\n*k<=16777216) k ps.length=true then ξ (.v (.tuple (AU k.toNat ps).flatten)) else ζ
 |x,y=>a3P x y
theorem v9:OpM X (binaryOp .Mult) t8:=by
 ext d
 unfold t8 at h3;split at h3
 ·rename_i ps n;split at h3
  ·rename_i c;obtain⟨c0,c1,c2,c3⟩:=a00.mp c;cases h3;cases h2;obtain⟨a,xs,rfl,hq,rl⟩:=h1;have hlen:=rl.length;have hz:xs.length*n.toNat<=AN:=by
    rw [sizeLine_eq,hlen];have:((ps.length*n.toNat:Nat):Int)=ps.length*n:=by rw [Int.natCast_mul,Int.toNat_of_nonneg (by lia)]
    lia
   refine c0Z pins s σ H _ _ v u Q I rx ry ⟨a,xs,n,rfl,rfl,E5 s0 hq.sq, ?_,by lia,by lia,hz,λp hp=>k _ _ _ (B5.tup s0 hp (a9k rl _))⟩
   intro e;rw [e] at hlen;simp at hlen
   lia
  ·cases h3
 ·exact b80 pins s σ H x y v u Q I rx ry ⟨F,_,_,rz,s0,h1,h2,h3,k⟩
end
section
variable {prog:AK}{w:AJ}{A:AL}{E:AB->AC->Prop}{s:AC}
end
section
variable {prog:AK}{w:AJ}{A:AL}{E:AB->AC->Prop}{s:AC}{u:AB}{T gid:String}{fp:List AA}{n:Nat}{P:Nat->AB->Prop}{Sq:Heap->Prop}
end
section
variable {prog:AK}{w:AJ}{A:AL}{E:AB->AC->Prop}{s:AC}
end
section
variable {X:Cx}
end
def b1Y(kvs:Γ)(k:List Q8):Υ PV:=(kvs.find? λkv=>decide (kv.1=k)).map (·.2)
theorem a3p.val{K:AE}{H:Hp}{k:List Q8}:∀{kvs:Γ} {ys:List (List Q8×V)},a3p K H kvs ys->(∀p,b1Y kvs k=ξ p->∃v,a4s ys k=ξ v/\P5 K H p v)/\(b1Y kvs k=ζ->a4s ys k=ζ)
 |[],_,h=>by cases h;exact⟨λp e=>(nomatch e),λ_=>rfl⟩
 |(k',p)::r,_,⟨v,t,e,q,h⟩=>by
  subst e
  by_cases c:k'=k
  ·have e1:b1Y ((k',p)::r) k=ξ p:=by simp [b1Y,List.find?_cons,c]
   have e2:a4s ((k',v)::t) k=ξ v:=a4u c;rw [e1,e2];exact⟨λp' e'=>(by cases e';exact⟨v,rfl,q⟩),λe'=>(nomatch e')⟩
  ·have e1:b1Y ((k',p)::r) k=b1Y r k:=by simp [b1Y,List.find?_cons,c]
   have e2:a4s ((k',v)::t) k=a4s t k:=a4t c;rw [e1,e2];exact a3p.val h
section
variable {X:Cx}
end
section
variable {prog:AK}{w:AJ}{A:AL}{E:AB->AC->Prop}{s:AC}
end
section
variable {X:Cx}{pins:List (AA×Obj)}{σ:L2.St}{H:Hp}{s:AC}{a:AA}{A:AL}{E:AB->AC->Prop}
end
section
variable {X:Cx}
end
theorem b4o{K:AE}{a:AA}{o:Obj}:K.lookup a=ξ o->∃b,(b,o)∈K:=by
 induction K with
 |nil=>intro h;cases h
 |cons p r ih=>
  intro h;obtain⟨b,u⟩:=p;rw [List.lookup_cons] at h;split at h
  ·cases h;exact⟨b,AZ ..⟩
  ·obtain⟨c,hc⟩:=ih h;exact⟨c,Af _ hc⟩
section
variable {X:Cx}
def c2W(r:g0):Υ Str:=match r with
 | .v (.str x)=>ξ x
 |_=>ζ
end
section
variable {prog:AK}{w:AJ}{A:AL}{E:AB->AC->Prop}{s:AC}
end
theorem a7b{K:AE}{H:Hp}:∀ss:List Str,u5 K H (ss.map PyData.str) (ss.map V.str)
 |[]=>rfl
 |x::r=>⟨_,_,rfl,rfl,a7b r⟩
section
variable {X:Cx}
end
section
variable {prog:AK}{w:AJ}{A:AL}{E:AB->AC->Prop}{s:AC}
end
theorem Inv.turnedTup{X:Cx}{pins:List (AA×Obj)}{σ:L2.St}{H:Hp}{s:AC}{h':Heap}{t':Nat}{e it:AA}{xs:List V}(I:Inv X pins σ H s)(fe:a5e X pins H e)(fi:a5e X pins H it)
 (k:∀b o,b≠e->b≠it->s.heap.get? b=ξ o->h'.get? b=ξ o) (new:F9 X.prog X.w (A5 H s.heap.objs.size (.tup xs)) h' s.heap.objs.size (.tup xs)):
 Inv X pins σ (A5 H s.heap.objs.size (.tup xs)) {s with heap:=h',toks:=t'}:=by
 have hn:H s.heap.objs.size=ζ:=I.hok.fresh (AV _)
 have nb:∀b u,H b=ξ u->b≠e/\b≠it:=λb u q=>⟨λz=>(by rw [z,fe.1] at q;cases q),λz=>(by rw [z,fi.1] at q;cases q)⟩
 refine I.step (g':=s.gens) (d':=s.drawn) (ch:=[e,it]) (λb hb=> ?_) (λb o _ _ hc q _=>k b o (λz=>hc (by simp [z])) (λz=>hc (by simp [z])) q) (λb o _ _ hc q _=>⟨o.slots,k b o (λz=>hc (by simp [z])) (λz=>hc (by simp [z])) q⟩)
  (λb o _ q n=>by rw [l6 (Ak (AW q))];exact n) (λb o hc q=>⟨o,k b o (λz=>hc (by simp [z])) (λz=>hc (by simp [z])) q⟩)
  (λb xs q=>by rw [l6 (n4 q hn)];exact q) (λb o u q=>by rw [l6 (n4 q hn)];exact q) (λb ps q=>⟨#[],by rw [l6 (n4 q hn),q];simp⟩) (λm hm=> ?_) (λb u q=> ?_) I.bare
 ·have hb:b=e\/b=it:=by simpa using hb
  rcases hb with rfl|rfl
  ·exact⟨fe.2.2.2.1,fe.2.1,fe.2.2.2.2.1,fe.2.2.2.2.2⟩
  ·exact⟨fi.2.2.2.1,fi.2.1,fi.2.2.2.2.1,fi.2.2.2.2.2⟩
 ·obtain⟨o,es,ep,ho,r⟩:=hm
  exact⟨o,es,ep,k _ o (Ne.symm fe.2.1) (Ne.symm fi.2.1) ho,r⟩
 ·by_cases hb:b=s.heap.objs.size
  ·subst hb
   rw [p9] at q
   cases q
   exact new
  ·rw [l6 hb] at q
   refine(I.hok b u q).stay (λc v hc y=>k c v ?_ ?_ y) (λc y=>by rw [l6 (n4 y hn)];exact y) λc ys y=>by rw [l6 (n4 y hn)];exact y
   ·rcases hc with z|z
    ·rw [z];exact(nb b u q).1
    ·exact(nb c _ z).1
   ·rcases hc with z|z
    ·rw [z];exact(nb b u q).2
    ·exact(nb c _ z).2
def Ite(J:It):It:=⟨J.go,λi H v H'=>∃x t,J.yld i H x H/\H t=ζ/\v= .ref t/\H'=A5 H t (.tup [.int i,x]),J.stop⟩
structure b7j(P:AK)(w:AJ)(K:AE)(J:It)(it:AA)(tn:Nat->Heap->Prop):Prop where
 obj:∀i h,tn i h->∃o,h.get? it=ξ o/\∀v,o.data≠.cell v
 keep:∀i h h',tn i h->(∀o,h.get? it=ξ o->h'.get? it=ξ o)->tn i h'
 item:∀(X:Cx),X.prog=P->X.w=w->X.K=K->X.calm=true->∀(i:Nat) (pins:List (AA×Obj)) (s:AC) (σ:L2.St) (H:Hp),Inv X pins σ H s->a5e X pins H it->tn i s.heap->J.go i H->
  ∃(fp:List AA) (n:Nat) (Pq:Nat->AB->Prop) (St:Nat->Heap->Prop),Draws P w X.A.in1 it fp n Pq St/\St i s.heap/\i<n/\(∀e old,e≠it->IsEnum s.heap e it i old->e∉fp)/\(∀v,Pq i v->∃x,y4 x v/\J.yld i H x H)/\∀h',St (i+1) h'->tn (i+1) h'
 done:∀(X:Cx),X.prog=P->X.w=w->X.K=K->X.calm=true->∀(i:Nat) (pins:List (AA×Obj)) (s:AC) (σ:L2.St) (H:Hp),Inv X pins σ H s->a5e X pins H it->tn i s.heap->J.stop i H->
   ∃(fp:List AA) (n:Nat) (Pq:Nat->AB->Prop) (St:Nat->Heap->Prop),Draws P w X.A.in1 it fp n Pq St/\St n s.heap
theorem b67{P:AK}{w:AJ}{K:AE}{J:It}{e it:AA}{tn:Nat->Heap->Prop}{elts:List AF}{x1}{pos:Pos}(D:b7j P w K J it tn)(hne:e≠it):
 b01 P w K (.Tuple elts x1 pos) (Ite J) [e,it] e (λi h=>(∃old,IsEnum h e it i old)/\tn i h) where
 mem:=by simp
 obj:=λi h ⟨⟨old,he⟩,st⟩ b hb=>by
  have hb:b=e\/b=it:=by simpa using hb
  rcases hb with rfl|rfl
  ·exact⟨_,he,λv z=>by cases z⟩
  ·exact D.obj i h st
 keep:=λi h h' ⟨⟨old,he⟩,st⟩ k=>⟨⟨old,k e (by simp) _ he⟩,D.keep i h h' st λo q=>k it (by simp) o q⟩
 item:=by
  intro X hP hw hK hc i pins s σ H E I hf ⟨⟨old,he⟩,st⟩ hg;have fe:=hf e (by simp)
  have fi:=hf it (by simp)
  obtain⟨fp,n,Pq,St,DD,hst,hlt,hef,hy,hnx⟩:=D.item X hP hw hK hc i pins s σ H I fi st hg;subst hP hw hK;refine wpAny_pyNext_enum_itemD DD he hst hlt hne (hef e old hne he) λu h' tk hPu hout hst' htup hsz hk=>⟨_,rfl, ?_⟩;obtain⟨x,rx,yx⟩:=hy u hPu;refine wpAny_letOwnedTupleGo_enum hout λh2 he2 hs2=> ?_;have helt:e<s.heap.objs.size:=AW he;have hilt:it<s.heap.objs.size:=by obtain⟨o,q,_⟩:=D.obj i _ st;exact AW q
  have htup2:h2.get? s.heap.objs.size=ξ {cls:= .type "tuple",data:= .seq #[.int i tk,u]}:=(hs2.2 _ (Nat.ne_of_gt helt)).trans htup;have I2:Inv X pins σ (A5 H s.heap.objs.size (.tup [.int i,x])) {s with heap:=h2,toks:=tk+1}:=by
   refine Inv.turnedTup I fe fi (λb o hbe hbi q=>(hs2.2 b hbe).trans (hk b o hbe hbi q)) ?_;exact⟨by rw [sizeLine_eq];simp,[.int i tk,u],.cons ⟨tk,rfl⟩ (.cons rx .nil),⟨_,htup2,rfl,0,rfl⟩⟩
  refine⟨.ref s.heap.objs.size,_,I2,rfl,⟨x,s.heap.objs.size,yx,I.hok.fresh (AV _),rfl,rfl⟩,⟨⟨_,by simpa using he2⟩,D.keep _ _ _ (hnx h' hst') λo q=>(hs2.2 it (Ne.symm hne)).trans q⟩,λb hb=> ?_⟩
  have hb:b=e\/b=it:=by simpa using hb
  rcases hb with rfl|rfl
  ·rw [l6 (Ak helt)];exact fe.1
  ·rw [l6 (Ak hilt)];exact fi.1
 done:=by
   intro X hP hw hK hc i pins s σ H E I hf ⟨⟨old,he⟩,st⟩ hg;have fi:=hf it (by simp)
   obtain⟨fp,n,Pq,St,DD,hst⟩:=D.done X hP hw hK hc i pins s σ H I fi st hg;subst hP hw hK;exact wpAny_pyNext_enum_endD DD he hst λh' eb=>⟨rfl,I.turned (t':=s.toks) (λb o hb q=>eb b o hb q) fi.1 fi.2.1 fi.2.2.2.1 fi.2.2.2.2.1 fi.2.2.2.2.2⟩
 self:=λ_ _ _ _ _ ⟨⟨_,he⟩,_⟩ h=>wpAny_pyIter_enum he h
theorem b6b{prog:AK}{w:AJ}{A:AL}{it:AA}{fp:List AA}{i:Nat}{S0:Heap->Prop}(lv:∀h,S0 h->∃o,h.get? it=ξ o)(fr:∀h h',S0 h->(∀b∈fp,∀o,h.get? b=ξ o->h'.get? b=ξ o)->S0 h')
 (en:∀(s:AC) (Q:AB->AC->Prop) (E:AB->AC->Prop),S0 s.heap->(∀h' e,Heap.ExtBut it s.heap h'->(∃o,h'.get? e=ξ o/\o.cls= .type "StopIteration")->E (.ref e) {s with heap:=h'})->AH (model prog w) A (Builtin.SmallTypes.nextOf (.ref it)) Q E s):
 Draws prog w A it fp i (λ_ _=>True) (λk h=>k=i/\S0 h) where
 live:=λ_ h st=>lv h st.2
 frame:=λ_ h h' st k=>⟨st.1,fr h h' st.2 k⟩
 item:=λk s Q E hk st _=>by have:=st.1;lia
 done:=λs Q E st hE=>en s Q E st.2 hE
theorem b31{P:AK}{w:AJ}{K:AE}(a it:AA):b7j P w K (Itl K a) it (λi h=>h.IsListIter it a i) where
 obj:=λi h st=>by
  ext aa
 keep:=λi h h' st k=>st.at λo e=>k o e
 item:=by
  intro X hP hw hK hc i pins s σ H I fi st hg;subst hP hw hK;obtain⟨xs,x,hq,hx⟩:=hg;obtain⟨its,rv,p,hz⟩:=I.list hq;obtain⟨u,hu,ru⟩:=rv.get hx;have p':s.heap.IsList a its.toArray:=p.isList;have hai:a≠it:=λz=>by
   subst z;obtain⟨o,e,c,_⟩:=p';obtain⟨o2,e2,c2,_⟩:=st;rw [e] at e2;cases e2;rw [c] at c2;injection c2 with c2
   exact absurd c2 (by decide)
  refine⟨_,_,_,_,Draws.list (prog:=X.prog) (w:=X.w) (A:=X.A.in1) (show X.A.in1.handled=ζ from I.ok.hd hc) it a hai its.toArray,⟨st,p'⟩, ?_,λe old hne he hm=> ?_,λv hv=> ?_,λh' z=>z.1⟩
  ·have:=(Au.mp hu).1
   simpa using this
  ·have hm:e=it\/e=a:=by simpa using hm
   rcases hm with rfl|rfl
   ·exact hne rfl
   ·obtain⟨o,q,c,_⟩:=p';rw [he] at q;cases q;injection c with c
    exact absurd c (by decide)
  ·have hv:its[i]?=ξ v:=by simpa using hv
   rw [hu] at hv;cases hv;exact⟨x,ru,rfl,λys hy=>by rw [I.list_inj hy hq];exact hx⟩
 done:=by
   intro X hP hw hK hc i pins s σ H I fi st hg;subst hP hw hK;obtain⟨xs,hq,hx⟩:=hg;obtain⟨its,rv,p,hz⟩:=I.list hq;have p':s.heap.IsList a its.toArray:=p.isList;have hl:=rv.length;exact⟨_,_,_,_,b6b (prog:=X.prog) (w:=X.w) (A:=X.A.in1) (it:=it) (fp:=[it,a]) (i:=i) (S0:=λh=>h.IsListIter it a i/\h.IsList a its.toArray) (λh z=>let ⟨o,ho,_⟩:=z.1;⟨o,ho⟩)
    (λh h' z k=>⟨z.1.at λo e=>k it (by simp) o e,z.2.at λo e=>k a (by simp) o e⟩)
    (λs Q E z hE=>wpAny_nextOf_list_end (show X.A.in1.handled=ζ from I.ok.hd hc) z.1 z.2 (by simp;lia) hE),rfl,st,p'⟩
theorem a8u:bootBuiltins "enumerate"=ξ (.type "enumerate"):=by decide+kernel
section
variable {X:Cx}
def iEn(K:AE)(ta:TA):TI:=λσ H R=>ta σ H λvs H1=>∃a xs,vs=[.ref a]/\Y7 K H1 a xs/\R (Ite (Itl K a)) H1
theorem c4e{tg:AF}{pins:List (AA×Obj)}{σ:L2.St}{H:Hp}{s:AC}{R:It->Hp->Prop}{E:AB->AC->Prop}{J:It}{h':Heap}{tn:Nat->Heap->Prop}{elts:List AF}{x1}{tpos:Pos}(htg:tg= .Tuple elts x1 tpos)(I:Inv X pins σ H s)(D:b7j X.prog X.w X.K J s.heap.objs.size tn)
 (he:IsEnum h' (s.heap.objs.size+1) s.heap.objs.size 0 .none) (st:tn 0 h') (hk:∀b o,s.heap.get? b=ξ o->h'.get? b=ξ o) (q:R (Ite J) H):
 AH (model X.prog X.w) X.A (pyIter (.ref (s.heap.objs.size+1))) (PIE X pins σ tg R) E {s with heap:=h'}:=by
 subst htg
 refine wpAny_pyIter_enum (s:={s with heap:=h'}) he ?_
 refine⟨s.heap.objs.size+1,[s.heap.objs.size+1,s.heap.objs.size],_,_,H,rfl,I.kept (t':=s.toks) hk,b67 D (Nat.succ_ne_self _),⟨⟨_,he⟩,st⟩,λb hb=> ?_,q⟩
 have hb:b=s.heap.objs.size+1\/b=s.heap.objs.size:=by simpa using hb
 rcases hb with rfl|rfl
 ·exact I.fpOk (Nat.le_succ _) (I.hok.fresh (Nat.le_succ _))
 ·exact I.fpOk (AV _) (I.hok.fresh (AV _))
theorem c08{a:AF}{ta:TA}{p pos tpos:Pos}{elts:List AF}{x1}(hg:Gl X "enumerate")(hm:X.mg "enumerate"=ζ)(ha:PA X [a] ta)(hs:AI [a] X.env=[(false,eval a X.env)]:=by rfl):
 PI X (.Tuple elts x1 tpos) (.Call (.Name "enumerate" p) [a] [] pos) (iEn X.K ta):=by
 intro pins s σ H R I h
 refine Call_ (a3X I hg hm a8u (PyProof.Rows.callWith_type1 (M9 (ha pos pins s σ H _ I h) λus s1 h0=>w8 h0 λvs H1 I1 r1 q1=> ?_) hs rfl))
 obtain⟨b,xs,rfl,hq,q⟩:=q1
 cases r1 with
 |cons r rr=>
  cases rr
  cases r
  obtain⟨its,rv,p',hz⟩:=I1.list hq
  exact call_enumerate_list p'.isList λh' he hit hsz hk=>c4e rfl I1 (b31 b _) he hit hk q
def a1c(ps:List PV):List PV:=ps.zipIdx.map λq=> .tuple [.int ((q.2:Nat):Int),q.1]
theorem b6d(ps:List PV)(k:Nat):(a1c ps)[k]?=ps[k]?.map λp=> .tuple [.int ((k:Nat):Int),p]:=by
 unfold a1c;rw [Aw,List.getElem?_zipIdx];cases ps[k]? with
 |none=>rfl
 |some p=>simp
theorem b6e(ps:List PV):(a1c ps).length=ps.length:=by unfold a1c;simp
def b8o(p:PV):Υ (List PV):=match p with
 | .list ps=>ξ ps
 |_=>ζ
def b8z(m:MA):MI:=λρ=>(m ρ).bind λas=>match as with
 |[p]=>(b8o p).map a1c
 |_=>ζ
theorem b9z{F1:Hp}{a:AA}{xs:List V}{ps:List PV}(hq:Y7 X.K F1 a xs)(rl:u5 X.K F1 ps xs):b9S X.K F1 (Itl X.K a) ps:=by
 have hlen:=rl.length;refine⟨λi H2 s h=>⟨xs,B8 s hq,by lia⟩,λi p H2 s h=> ?_,λi p x H2 H3 s h y=> ?_⟩
 ·obtain⟨v,ev,_⟩:=rl.get h;exact⟨xs,v,B8 s hq,ev⟩
 ·obtain⟨e,y⟩:=y;have:=y xs (B8 s hq);obtain⟨v,ev,rv⟩:=rl.get h;rw [this] at ev;cases ev;exact⟨e,rv⟩
end
def S(l:List Nat):Str:=⟨l.toArray⟩
theorem c1J(z:Str):S z.cps.toList=z:=by cases z;simp [S]
theorem c30(a b:List Nat):S a++S b=S (a++b):=by
 show Str.append (S a) (S b)=_;simp [Str.append,S]
theorem O0(a:List Nat):(S a).length=a.length:=by simp [S,Str.length]
theorem a3q(a:List Nat):(S a).cps.toList=a:=by simp [S]
theorem c1K{a b:List Nat}(h:S a=S b):a=b:=by
 have:=congrArg (λz:Str=>z.cps.toList) h
 simpa [S] using this
theorem c31(a b:List Nat):(S a==S b)=(a==b):=by
 rw [Bool.eq_iff_iff];simp only [beq_iff_eq];exact⟨c1K,λh=>by rw [h]⟩
def m6(sep:List Nat):List (List Nat)->List Nat
 |[]=>[]
 |[x]=>x
 |x::y::r=>x++sep++m6 sep (y::r)
theorem b0t(sep:List Nat):∀(ls:List (List Nat)) (acc:List Nat),(ls.foldl (λa p=>a++sep++p) acc)=if ls=[] then acc else acc++sep++m6 sep ls
 |[],acc=>rfl
 |[x],acc=>by simp [m6]
 |x::y::r,acc=>by
  rw [List.foldl_cons,b0t sep (y::r)];simp [m6]
theorem b5g(sep:List Nat):∀(ls:List (List Nat)) (acc:List Nat),(ls.map S).foldl (λa (p:Str)=>a++(S sep).cps++p.cps) acc.toArray=(ls.foldl (λa p=>a++sep++p) acc).toArray
 |[],acc=>rfl
 |x::r,acc=>by
  rw [AT,List.foldl_cons,List.foldl_cons];have:acc.toArray++(S sep).cps++(S x).cps=(acc++sep++x).toArray:=by simp [S]
  rw [this];exact b5g sep r (acc++sep++x)
theorem b8p(sep:List Nat)(ls:List (List Nat)):Txt.join (S sep) (ls.map S)=S (m6 sep ls):=by
 unfold Txt.join Builtin.Str.glued;cases ls with
 |nil=>rfl
 |cons x r=>
  show(⟨((r.map S).foldl (λacc (p:Str)=>acc++(S sep).cps++p.cps) (S x).cps)⟩:Str)=_;rw [show(S x).cps=x.toArray from rfl,b5g,b0t];cases r with
  |nil=>rfl
  |cons y r=>rw [if_neg (by simp)];simp [S,m6]
theorem b7x{α:Type}{xs:List α}{i:Int}(h:0<=i):L2.atI xs i=xs[i.toNat]?:=by
 unfold L2.atI L2.ixN;rw [if_pos h]
 by_cases c:i<xs.length
 ·rw [if_pos c];rfl
 ·rw [if_neg c];have:xs.length<=i.toNat:=by lia
  rw [List.getElem?_eq_none_iff.mpr this];rfl
theorem b2f{α:Type}{xs:List α}{k:Nat}:L2.atI xs (k:Int)=xs[k]?:=by
 rw [b7x (by lia)];simp
theorem b79{l:List Nat}{i:Int}{c:Nat}(hl:l.length<=16777216)(h:L2.atI l i=ξ c):o9 (.v (.str (S l))) (.v (.int i))=ξ (.v (.str (S [c]))):=by
 have hs:(S l).length<=AN:=by rw [O0,sizeLine_eq];exact hl
 unfold o9;simp only [g0.rd,a3q,h,An,if_pos hs]
 rfl
theorem c2K{l k:List Nat}(h:l.length+k.length<=16777216):l8 (.v (.str (S l))) (.v (.str (S k)))=ξ (.v (.str (S (l++k)))):=by
 rw [b76 (by rw [O0,O0,sizeLine_eq];exact h),c30]
theorem c0p{i j:Int}(h: -18446744073709551616<i/\i<18446744073709551616):a3P (.v (.int i)) (.v (.int j))=ξ (.v (.int (i*j))):=c2N h
theorem c0q{i j:Int}(h: -18446744073709551616<j/\j<18446744073709551616):a3P (.v (.int i)) (.v (.int j))=ξ (.v (.int (i*j))):=c2O h
theorem a8H(i j:Int):a4R (.v (.int i)) (.v (.int j))=ξ (.v (.bool (decide (i<j)))):=ω
theorem b1i(i j:Int):X6 (.v (.int i)) (.v (.int j))=ξ (.v (.bool (decide (i<=j)))):=ω
theorem c2M(a b:List Nat):X6 (.v (.str (S a))) (.v (.str (S b)))=ξ (.v (.bool (!decide (b<a)))):=by
 show ξ (g0.v (.bool (!decide ((S b).cps.toList<(S a).cps.toList))))=_;rw [a3q,a3q]
theorem c0o{l:List Nat}{k:Int}(h:(0<=k/\k<=1000)/\l.length<=1000):a3P (.v (.str (S l))) (.v (.int k))=ξ (.v (.str (S (AU k.toNat l).flatten))):=by
 have hm:(l.length:Int)*k<=1000*1000:=Int.mul_le_mul (by lia) (by lia) (by lia) (by lia)
 show(if okC (λk n=>0<=k/\k<=1000000/\n*k<=16777216) k (S l).length=true then ξ (g0.v (.str ⟨(AU k.toNat (S l).cps.toList).flatten.toArray⟩)) else ζ)=_
 rw [if_pos (a00.mpr ⟨by lia,by lia,by rw [O0];lia⟩),a3q]
 rfl
theorem b6j{l:List PV}{k:Int}(h:(0<=k/\k<=1000)/\l.length<=1000):a3P (.own l) (.v (.int k))=ξ (.own (AU k.toNat l).flatten):=by
 have hm:(l.length:Int)*k<=1000*1000:=Int.mul_le_mul (by lia) (by lia) (by lia) (by lia)
 show(if okC (λk n=>0<=k/\k<=1000000/\n*k<=16777216) k l.length=true then ξ (g0.own (AU k.toNat l).flatten) else ζ)=_
 rw [if_pos (a00.mpr ⟨by lia,by lia,by lia⟩)]
theorem b5j{i j:Int}(h: -18446744073709551616<i/\i<18446744073709551616):t8 (.v (.int i)) (.v (.int j))=ξ (.v (.int (i*j))):=(show _=a3P (.v (.int i)) (.v (.int j)) from rfl).trans (c0p h)
theorem b5k{i j:Int}(h: -18446744073709551616<j/\j<18446744073709551616):t8 (.v (.int i)) (.v (.int j))=ξ (.v (.int (i*j))):=(show _=a3P (.v (.int i)) (.v (.int j)) from rfl).trans (c0q h)
theorem c0r{l:List Nat}{k:Int}(h:(0<=k/\k<=1000)/\l.length<=1000):t8 (.v (.str (S l))) (.v (.int k))=ξ (.v (.str (S (AU k.toNat l).flatten))):=(show _=a3P (.v (.str (S l))) (.v (.int k)) from rfl).trans (c0o h)
theorem a6U{l:List PV}{k:Int}(h:(0<=k/\k<=1000)/\l.length<=1000):t8 (.own l) (.v (.int k))=ξ (.own (AU k.toNat l).flatten):=(show _=a3P (.own l) (.v (.int k)) from rfl).trans (b6j h)
theorem b35(bs:List Bool):b34 (.own (bs.map .bool))=ξ (.v (.bool (bs.all id))):=by
 show(X2 _).map _=_;rw [a7q];rfl
theorem b8D{m:M}{ρ:b9}{l:List Nat}(h:m ρ=ξ (.v (.str (S l)))):a8U m ρ=ξ (l.map λc=> .str (S [c])):=by
 unfold a8U;rw [h,AM];show ξ ((S l).cps.toList.map _)=_;rw [a3q]
 rfl
def chK(g':g0->g0->Υ g0)(mc:M)(ρ:b9)(y z:g0):Υ g0:=(a93 z).bind λb=>if b=true then(mc ρ).bind λw=>g' y w else ξ (.v (.bool false))
theorem K4(g g':g0->g0->Υ g0)(ma mb mc:M)(ρ:b9):V1 g g' ma mb mc ρ=(ma ρ).bind λx=>(mb ρ).bind λy=>(g x y).bind (chK g' mc ρ y):=ω
theorem a8v(g':g0->g0->Υ g0)(mc:M)(ρ:b9)(y:g0):chK g' mc ρ y (.v (.bool true))=(mc ρ).bind λw=>g' y w:=ω
theorem c38(g':g0->g0->Υ g0)(mc:M)(ρ:b9)(y:g0):chK g' mc ρ y (.v (.bool false))=ξ (.v (.bool false)):=ω
abbrev row(l:List Nat):PV:= .str (S l)
theorem b99(a b:List Nat):η (row a) (row b)=(a==b):=by
 show η (.str (S a)) (.str (S b))=_;rw [show η (.str (S a)) (.str (S b))=(S a==S b) by simp only [η],c31]
theorem b2t(a:List Nat)(n:Nat):z6 (row a) n=true:=by cases n<;>rfl
theorem b2y{body:MS}{tg:PV->b9->Υ b9}{I:Nat->b9->Prop}:∀{ps:List PV} {ρ:b9} (k:Nat),(∀(i:Nat) p,ps[i]?=ξ p->∀ρ,I (k+i) ρ->∃ρ1 ρ2,tg p ρ=ξ ρ1/\(body ρ1=ξ (.nx ρ2)\/body ρ1=ξ (.ct ρ2))/\I (k+i+1) ρ2)->I k ρ->∃ρ',a1z body tg ps ρ=ξ (.nx ρ')/\I (k+ps.length) ρ'
 |[],ρ,k,_,h=>⟨ρ,rfl,h⟩
 |p::ps,ρ,k,s,h=>by
  obtain⟨ρ1,ρ2,h1,h2,h3⟩:=s 0 p rfl ρ h;obtain⟨ρ',h4,h5⟩:=b2y (ps:=ps) (ρ:=ρ2) (k+1) (λi q hq ρ hi=>by
   have e:k+1+i=k+(i+1):=by lia
   rw [e] at hi ⊢;exact s (i+1) q (by simpa using hq) ρ hi) h3
  refine⟨ρ', ?_,by rw [AO];have e:k+(ps.length+1)=k+1+ps.length:=by lia
                   rw [e];exact h5⟩
  unfold a1z;rw [h1];show(body ρ1).bind _=_;rcases h2 with h2|h2<;>rw [h2]<;>exact h4
theorem Z6{body:MS}{tg:PV->b9->Υ b9}(I:Nat->b9->Prop){ps:List PV}{ρ:b9}(s:∀(i:Nat) p,ps[i]?=ξ p->∀ρ,I i ρ->∃ρ1 ρ2,tg p ρ=ξ ρ1/\(body ρ1=ξ (.nx ρ2)\/body ρ1=ξ (.ct ρ2))/\I (i+1) ρ2)(h:I 0 ρ):∃ρ',a1z body tg ps ρ=ξ (.nx ρ')/\I ps.length ρ':=by
 obtain⟨ρ',a,b⟩:=b2y (I:=I) 0 (λi p hp ρ hi=>by rw [Nat.zero_add] at hi ⊢;exact s i p hp ρ hi) h
 rw [Nat.zero_add] at b;exact⟨ρ',a,b⟩
theorem a3a{body:MS}{tg:PV->b9->Υ b9}{I:b9->Prop}{p:PV}{ρ ρ1 ρ2:b9}(h1:tg p ρ=ξ ρ1)(h2:body ρ1=ξ (.nx ρ2))(h3:I ρ2):∃ρ1 ρ2,tg p ρ=ξ ρ1/\(body ρ1=ξ (.nx ρ2)\/body ρ1=ξ (.ct ρ2))/\I ρ2:=⟨ρ1,ρ2,h1,.inl h2,h3⟩
theorem c1k(n:Nat):a2X 0 (n:Int)=(Aq n).map λk=> .int (k:Nat):=by
 unfold a2X;have e:((n:Int) - 0).toNat=n:=by lia
 rw [e];exact List.map_congr_left λk _=>by simp
theorem b0z(k:Nat)(it:MI)(tg:PV->b9->Υ b9)(c:MT)(elt:M)(ρ:b9):O3 k it tg c elt ρ=(it ρ).bind λps=>if ps.length<=AN then(a44 c elt tg (ρ++AU k ζ) ps).bind λr=>ξ (.own r) else ζ:=ω
theorem b0e{α:Type}{ι f:α->PV}{elt:M}{tg:PV->b9->Υ b9}{ρ:b9}:∀{xs:List α},(∀x∈xs,∃ρ1,tg (ι x) ρ=ξ ρ1/\(elt ρ1).bind g0.toVal=ξ (f x))->a44 W3 elt tg ρ (xs.map ι)=ξ (xs.map f)
 |[],_=>rfl
 |x::xs,h=>by
  obtain⟨ρ1,h1,h2⟩:=h x AZ;rw [AT,AT];unfold a44;rw [h1,AM];show((elt ρ1).bind g0.toVal).bind _=_;rw [h2,AM,b0e λy hy=>h y (Af _ hy),AM]
theorem W2{α:Type}{ι f:α->PV}{k:Nat}{it:MI}{elt:M}{tg:PV->b9->Υ b9}{ρ:b9}(xs:List α)(h1:it ρ=ξ (xs.map ι))(h2:xs.length<=16777216)
 (h:∀x∈xs,∃ρ1,tg (ι x) (ρ++AU k ζ)=ξ ρ1/\(elt ρ1).bind g0.toVal=ξ (f x)):O3 k it tg W3 elt ρ=ξ (.own (xs.map f)):=by
 rw [b0z,h1,AM,if_pos (by rw [AY,sizeLine_eq];exact h2),b0e h,AM]
theorem a55{α:Type}{ι f:α->PV}{q:α->Bool}{c:MT}{elt:M}{tg:PV->b9->Υ b9}{ρ:b9}:∀{xs:List α},(∀x∈xs,∃ρ1,tg (ι x) ρ=ξ ρ1/\c ρ1=ξ (q x)/\(q x=true->(elt ρ1).bind g0.toVal=ξ (f x)))->a44 c elt tg ρ (xs.map ι)=ξ ((xs.filter q).map f)
 |[],_=>rfl
 |x::xs,h=>by
  obtain⟨ρ1,h1,h2,h3⟩:=h x AZ;have ih:=a55 (xs:=xs) λy hy=>h y (Af _ hy);rw [AT];unfold a44;rw [h1,AM,h2,AM];cases e:q x with
  |true=>rw [if_pos rfl,h3 e,AM,ih,AM,List.filter_cons_of_pos (by rw [e])];rfl
  |false=>rw [if_neg Ao,ih,List.filter_cons_of_neg (by rw [e];exact Ao)]
theorem G1(m:M)(lo hi:MO)(ρ:b9):E3 m lo hi ρ=(m ρ).bind λr=>(lo ρ).bind λl=>(hi ρ).bind λh=>gSl r l h:=ω
theorem Q3(m:M)(ρ:b9):C0 m ρ=(m ρ).bind a8K:=ω
theorem a8Z(ρ:b9):N5 ρ=ξ ζ:=ω
theorem a1L(i:Int):a8K (.v (.int i))=ξ (ξ i):=ω
theorem a32{m:M}{ρ:b9}{r:g0}{ps:List PV}(h:m ρ=ξ r)(h2:PyData.items? r.rd=ξ ps):A3 m ρ=ξ ps:=by
 unfold A3;rw [h,AM,h2]
theorem a4I{m:M}{ρ:b9}{n:Nat}(h:m ρ=ξ (.v (.int n)))(hn:n<4611686018427387904):a34 (a8 m b8) ρ=ξ ((Aq n).map λk=> .int (k:Nat)):=by
 have e:a8 m b8 ρ=ξ [.int n]:=by rw [j0,h];rfl
 rw [b6x,e,AM,c1i (j:=(n:Int)) ⟨by lia,by lia⟩,c1k]
theorem Z7{sep:List Nat}{rows:List (List Nat)}{y:g0}(h:PyData.items? y.rd=ξ (rows.map row))(hl:(rows.map (·.length)).sum+rows.length*sep.length<=16777216):M5 (.v (.str (S sep))) y=ξ (.v (row (m6 sep rows))):=by
 have e1:a3b (rows.map row)=ξ (rows.map S):=by
  have:rows.map row=(rows.map S).map PyData.str:=by rw [BC];rfl
  rw [this,a9z]
 have e2:((rows.map S).map (·.length))=rows.map (·.length):=by rw [BC];exact List.map_congr_left λa _=>O0 a
 unfold M5;simp only [h,e1,AM,e2,AY,O0,if_pos hl,b8p]
theorem b4a(ps:List PV):a3Q (.own ps)=ξ (.v (.tuple ps)):=ω
theorem a31{i:Nat}{m:M}{ρ:b9}{r:g0}{p:PV}{ps:List PV}(h1:m ρ=ξ r)(h2:r.toVal=ξ p)(h3:ρ[i]?=ξ (ξ (.own ps)))(h:ps.length<16777216):U5 i m ρ=ξ (.nx (ρ.set i (ξ (.own (ps++[p]))))):=by
 unfold U5;rw [h1,AM,h2,AM,h3];simp only [sizeLine_eq,if_pos h]
theorem a74(p:g0)(ρ:b9):Y4 0 (ξ p::ρ)=ξ (.rt p):=ω
theorem a75(n:Nat)(r:Υ g0)(ρ:b9):Y4 (n+1) (r::ρ)=Y4 n ρ:=ω
theorem b1r{α:Type}{ι f:α->PV}{q:α->Bool}{k:Nat}{it:MI}{c:MT}{elt:M}{tg:PV->b9->Υ b9}{ρ:b9}(xs:List α)(h1:it ρ=ξ (xs.map ι))(h2:xs.length<=16777216)
 (h:∀x∈xs,∃ρ1,tg (ι x) (ρ++AU k ζ)=ξ ρ1/\c ρ1=ξ (q x)/\(q x=true->(elt ρ1).bind g0.toVal=ξ (f x))):O3 k it tg c elt ρ=ξ (.own ((xs.filter q).map f)):=by
 rw [b0z,h1,AM,if_pos (by rw [AY,sizeLine_eq];exact h2),a55 h,AM]
theorem b7P{ps:List PV}{n:Nat}(h:∀p∈ps,z6 p n=true):K6 ps n=true:=by
 induction ps with
 |nil=>rfl
 |cons p ps ih=>simp [K6,h p AZ,ih λq hq=>h q (Af _ hq)]
theorem c0s(a b:List Nat):gNe (.v (row a)) (.v (row b))=ξ (.v (.bool (!(a==b)))):=by
 rw [b38 (x:= .v (row a)) (y:= .v (row b)) ⟨b2t a 50,b2t b 50⟩,b1P,b1P,b99]
section
open PySem.AutoSeq1 (wpAny_loadPart')
variable {A:AL}{s:AC}
end
section
variable {X:Cx}{pins:List (AA×Obj)}{σ:L2.St}{H:Hp}{s:AC}
end
section
variable {X:Cx}
end
section
variable {prog:AK}{w:AJ}{A:AL}{R:Result->AC->Prop}{I:AA}{fp wr:List AA}{n:Nat}{P:Nat->AB->Prop}{St:Nat->Heap->Prop}
end
section
variable {prog:AK}{w:AJ}{A:AL}{E:AB->AC->Prop}{s:AC}
end
section
variable {X:Cx}
end
end PU
namespace TS
open PySem PyProof.Rows
section
variable {prog:AK}{w:AJ}{A:AL}{E:AB->AC->Prop}{s:AC}
variable {κ:SortKind}{S:Keyed->Prop}{R:Keyed->Keyed->Bool}
end
section
variable {prog:AK}{w:AJ}{A:AL}{E:AB->AC->Prop}{s:AC}
variable {κ:SortKind}{S:Keyed->Prop}{R:Keyed->Keyed->Bool}{a₀:Array Keyed}
end
section
variable {R:Keyed->Keyed->Bool}{W out la lb xs:List Keyed}
end
section
variable {prog:AK}{w:AJ}{A:AL}{E:AB->AC->Prop}{s:AC}
variable {κ:SortKind}{S:Keyed->Prop}{R:Keyed->Keyed->Bool}
section
variable {a b o:Array Keyed}{st st':SortSt}{i j mg u v x₀ x:Nat}
end
section
variable {a b:Array Keyed}{st st':SortSt}{x₀ x mg:Nat}
end
end
section
variable {R:Keyed->Keyed->Bool}{W out la lb xs:List Keyed}
end
section
variable {prog:AK}{w:AJ}{A:AL}{E:AB->AC->Prop}{s:AC}
variable {κ:SortKind}{S:Keyed->Prop}{R:Keyed->Keyed->Bool}
section
variable {a b o:Array Keyed}{st st':SortSt}{i j mg u v x₀ x:Nat}
end
section
variable {a b:Array Keyed}{st st':SortSt}{x₀ x mg:Nat}
end
end
section
variable {prog:AK}{w:AJ}{A:AL}{E:AB->AC->Prop}{s:AC}
variable {κ:SortKind}{S:Keyed->Prop}{R:Keyed->Keyed->Bool}{a₀:Array Keyed}
end
section
variable {R:Keyed->Keyed->Bool}{a b:Array Keyed}
end
section
variable {prog:AK}{w:AJ}{A:AL}{E:AB->AC->Prop}{s:AC}
variable {κ:SortKind}{S:Keyed->Prop}{R:Keyed->Keyed->Bool}{a₀:Array Keyed}
end
section
variable {prog:AK}{w:AJ}{A:AL}{E:AB->AC->Prop}{s:AC}
variable {κ:SortKind}{S:Keyed->Prop}{R:Keyed->Keyed->Bool}
end
open L2 PU
section
variable {prog:AK}{w:AJ}{A:AL}{E:AB->AC->Prop}{s:AC}
variable {κ:SortKind}{S:Keyed->Prop}{R:Keyed->Keyed->Bool}
end
end TS
namespace PU
open L2
section
variable {α:Type}{lt:α->α->Bool}
end
open L2 PySem.W
section
variable {prog:AK}{w:AJ}{A:AL}{E:AB->AC->Prop}{s:AC}
end
section
variable {X:Cx}{pins:List (AA×Obj)}{σ:L2.St}{F H:Hp}{s:AC}
end
section
variable {X:Cx}
end
section
variable {prog:AK}{w:AJ}{A:AL}{E:AB->AC->Prop}{s:AC}{it d:AA}{i ep:Nat}{es:Array DictEntry}
end
end PU
namespace TS
open L2 PU
section
variable {prog:AK}{w:AJ}{A:AL}{E:AB->AC->Prop}{s:AC}
variable {κ:SortKind}{S:Keyed->Prop}{R:Keyed->Keyed->Bool}
end
end TS
namespace PU
open L2 PySem.W
section
variable {prog:AK}{w:AJ}{A:AL}{E:AB->AC->Prop}{s:AC}
end
section
variable {X:Cx}
end
open L2
section
variable {X:Cx}{pins:List (AA×Obj)}{σ:L2.St}{H:Hp}{s:AC}{a b:AA}{kvs:List (List Q8×V)}{k:List Q8}{v:V}{r:AB}{A:AL}{E:AB->AC->Prop}
end
section
variable {X:Cx}
end
section
variable {K:AE}{F:Hp}{a:AA}{xs:List V}
end
section
variable {X:Cx}
end
section
variable {X:Cx}{tg:AF}
end
section
variable {prog:AK}{w:AJ}{A:AL}{E:AB->AC->Prop}{s:AC}
end
section
variable {X:Cx}{pins:List (AA×Obj)}{σ:L2.St}{A:AL}{R:Result->AC->Prop}
end
section
variable {X:Cx}
end
open Builtin Builtin.Str
section
variable {prog:AK}{w:AJ}{A:AL}{E:AB->AC->Prop}{s:AC}{x y:Str}{t u:Tok}{Q:AB->AC->Prop}
theorem b3W(hy:(y.length==0)=false)
 (hq:∀l k,l.map (·.1)=Txt.split x y->Q (.ref s.heap.objs.size) {s with heap:=s.heap.push {cls:= .type "list",data:= .seq (strValues l).toArray},toks:=k})
 (hsz:x.length<=AN) (hsz2:(Txt.split x y).length<=AN):
 AH (model prog w) A (call (.builtin "str.split") [.str x t,.str y u]) Q E s:=by
 cases h1:(decide (x.length<y.length)||decide (strKind x<strKind y))
 ·cases hf:(occurrences x y 0 x.length (x.length+1)).isEmpty
  ·have e:Txt.split x y=partsBetween x (occurrences x y 0 x.length (x.length+1)) y.length:=(if_neg (ne_true_of_eq_false h1)).trans (if_neg (ne_true_of_eq_false hf))
   refine call_meets F.slot_str_split (typeIs_str _ _ _) F.entry_str_split (F.args_str_split_2 _ _) (meets_str_split_sep x y t u h1 hy hf hsz (by rw [<-e];exact hsz2)) ?_
   show wants Q E _ {s with toks:=_,heap:=s.heap.push {cls:= .type "list",data:= .seq (strsFrom s.toks (partsBetween x (occurrences x y 0 x.length (x.length+1)) y.length)).toArray}}
   rw [strsFrom_eq]
   exact hq (numbered s.toks _) _ ((numbered_texts _ _).trans e.symm)
  ·exact call_meets F.slot_str_split (typeIs_str _ _ _) F.entry_str_split (F.args_str_split_2 _ _) (meets_str_split_not_found x y t u h1 hy hf)
    (hq [(x,t)] s.toks ((if_neg (ne_true_of_eq_false h1)).trans (if_pos hf)).symm)
 ·exact call_meets F.slot_str_split (typeIs_str _ _ _) F.entry_str_split (F.args_str_split_2 _ _) (meets_str_split_cannot_occur x y t u h1)
   (hq [(x,t)] s.toks (if_pos h1).symm)
end
def a13(x y:g0):Υ g0:=match x,y with
 | .v (.str z),.v (.str y)=>if(y.length==0)=false/\z.length<=AN/\(Txt.split z y).length<=AN then ξ (.own ((Txt.split z y).map .str)) else ζ
 |_,_=>ζ
theorem b0Y:∀(l:List (Str×Tok)),y0 ((l.map (·.1)).map V.str) (strValues l)
 |[]=> .nil
 |p::l=> .cons ⟨p.2,rfl⟩ (b0Y l)
section
variable {X:Cx}
theorem b8K:MtR X "str.split" (λx xs H Q=>∃F y rx ry rz,xs=[y]/\u3 F H/\R0 X.K F H x rx/\R0 X.K F H y ry/\a13 rx ry=ξ rz/\∀v F' H',B5 X.K F H F' H' v rz->Q v H'):=by
 ext w
 unfold a13 at h3;split at h3
 ·rename_i z y;split at h3
  ·rename_i c
   ext x
   obtain⟨t,rfl⟩:=rx;obtain⟨t2,rfl⟩:=ru;refine b3W c.1 (λl k' hl=> ?_) c.2.1 c.2.2;have hf:=I.hok.fresh (AV s.heap.objs.size);refine⟨.ref s.heap.objs.size,_,I.laid (t':=k') (o:= .lst ((Txt.split z y).map V.str)) (λb ob q=>AS _ q) (AV _) ⟨by rw [AY];exact c.2.2,strValues l,0, ?_,Am _ rfl⟩,rfl,k _ F _ (B5.lst s0 hf (a7b _))⟩
   rw [<-hl];exact b0Y l
  ·cases h3
 ·cases h3
theorem a8C{o e:AF}{m n:M}{apos cpos:Pos}(ho:EE X o m)(ha:EE X e n)
 (hbase:attributeBase o "split" X.env (eval o X.env)=eval o X.env:=by rfl)
 (hfew:((backTo cpos (AI [e] X.env)).all (λx=> !x.1)&&(backToKw cpos (keywordEach [] X.env)).all (λx=>x.1.isSome)
  && decide ([e].length+([]:List Keyword).length+(if([]:List Keyword).isEmpty then 0 else 1)<30))=true:=by rfl)
 (hline:(apos.endLine==cpos.line)=true:=by rfl) (hs:AI [e] X.env=(false,eval e X.env)::AI [] X.env:=by rfl) (hplain:(backTo cpos (AI [] X.env)).any (·.1)=false:=by rfl):
 EE X (.Call (.Attribute o "split" apos) [e] [] cpos) (m2 a13 m n):=
 B1 (b0G PySem.F.plainAttrs_str PySem.F.slot_str_split PySem.F.type_str_split b8K ho (z7 ha S5 hs) hbase hfew hline hs hplain) λσ H Q h0=>z9 h0 λF ρ r he hm k=>by
  ext e
  unfold a13 at hm;split at hm
  ·cases o1.rep;rfl
  ·cases hm
def a7Q(x:g0):Υ g0:=match x with
 | .v (.int i)=>if i.natAbs.log2<1920 then ξ (.v (.str (AD (toString i)))) else ζ
 |_=>ζ
theorem a8w:R7 X (.type "str") (rC1 X.K a7Q):=by
 ext f
 ext bi
 unfold a7Q at h2;split at h2
 ·rename_i i;split at h2
  ·rename_i c;cases h2;cases h1;obtain⟨t,rfl⟩:=ru;exact PySem.P.str_of_int c ⟨.str _,H,I.tok _,⟨_,rfl⟩,k _ F H (B5.here s0 rfl)⟩
  ·cases h2
 ·cases h2
def b0r(x:g0):Υ g0:=match x with
 | .v (.str z)=>if z.length<=640 then(PySem.intText? z).map λn=> .v (.int n) else ζ
 |_=>ζ
theorem b48:R7 X (.type "int") (rC1 X.K b0r):=by
 ext f
 ext bi
 unfold b0r at h2;split at h2
 ·rename_i z;split at h2
  ·rename_i c;cases hn:PySem.intText? z with
   |none=>rw [hn] at h2;cases h2
   |some n=>
    rw [hn] at h2;cases h2;cases h1;obtain⟨t,rfl⟩:=ru;exact PySem.W.KIN.call_text hn c ⟨.int n,H,I.tok _,⟨_,rfl⟩,k _ F H (B5.here s0 rfl)⟩
  ·cases h2
 ·cases h2
end
structure Chg(fs ex:List AA)(h h':Heap):Prop where
 keep:∀b o,h.get? b=ξ o->b∉fs->b∉ex->h'.get? b=ξ o
 slot:∀b o,h.get? b=ξ o->b∈fs->b∉ex->∃sl,h'.get? b=ξ {o with slots:=sl}
 size:h.objs.size<=h'.objs.size
structure ExT(h:Heap)(e C T:AA)(fl:AB)(dd:Υ AA):Prop where
 obj:∃oe vs,h.get? e=ξ oe/\oe.cls= .ref C/\oe.data= .fields vs/\vs[1]?=ξ (.ref T)/\oe.dict=dd
 ne:T≠e
 tb:∃oT ts,h.get? T=ξ oT/\oT.data= .fields ts/\ts[3]?=ξ fl
def Ex0(h:Heap)(e C:AA)(dd:Υ AA):Prop:=∃oe vs,h.get? e=ξ oe/\oe.cls= .ref C/\oe.data= .fields vs/\vs[1]?=ξ .none/\oe.dict=dd
theorem b6a(f:Array AB->Array AB)(o:Obj):(Obj.mapFields f o).dict=o.dict:=by
 obtain⟨c,d,dt,sl⟩:=o;cases dt<;>rfl
section
variable {M:Model}{A:AL}{E:AB->AC->Prop}{s:AC}{base:Heap}{env:Env}{outer:List Env}{L e C:AA}{dd:Υ AA}
theorem b0D{oe:Obj}{vs:Array AB}{head:AB}{hadNext:Bool}{Q:Unit->AC->Prop}(hfr:A.frames=ξ (env::outer))(hl:s.heap.FunFrames base (env::outer))(hf:env.frame=ξ L)
 (he:s.heap.get? e=ξ oe) (hc:oe.cls= .ref C) (hd:oe.data= .fields vs) (hdn:oe.dict=dd) (hsz:1<vs.size)
 (k:∀T h',s.heap.objs.size<=T->ExT h' e C T (rawInt L) dd->Chg ((env::outer).filterMap (·.frame)) [e] s.heap h'->Q () {s with heap:=h'}):
 AH M A (do let a<-frameOf env;let pl<-entryPlaceOf L hadNext;let b<-EntryCells.newEntry head a .none (rawInt L) .none pl;setField (.ref e) 1 b) Q E s:=by
 have hef:e∉(env::outer).filterMap (·.frame):=λhm=>by
  obtain⟨_,o,ho,hnf⟩:=hl.mem hm;rw [he] at ho;cases ho;exact hnf vs hd
 refine AG (wpAny_frameOf_fun hfr hl hf λh₁ hs₁=> ?_)
 refine AG (wpAny_entryPlaceOf λpl hpl=> ?_)
 unfold EntryCells.newEntry newFields
 refine AG (wpAny_newObj_type ?_ (hpl.sizeOk5 _ _ _ _ _))
 generalize hT:({cls:= .type "traceback",dict:=ζ,data:= .fields ([head,.ref L,.none,rawInt L,.none]++(if pl.isEmpty then AU 6 Value.none else pl)).toArray}:Obj)=oT
 have he₁:h₁.get? e=ξ oe:=(hs₁.2.1 e hef).trans he
 have he₂:=AS (h:=h₁) oT he₁
 have hTe:h₁.objs.size≠e:=Nat.ne_of_gt (AW he₁)
 have hd₃:=Obj.data_mapFields hd (·.setIfInBounds 1 (Value.ref h₁.objs.size))
 have he₃:=Heap.get?_update_self (Obj.mapFields (·.setIfInBounds 1 (Value.ref h₁.objs.size))) he₂ (Obj.isFreed_of_fields hd₃)
 have oth:∀b o,b≠e->h₁.get? b=ξ o->((h₁.push oT).update e (Obj.mapFields (·.setIfInBounds 1 (Value.ref h₁.objs.size)))).get? b=ξ o:=λb o hb hbo=>by
  rw [Heap.get?_update_other _ _ (Ne.symm hb)];exact AS _ hbo
 have hT3:((h₁.push oT).update e (Obj.mapFields (·.setIfInBounds 1 (Value.ref h₁.objs.size)))).get? h₁.objs.size=ξ oT:=by
  rw [Heap.get?_update_other _ _ (Ne.symm hTe)];exact Am h₁ (by rw [<-hT];rfl)
 refine wpAny_setField he₂ hd hsz (k h₁.objs.size _ (Nat.le_of_eq hs₁.1.symm) ⟨⟨_,_,he₃,(Obj.cls_mapFields _ _).trans hc,hd₃,by simp [hsz],(b6a _ _).trans hdn⟩,hTe,oT,_,hT3,by rw [<-hT], ?_⟩ ⟨λb o hb hbf hbe=> ?_,λb o hb hbf hbe=> ?_, ?_⟩)
 ·rcases hpl with rfl|⟨_,_,_,_,_,_,_,rfl⟩<;>simp
 ·exact oth b o (λz=>hbe (by rw [z];exact List.mem_singleton.mpr rfl)) ((hs₁.2.1 b hbf).trans hb)
 ·obtain⟨sl,hs⟩:=hs₁.2.2 b o hb
  exact⟨sl,oth b _ (λz=>hbe (by rw [z];exact List.mem_singleton.mpr rfl)) hs⟩
 ·rw [Heap.size_update,Heap.size_push,hs₁.1];lia
theorem b4z{Q:Unit->AC->Prop}(hfr:A.frames=ξ (env::outer))(hl:s.heap.FunFrames base (env::outer))(hf:env.frame=ξ L)(x:Ex0 s.heap e C dd)
 (k:∀T h',s.heap.objs.size<=T->ExT h' e C T (rawInt L) dd->Chg ((env::outer).filterMap (·.frame)) [e] s.heap h'->Q () {s with heap:=h'}):AH M A (noteFrame (.ref e) env) Q E s:=by
 obtain⟨oe,vs,he,hc,hd,h1,hdn⟩:=x
 unfold noteFrame
 simp only [hf]
 refine AG (wpAny_field he hd h1 ?_)
 rw [if_neg (by decide)]
 exact b0D hfr hl hf he hc hd hdn (Array.getElem?_eq_some_iff.mp h1).1 k
theorem a8F{fl:AB}{T:AA}{Q:Unit->AC->Prop}(x:ExT s.heap e C T fl dd)(fr:Υ AA)(k:∀h',ExT h' e C T (fr.elim .none λf=>rawInt f) dd->Chg [] [T] s.heap h'->h'.objs.size=s.heap.objs.size->Q () {s with heap:=h'}):AH M A (setFlight (.ref e) fr) Q E s:=by
 obtain⟨⟨oe,vs,he,hc,hd,h1,hdn⟩,hne,oT,ts,hT,hdT,h3⟩:=x;have hsz:=(Array.getElem?_eq_some_iff.mp h3).1;unfold setFlight;refine AG (wpAny_field he hd h1 ?_);rw [if_pos (show(Value.ref T !=Value.none)=true from by simp)]
 refine wpAny_setField hT hdT hsz (k _ ⟨⟨oe,vs, ?_,hc,hd,h1,hdn⟩,hne,_,_,Heap.get?_update_self _ hT (Obj.isFreed_of_fields (Obj.data_mapFields hdT _)),Obj.data_mapFields hdT _,by simp [hsz]⟩ ⟨λb o hb _ hbe=> ?_,(λb o _ hb=>nomatch hb), ?_⟩ ?_)
 ·rw [Heap.get?_update_other _ _ hne];exact he
 ·rw [Heap.get?_update_other _ _ (λz=>hbe (by rw [<-z];exact List.mem_singleton.mpr rfl))];exact hb
 ·rw [Heap.size_update];exact AV _
 ·rw [Heap.size_update]
theorem Chg.trans{fs ex ex':List AA}{h h1 h2:Heap}(x:Chg fs ex h h1)(y:Chg fs ex' h1 h2):Chg fs (ex++ex') h h2 where
 keep:=λb o e hf hx=>y.keep b o (x.keep b o e hf λz=>hx (BG _ z)) hf λz=>hx (Ay _ z)
 slot:=λb o e hf hx=>by
  obtain⟨sl,e1⟩:=x.slot b o e hf λz=>hx (BG _ z);obtain⟨sl2,e2⟩:=y.slot b {o with slots:=sl} e1 hf λz=>hx (Ay _ z)
  exact⟨sl2,e2⟩
 size:=Nat.le_trans x.size y.size
theorem Chg.more{fs fs' ex ex':List AA}{h h':Heap}(x:Chg fs ex h h')(hf:∀b∈fs,b∈fs')(he:∀b∈ex,b∈ex'):Chg fs' ex' h h' where
 keep:=λb o e h1 h2=>x.keep b o e (λz=>h1 (hf b z)) λz=>h2 (he b z)
 slot:=λb o e h1 h2=>by
  by_cases hb:b∈fs
  ·exact x.slot b o e hb λz=>h2 (he b z)
  ·exact⟨o.slots,x.keep b o e hb λz=>h2 (he b z)⟩
 size:=x.size
theorem Chg.funs{fs ex:List AA}{h h':Heap}{l:List Env}(x:Chg fs ex h h')(hl:h.FunFrames base l)(hx:∀b∈ex,∀o,h.get? b=ξ o->∃vs,o.data= .fields vs):h'.FunFrames base l:=
 hl.of_keeps λb o hb hnf=>by
  have hbx:b∉ex:=λz=>by
   obtain⟨vs,hd⟩:=hx b z o hb;exact hnf vs hd
  by_cases hbf:b∈fs
  ·obtain⟨sl,e⟩:=x.slot b o hb hbf hbx;exact⟨_,e,rfl⟩
  ·exact⟨o,x.keep b o hb hbf hbx,rfl⟩
theorem b0E{fl:AB}{T:AA}{Q:Unit->AC->Prop}(hfr:A.frames=ξ (env::outer))(hl:s.heap.FunFrames base (env::outer))(hf:env.frame=ξ L)(x:ExT s.heap e C T fl dd)(hne:fl≠rawInt L)
 (k:∀T' h',s.heap.objs.size<=T'->ExT h' e C T' (rawInt L) dd->Chg ((env::outer).filterMap (·.frame)) [T,e] s.heap h'->Q () {s with heap:=h'}):AH M A (noteFrame (.ref e) env) Q E s:=by
 obtain⟨⟨oe,vs,he,hc,hd,h1,hdn⟩,hTe,oT,ts,hT,hdT,h3⟩:=x
 have hsz:=(Array.getElem?_eq_some_iff.mp h3).1
 unfold noteFrame
 simp only [hf]
 refine AG (wpAny_field he hd h1 ?_)
 rw [if_pos (show(Value.ref T !=Value.none)=true from by simp)]
 refine AG (wpAny_field hT hdT h3 ?_)
 rw [if_neg (by simpa using hne)]
 refine AG (wpAny_setField hT hdT hsz ?_)
 have c1:Chg ((env::outer).filterMap (·.frame)) [T] s.heap (s.heap.update T (Obj.mapFields (·.setIfInBounds 3 Value.none))):=⟨λb o hb _ hbe=>by
  rw [Heap.get?_update_other _ _ (λz=>hbe (by rw [<-z];exact List.mem_singleton.mpr rfl))];exact hb,λb o hb _ hbe=>⟨o.slots,by
  rw [Heap.get?_update_other _ _ (λz=>hbe (by rw [<-z];exact List.mem_singleton.mpr rfl))];exact hb⟩,by rw [Heap.size_update];exact AV _⟩
 have hl':=c1.funs hl λb hb o ho=>by
  rw [List.mem_singleton.mp hb,hT] at ho;cases ho;exact⟨ts,hdT⟩
 refine b0D (s:={s with heap:=s.heap.update T (Obj.mapFields (·.setIfInBounds 3 Value.none))}) hfr hl' hf (by rw [Heap.get?_update_other _ _ hTe];exact he) hc hd hdn (Array.getElem?_eq_some_iff.mp h1).1 λT' h' hT' x' c'=>k T' h' ?_ x' (c1.trans c')
 have:(s.heap.update T (Obj.mapFields (·.setIfInBounds 3 Value.none))).objs.size=s.heap.objs.size:=Heap.size_update ..
 rw [<-this];exact hT'
end
def CX1(P:AK)(w:AJ):CXT:=λouter H s E e s'=>∃a C T dd H',e= .ref a/\s'.os=s.os/\AllBare s'.gens/\Un (frs outer) [] H H' s.heap s'.heap/\HOk P w H' s'.heap/\
 s.heap.get? a=ζ/\s.heap.get? T=ζ/\H' a=ζ/\H' T=ζ/\ExT s'.heap a C T .none dd/\E (.ref C) dd H'
theorem ExT.thereT{h:Heap}{e C T:AA}{fl:AB}{dd:Υ AA}(x:ExT h e C T fl dd):∃o,h.get? T=ξ o:=by obtain⟨o,_,h1,_⟩:=x.tb;exact⟨o,h1⟩
theorem b1l{P:AK}{w:AJ}{H:Hp}{h h':Heap}{fs ex:List AA}(x:HOk P w H h)(c:Chg fs ex h h')(hf:∀b∈fs,H b=ζ)(he:∀b∈ex,H b=ζ):HOk P w H h':=λa o e=>
 (x a o e).stay (λb u hb q=>by
  have hn:∃z,H b=ξ z:=by
   rcases hb with rfl|hb
   ·exact⟨_,e⟩
   ·exact⟨_,hb⟩
  obtain⟨z,hz⟩:=hn;exact c.keep b u q (λm=>by rw [hf b m] at hz;cases hz) λm=>by rw [he b m] at hz;cases hz) (λ_ q=>q) λ_ _ q=>q
theorem b9H{fs ex fs':List AA}{H H1:Hp}{h h1 h2:Heap}(u:Un fs [] H H1 h h1)(c:Chg fs' ex h1 h2)(hfs:∀b∈fs',b∈fs\/h.objs.size<=b)(hex:∀b∈ex,h.get? b=ζ):Un fs [] H H1 h h2 where
 keep:=λb o e hn hf hx=>by
  ext bd
  rcases hfs b m with h|h
  ·exact hf h
  ·exact Nat.lt_irrefl _ (As hlt h)
 slot:=λb o e hn hf hx=>by
  have hlt:b<h.objs.size:=AW e;obtain⟨sl,e1⟩:=u.slot b o e hn hf hx
  by_cases hb:b∈fs'
  ·obtain⟨sl2,e2⟩:=c.slot b {o with slots:=sl} e1 hb λm=>by rw [hex b m] at e;cases e
   exact⟨sl2,e2⟩
  ·exact⟨sl,c.keep b _ e1 hb λm=>by rw [hex b m] at e;cases e⟩
 free:=u.free
 there:=λb o e hx=>by
  obtain⟨o1,e1⟩:=u.there b o e hx
  by_cases hb:b∈ex
  ·rw [hex b hb] at e;cases e
  ·by_cases hb2:b∈fs'
   ·obtain⟨sl,e2⟩:=c.slot b o1 e1 hb2 hb;exact⟨_,e2⟩
   ·exact⟨_,c.keep b o1 e1 hb2 hb⟩
 tups:=u.tups
 frzs:=u.frzs
 tbls:=u.tbls
section
variable {P:AK}{w:AJ}{K:AE}{mg:Str->Υ AB}{base:Heap}{N:List Str}{qual:Str}{scope:Scope}{f:AA}{cd:AB}{A:AL}{outer:List Env}{s:AC}{H:Hp}{E:XK}
theorem a0L{pins:List (AA×Obj)}{σ:L2.St}{H2:Hp}{s2:AC}{a C:AA}{dd:Υ AA}(I:Inv (a2j (CX1 P w) P w K mg base N qual scope f cd A outer s H E) pins σ H2 s2)(x:Ex0 s2.heap a C dd)(ha:s.heap.get? a=ζ)(hn:H2 a=ζ)(hE:E (.ref C) dd H2):
 (a2j (CX1 P w) P w K mg base N qual scope f cd A outer s H E).xe (.ref a) s2:=by
 show AH (model P w) _ (leaving (envOfC qual scope s.heap.objs.size f cd) (.ref a)) _ _ s2
 unfold leaving
 have hfree:∀b∈(envOfC qual scope s.heap.objs.size f cd::outer).filterMap (·.frame),H2 b=ζ:=I.stkFree
 refine AG (b4z I.ok.frames I.stack rfl x λT h1 hT x1 c1=> ?_)
 refine a8F x1 ζ λh2 x2 c2 _=> ?_
 have hTn:H2 T=ζ:=I.hok.fresh hT
 have c:Chg ((envOfC qual scope s.heap.objs.size f cd::outer).filterMap (·.frame)) ([a]++[T]) s2.heap h2:=c1.trans (c2.more (λb hb=>nomatch hb) λb hb=>hb)
 have hsz:s.heap.objs.size<=s2.heap.objs.size:=I.sz
 have hex:∀b∈[a]++[T],s.heap.get? b=ζ:=λb hb=>by
  rcases Av.mp hb with h|h<;>rw [List.mem_singleton.mp h]
  ·exact ha
  ·exact Heap.get?_none_of_le (Nat.le_trans hsz hT)
 refine⟨a,C,T,dd,H2,rfl,I.os,I.bare,b9H I.base c (λb hb=> ?_) hex,b1l I.hok c hfree λb hb=> ?_,ha,Heap.get?_none_of_le (Nat.le_trans hsz hT),hn,hTn,x2,hE⟩
 ·rcases Ah.mp (I.stkSub b hb) with h|h
  ·exact .inr (by rw [h];exact I.ok.above)
  ·exact .inl h
 ·rcases Av.mp hb with h|h<;>rw [List.mem_singleton.mp h]
  ·exact hn
  ·exact hTn
theorem b4k:a3n (CX1 P w) (a2j (CX1 P w) P w K mg base N qual scope f cd A outer s H E) E:=by
 intro pins σ H1 s1 e s' I h;obtain⟨a,C,T,dd,H2,rfl,ho,hb,un,hok,ha,hT,hn,hTn,x,hE⟩:=h;have J:Inv (a2j (CX1 P w) P w K mg base N qual scope f cd A outer s H E) pins σ H2 s':=I.call' (ch:=[]) ho un hok hb λb z=>nomatch z;show AH (model P w) _ (leaving (envOfC qual scope s.heap.objs.size f cd) (.ref a)) _ _ s';unfold leaving;have hfree:∀b∈(envOfC qual scope s.heap.objs.size f cd::outer).filterMap (·.frame),H2 b=ζ:=J.stkFree;refine AG (b0E J.ok.frames J.stack rfl x (by simp [rawInt]) λT' h1 hT' x1 c1=> ?_)
 refine a8F x1 ζ λh2 x2 c2 _=> ?_;have hTn':H2 T'=ζ:=J.hok.fresh hT';have c:Chg ((envOfC qual scope s.heap.objs.size f cd::outer).filterMap (·.frame)) ([T,a]++[T']) s'.heap h2:=c1.trans (c2.more (λb hb=>nomatch hb) λb hb=>hb);have hsz:s.heap.objs.size<=s'.heap.objs.size:=J.sz;have back:∀b,s1.heap.get? b=ζ->s.heap.get? b=ζ:=λb hb=>by
  cases h:s.heap.get? b with
  |none=>rfl
  |some o=>
   obtain⟨o',e⟩:=I.base.there b o h (λz=>nomatch z);rw [hb] at e;cases e
 have mem:∀b∈[T,a]++[T'],b=T\/b=a\/b=T':=λb hb=>by simpa using hb
 obtain⟨oT,hoT⟩:=x.thereT;refine⟨a,C,T',dd,H2,rfl,J.os,J.bare,b9H J.base c (λb hb=> ?_) (λb hb=> ?_),b1l J.hok c hfree λb hb=> ?_,back a ha,Heap.get?_none_of_le (Nat.le_trans hsz hT'),hn,hTn',x2,hE⟩
 ·rcases Ah.mp (J.stkSub b hb) with h|h
  ·exact .inr (by rw [h];exact J.ok.above)
  ·exact .inl h
 ·rcases mem b hb with rfl|rfl|rfl
  ·exact back _ hT
  ·exact back _ ha
  ·exact Heap.get?_none_of_le (Nat.le_trans hsz hT')
 ·rcases mem b hb with rfl|rfl|rfl
  ·exact hTn
  ·exact hn
  ·exact hTn'
end
theorem a8d{P:AK}{w:AJ}{H:Hp}{h:Heap}{a:AA}:∀{o:HO},F9 P w H h a o->∃ob,h.get? a=ξ ob
 | .lst _,⟨_,_,_,_,e⟩=>⟨_,e⟩
 | .tup _,⟨_,_,_,o,e,_⟩=>⟨_,e⟩
 | .dK _,⟨_,_,_,_,o,_,_,e,_⟩=>⟨_,e⟩
 | .dT _,⟨_,_,_,_,o,_,_,e,_⟩=>⟨_,e⟩
 | .set _ _,⟨o,_,_,_,e,_⟩=>⟨_,e⟩
 | .ins _ _ _,⟨_,_,_,e,_⟩=>⟨_,e⟩
 | .own _,⟨_,e⟩=>⟨_,e⟩
 | .xd _,⟨_,⟨_,_,_,e,_⟩,_⟩=>⟨_,e⟩
 | .rng _ _,⟨_,_,_,e⟩=>⟨_,e⟩
 | .frz _ _,⟨e,_⟩=>⟨_,e⟩
 | .tbl _,e=>⟨_,e⟩
 | .met _ _,e=>⟨_,e⟩
 | .ext _,⟨_,e,_⟩=>e
def a6k:List AB:=[.type "ValueError",.type "Exception",.type "BaseException",.type "object"]
def b7o(C:AA)(h:Heap):Prop:=∃tl N nm q bs hdct sn sub ab col dd k0 k1 k2 k3 k5,
 h.get? C=ξ (excClassObj nm q C N bs tl hdct sn sub ab col dd k0 k1 k2 k3 k5 "ValueError.__new__")/\OwnTail h a6k tl
def c2e(C:AA)(h:Heap):Prop:=∃tl N nm q bs hdct sn sub ab col dd k0 k1 k2 k3 k5 mN,
 h.get? C=ξ (excClassObj nm q C N bs tl hdct sn sub ab col dd k0 k1 k2 k3 k5 "ValueError.__new__")/\h.Ns N mN/\mN "__init__"=ζ/\OwnTail h a6k tl
section
variable {X:Cx}{x:Str}{C:AA}{np cpos pos:Pos}{e₀:AF}{rest:List AF}{t:TA}{W:Hp->Prop}
theorem b9d(hc:X.calm=true)(hx0:X.ex=[])(hg:Gl X x)(hm:X.mg x=ξ (.ref C))(hX:c2e C X.base)(ha:PA X (e₀::rest) t)
 (hxe:∀(pins:List (AA×Obj)) (σ:L2.St) (H:Hp) (s:AC) (a:AA),Inv X pins σ H s->Ex0 s.heap a C ζ->X.s₀.heap.get? a=ζ->H a=ζ->W H->X.xe (.ref a) s)
 (he:Ψ e₀ rest X.env:=by rfl) (hplain:Φ₁ cpos rest X.env:=by rfl) (hdb:Δ x:=by decide):
 PS X (.Raise (ξ (.Call (.Name x np) (e₀::rest) [] cpos)) ζ pos) (λ_ σ H=>t σ H λvs H1=>vs.length<=AN/\W H1):=by
 intro pins s σ H D I h
 obtain⟨tl,N,nm,q,bs,hdct,sn,sub,ab,col,dd,k0,k1,k2,k3,k5,mN,hC,hN,hni,T⟩:=hX
 have FB:=F.excBase_ValueError
 refine wpAny_Raise_call_subT (C:=C) (nm:=nm) (q:=q) (N:=N) (bs:=bs) (bm:=tl) (hdct:=hdct) (sn:=sn) (sub:=sub) (ab:=ab) (col:=col) (dd:=dd) (k0:=k0) (k1:=k1) (k2:=k2) (k3:=k3) (k5:=k5)
  FB (mN:=mN) (T.hasType FB.hasBase) (I.ok.hd hc) (by rw [he];show(false||(backTo cpos (AI rest X.env)).any (·.1))=false;rw [hplain];rfl) hni (a0p I hg hm ⟨rfl, ?_⟩ hdb)
 have hA:=ha cpos pins s σ H _ I h
 rw [he] at hA ⊢
 refine Calls.evalArgs_plain (M9 hA λus s2 h0=>a71 h0 λvs H2 I2 r2 hl q2=>⟨rfl,by rw [<-r2.length];exact hl,I2.bk _ _ hC,hN.keeps I2.bk,T.keeps I2.bk,λh' a hmk=> ?_⟩)
 obtain⟨tt,h1,_,_⟩:=hmk.there
 have hn:H2 a=ζ:=by
  cases h:H2 a with
  |none=>rfl
  |some o=>
   obtain⟨ob,e⟩:=a8d (I2.hok a o h);rw [hmk.new] at e;cases e
 have h0:X.s₀.heap.get? a=ζ:=by
  cases h:X.s₀.heap.get? a with
  |none=>rfl
  |some o=>
   obtain⟨o',e⟩:=I2.base.there a o h (λz=>by rw [hx0] at z;cases z)
   rw [hmk.new] at e;cases e
 have I3:Inv X pins σ H2 {s2 with heap:=h'}:=I2.kept (t':=s2.toks) hmk.keeps
 exact hxe pins σ H2 {s2 with heap:=h'} a I3 ⟨_,_,h1,rfl,rfl,rfl,rfl⟩ h0 hn q2
end
theorem c1C{fs ex0 ex fs':List AA}{H H1:Hp}{h h1 h2:Heap}(u:Un fs ex0 H H1 h h1)(c:Chg fs' ex h1 h2)(hfs:∀b∈fs',b∈fs\/h.objs.size<=b)(hex:∀b∈ex,h.get? b=ζ):Un fs ex0 H H1 h h2 where
 keep:=λb o e hn hf hx=>by
  ext bd
  rcases hfs b m with h|h
  ·exact hf h
  ·exact Nat.lt_irrefl _ (As hlt h)
 slot:=λb o e hn hf hx=>by
  obtain⟨sl,e1⟩:=u.slot b o e hn hf hx
  by_cases hb:b∈fs'
  ·obtain⟨sl2,e2⟩:=c.slot b {o with slots:=sl} e1 hb λm=>by rw [hex b m] at e;cases e
   exact⟨sl2,e2⟩
  ·exact⟨sl,c.keep b _ e1 hb λm=>by rw [hex b m] at e;cases e⟩
 free:=u.free
 there:=λb o e hx=>by
  obtain⟨o1,e1⟩:=u.there b o e hx
  by_cases hb:b∈ex
  ·rw [hex b hb] at e;cases e
  ·by_cases hb2:b∈fs'
   ·obtain⟨sl,e2⟩:=c.slot b o1 e1 hb2 hb;exact⟨_,e2⟩
   ·exact⟨_,c.keep b o1 e1 hb2 hb⟩
 tups:=u.tups
 frzs:=u.frzs
 tbls:=u.tbls
theorem Chg.any{fs ex:List AA}{h h':Heap}(c:Chg fs ex h h'){b:AA}{o:Obj}(e:h.get? b=ξ o)(hb:b∉ex):∃sl,h'.get? b=ξ {o with slots:=sl}:=by
 by_cases hf:b∈fs
 ·exact c.slot b o e hf hb
 ·exact⟨o.slots,c.keep b o e hf hb⟩
section
variable {X:Cx}{pins:List (AA×Obj)}{σ:L2.St}{H:Hp}{s:AC}
theorem Inv.chg{h':Heap}{ex:List AA}(I:Inv X pins σ H s)(c:Chg (frs X.stack) ex s.heap h')(h0:∀b∈ex,X.s₀.heap.get? b=ζ)(hn:∀b∈ex,H b=ζ)
 (hL:∀b∈ex,b≠X.env.locals) (hc:∀b∈ex,∀x z,X.env.cells.lookup x=ξ z->z≠b) (hp:∀b∈ex,∀p∈X.pn++pins,p.1≠b):Inv X pins σ H {s with heap:=h'} where
 ok:=I.ok
 os:=I.os
 bare:=I.bare
 base:=c1C I.base c (λb hb=>by
  rcases Ah.mp (I.stkSub b hb) with h|h
  ·exact .inr (by rw [h];exact I.ok.above)
  ·exact .inl h) h0
 loc:=by
  obtain⟨m,⟨o,es,ep,ho,hd,r⟩,hm⟩:=I.loc;obtain⟨sl,e⟩:=c.any ho λz=>hL _ z rfl;refine⟨m,⟨_,es,ep,e,hd,r⟩,λi x v h1 h2 h3=> ?_⟩;obtain⟨u,ru,hk⟩:=hm i x v h1 h2 h3;refine⟨u,ru, ?_⟩;rcases hk with hk|⟨hk,z,hz,oz,hoz,hdz⟩
  ·exact .inl hk
  ·obtain⟨sl2,e2⟩:=c.any hoz λm=>hc _ m x z hz rfl;exact .inr ⟨hk,z,hz,_,e2,hdz⟩
 cell:=λx z hz=>by
  obtain⟨v,oz,hoz,hdz⟩:=I.cell x z hz;obtain⟨sl2,e2⟩:=c.any hoz λm=>hc _ m x z hz rfl;exact⟨v,_,e2,hdz⟩
 free:=I.free
 freeC:=I.freeC
 pin:=λp hpm=>by
  obtain⟨h1,h2,h3,h4,h5⟩:=I.pin p hpm;refine⟨c.keep _ _ h1 (λm=> ?_) λm=>hp _ m p hpm rfl,h2,h3,h4,h5⟩;rcases Ah.mp (I.stkSub _ m) with h|h
  ·exact h3 h
  ·exact h4 h
 hok:=b1l I.hok c (λb hb=>I.stkFree b hb) hn
 len:=I.len
end
structure XT where
 cls:Str
 fs:List (PV×PV)
def XF(K:AE)(F:Hp)(fs:List (PV×PV))(dd:Υ AA):Prop:=(fs=[]/\dd=ζ)\/∃d vs,dd=ξ d/\F d=ξ (.xd vs)/\fs≠[]/\a3k K F fs vs
inductive FX where
 |fl (f:Fl)|rz (c:XT) (ρ:b9)
abbrev MX:=b9->Υ FX
def a6H(K:AE)(mg:Str->Υ AB)(E:L2.St->XK)(F0 H0 F:Hp)(σ0:L2.St)(D:U7):FX->Prop
 | .fl f=>Fin K F0 H0 F D f
 | .rz c ρ=>∃C,mg c.cls=ξ (.ref C)/\∀σ dd F' H',u3 F F'->SOk K F0 H0 F' H' σ ρ->XF K F' c.fs dd->E σ (.ref C) dd H'
theorem a6H.later{K:AE}{mg:Str->Υ AB}{E:L2.St->XK}{F0 H0 F F1:Hp}{σ0 σ1:L2.St}{D:U7}(s:u3 F F1):∀{fx:FX},a6H K mg E F0 H0 F σ0 D fx->a6H K mg E F0 H0 F1 σ1 D fx
 | .fl _,h=>Fin.later s h
 | .rz _ _,⟨C,h1,h2⟩=>⟨C,h1,λσ a F' H' s' so hn=>h2 σ a F' H' (s.trans s') so hn⟩
def tMX(K:AE)(mg:Str->Υ AB)(E:L2.St->XK)(m:MX):TS:=λD σ H=>∃F0 H0 F ρ fx,SOk K F0 H0 F H σ ρ/\m ρ=ξ fx/\a6H K mg E F0 H0 F σ D fx
theorem a5R{K:AE}{mg:Str->Υ AB}{E:L2.St->XK}{m:MX}{D:U7}{σ:L2.St}{H:Hp}{C:Prop}(h:tMX K mg E m D σ H)(k:∀F0 H0 F ρ fx,SOk K F0 H0 F H σ ρ->m ρ=ξ fx->a6H K mg E F0 H0 F σ D fx->C):C:=
 h.elim λa h=>h.elim λb h=>z9 h (k a b)
abbrev EX(X:Cx)(E:L2.St->XK)(st:Stmt)(m:MX):Prop:=PS X st (tMX X.K X.mg E m)
abbrev EXs(X:Cx)(E:L2.St->XK)(st:List Stmt)(m:MX):Prop:=PSs X st (tMX X.K X.mg E m)
def a0Z(m:MS):MX:=λρ=>(m ρ).map .fl
def a1l(m n:MX):MX:=λρ=>(m ρ).bind λfx=>match fx with
 | .fl (.nx ρ')=>n ρ'
 |f=>ξ f
def a7S(c:MT)(m n:MX):MX:=λρ=>(c ρ).bind λb=>if b=true then m ρ else n ρ
def c28(c:Str)(ma:MA):MX:=λρ=>(ma ρ).bind λps=>if ps.length<=AN then ξ (.rz ⟨c,[]⟩ ρ) else ζ
section
variable {X:Cx}{E:L2.St->XK}
theorem c2a{m:MS}{D:U7}{σ:L2.St}{H:Hp}(h:tMX X.K X.mg E (a0Z m) D σ H):tMS X.K m D σ H:=by
 obtain⟨F0,H0,F,ρ,fx,so,e,fin⟩:=h;unfold a0Z at e;cases hm:m ρ with
 |none=>rw [hm] at e;cases e
 |some f=>rw [hm] at e;cases e;exact⟨F0,H0,F,ρ,f,so,hm,fin⟩
theorem c4g{st:Stmt}{m:MS}(h:ES X st m):EX X E st (a0Z m):=G6 h λ_ _ _ q=>c2a q
theorem c2C{st:List Stmt}{m:MS}(h:ESs X st m):EXs X E st (a0Z m):=a77 h λ_ _ _ q=>c2a q
theorem a0X{st:Stmt}{m:MX}(h:EX X E st m):EXs X E [st] m:=b5L h
theorem T3{st:Stmt}{rest:List Stmt}{m n:MX}(h1:EX X E st m)(h2:EXs X E rest n):EXs X E (st::rest) (a1l m n):=
 a77 (D6 h1 h2) λD σ H h0=>a5R h0 λF0 H0 F ρ fx so e fin=>by
  obtain⟨f1,e1,e⟩:=bind_some e;cases f1 with
  |rz c ρ1=>cases e;exact⟨F0,H0,F,ρ,.rz c ρ1,so,e1,fin⟩
  |fl f=>
   cases f with
   |nx ρ'=>exact⟨F0,H0,F,ρ,.fl (.nx ρ'),so,e1,λσ' F' H' s so'=>⟨F0,H0,F',ρ',fx,so',e,fin.later s⟩⟩
   |rt r=>cases e;exact⟨F0,H0,F,ρ,_,so,e1,fin⟩
   |bk r=>cases e;exact⟨F0,H0,F,ρ,_,so,e1,fin⟩
   |ct r=>cases e;exact⟨F0,H0,F,ρ,_,so,e1,fin⟩
theorem b0j{c:AF}{a b:List Stmt}{mc:MT}{m n:MX}{pos:Pos}(hc:ET X c mc)(ha:EXs X E a m)(hb:EXs X E b n):EX X E (.If c a b pos) (a7S mc m n):=
 G6 (c13 hc ha hb) λD σ H h0=>a5R h0 λF0 H0 F ρ fx so e fin=>by
  obtain⟨b,e1,e⟩:=bind_some e;refine⟨F,ρ,b,so.e,e1,λF1 H1 x=> ?_⟩;cases b with
  |true=>exact b2M ⟨F0,H0,F1,ρ,fx,so.ext x,e,fin.later x.f⟩
  |false=>exact b2L ⟨F0,H0,F1,ρ,fx,so.ext x,e,fin.later x.f⟩
end
def spX(K:AE)(mg:Str->Υ AB)(n:Nat)(g:List PV->Υ (g0 ⊕ XT)):Sp:=λvs H Q E=>∃F ps r,u3 F H/\u5 K F ps vs/\ps.length=n/\g ps=ξ r/\(match r with
 | .inl r=>∀v F' H',B5 K F H F' H' v r->Q v H'
 | .inr c=>∃C,mg c.cls=ξ (.ref C)/\∀dd F' H',Ext F H F' H'->XF K F' c.fs dd->E (.ref C) dd H')
def W9(CX:CXT)(X:Cx)(E:L2.St->XK):Prop:=∀(pins:List (AA×Obj)) (σ:L2.St) (H:Hp) (s:AC) (e:AB) (s':AC),Inv X pins σ H s->CX X.stack H s (E σ) e s'->X.xe e s'
section
variable {X:Cx}{E:L2.St->XK}{CX:CXT}
theorem b3g{k:Nat}{f:AA}{fd:FuncData}{ps:List Str}{sp:Sp}{x:Str}{p pos:Pos}{e:AF}{es:List AF}{t:TA}(F:P4 X.prog X.w X.K X.mg X.base CX k f fd ps sp)(hr:G3 k X.A)(hg:Gl X x)(hm:X.mg x=ξ (.ref f))(hk:PySem.W.keepIn X.K (.ref f)=true)(hb:V5 X.K fd ps [])(hx:W9 CX X E)
 (ha:PA X (e::es) t) (hdb:Δ x:=by decide) (he:Ψ e es X.env:=by rfl) (hpl:Φ₁ pos es X.env:=by rfl):
 PE X (.Call (.Name x p) (e::es) [] pos) (λσ H Q=>t σ H λvs H1=>sp vs H1 Q (E σ)):=by
 intro pins s σ H Q I h
 refine wpAny_Call_Name_kw (a0p I hg hm ?_ hdb)
 refine PySem.W.callWith_K (h₀:=X.base) I.ok.mod.kin hk (M9 (ha pos pins s σ H _ I h) λus s1 h0=>w8 h0 λvs H1 I1 r q=>⟨I1.kIn, ?_⟩) he hpl
 have hl:(us++[]).length=ps.length:=by rw [Al,<-r.length];exact F.len _ _ _ _ q
 have hb':=hb s1 us I1.kIn hl
 rw [Al] at hb'
 refine wpAny_call (codeAny_mono (F.run X.A X.stack s1 H1 ⟨us,[]⟩ us vs Q (E σ) hr I1.env0 hb' r q) λr s' hq=> ?_)
 cases r with
 |error e=>exact hx pins σ H1 s1 e s' I1 hq
 |ok fl=>
  cases fl with
  |ret u=>exact I1.after hq
  |next=>exact False.elim hq
  |brk=>exact False.elim hq
  |cont=>exact False.elim hq
def b2l(g:List PV->Υ (g0 ⊕ XT))(m:MA):b9->Υ (g0 ⊕ XT):=λρ=>(m ρ).bind g
def b0B(i:Nat)(g:List PV->Υ (g0 ⊕ XT))(m:MA):MX:=λρ=>(b2l g m ρ).bind λr=>match r with
 | .inl r=>if r.nb=true then ξ (.fl (.nx (ρ.set i (ξ r)))) else ζ
 | .inr c=>ξ (.rz c ρ)
def a48(g:List PV->Υ (g0 ⊕ XT))(m:MA):MX:=λρ=>(b2l g m ρ).bind λr=>match r with
 | .inl _=>ξ (.fl (.nx ρ))
 | .inr c=>ξ (.rz c ρ)
theorem b46{n:Nat}{g:List PV->Υ (g0 ⊕ XT)}{m:MA}{F0 H0 F H:Hp}{σ:L2.St}{ρ:b9}{Q:VK}{r:g0 ⊕ XT}(so:SOk X.K F0 H0 F H σ ρ)(hn:∀ρ ps,m ρ=ξ ps->ps.length=n)(e:b2l g m ρ=ξ r)
 (k:match r with
  | .inl r=>∀v F' H',B5 X.K F H F' H' v r->Q v H'
  | .inr c=>∃C,X.mg c.cls=ξ (.ref C)/\∀dd F' H',Ext F H F' H'->XF X.K F' c.fs dd->E σ (.ref C) dd H'):
 tMA X.K m σ H λvs H1=>spX X.K X.mg n g vs H1 Q (E σ):=by
 obtain⟨qs,e1,e2⟩:=bind_some e
 refine⟨F,ρ,qs,so.e,e1,λvs F1 H1 x rl=>⟨F1,qs,r,x.fh,rl,hn _ _ e1,e2, ?_⟩⟩
 cases r with
 |inl r=>exact λv F2 H2 o=>k v F2 H2 (B5.trans x o)
 |inr c=>
  obtain⟨C,h1,h2⟩:=k
  exact⟨C,h1,λa F2 H2 y hn=>h2 a F2 H2 (x.trans y) hn⟩
theorem c2A{k n i:Nat}{f:AA}{fd:FuncData}{ps:List Str}{g:List PV->Υ (g0 ⊕ XT)}{x y:Str}{p pos pos' pos2:Pos}{e:AF}{es:List AF}{m:MA}(hN:X.N.Nodup)
 (G:P4 X.prog X.w X.K X.mg X.base CX k f fd ps (spX X.K X.mg n g)) (hr:G3 k X.A) (hg:Gl X x) (hm:X.mg x=ξ (.ref f)) (hk:PySem.W.keepIn X.K (.ref f)=true) (hb:V5 X.K fd ps []) (hx:W9 CX X E) (hn:∀ρ ps,m ρ=ξ ps->ps.length=n) (ha:EA X (e::es) m)
 (hi:X.N[i]?=ξ y:=by rfl) (hy:Loc X.env.scope y:=by exact Or.inl rfl) (hs:swapsWith (.Call (.Name x p) (e::es) [] pos) (ξ (.Name y pos')) pos2.line X.env=pure false:=by rfl) (hf:X.fn y=true\/X.env.scope.names.lookup y=ξ .local:=by first|exact .inl rfl|exact .inr rfl|assumption)
 (hdb:Δ x:=by decide) (he:Ψ e es X.env:=by rfl) (hpl:Φ₁ pos es X.env:=by rfl):
 EX X E (.Assign [.Name y pos'] (.Call (.Name x p) (e::es) [] pos) pos2) (b0B i g m):=
 G6 (b9f hN hi hy (b3g (E:=E) G hr hg hm hk hb hx ha hdb he hpl) hs hf) λD σ H h0=>a5R h0 λF0 H0 F ρ fx so e fin=>by
  obtain⟨r,e1,e⟩:=bind_some e;refine b46 so hn e1 ?_;cases r with
  |inl r=>
   have e:(if r.nb=true then ξ (FX.fl (.nx (ρ.set i (ξ r)))) else ζ)=ξ fx:=e
   split at e
   ·rename_i c;cases e;exact λv F' H' o=>fin _ F' H' o.x.f (so.set o c i)
   ·cases e
  |inr c=>
   cases e;obtain⟨C,h1,h2⟩:=fin;exact⟨C,h1,λa F' H' y hn=>h2 σ a F' H' y.f (so.ext y) hn⟩
theorem c2B{k n:Nat}{f:AA}{fd:FuncData}{ps:List Str}{g:List PV->Υ (g0 ⊕ XT)}{x:Str}{p pos pos2:Pos}{e:AF}{es:List AF}{m:MA}
 (G:P4 X.prog X.w X.K X.mg X.base CX k f fd ps (spX X.K X.mg n g)) (hr:G3 k X.A) (hg:Gl X x) (hm:X.mg x=ξ (.ref f)) (hk:PySem.W.keepIn X.K (.ref f)=true) (hb:V5 X.K fd ps []) (hx:W9 CX X E) (hn:∀ρ ps,m ρ=ξ ps->ps.length=n) (ha:EA X (e::es) m)
 (hs:swapsWith (.Call (.Name x p) (e::es) [] pos) ζ pos2.line X.env=pure false:=by rfl)
 (hdb:Δ x:=by decide) (he:Ψ e es X.env:=by rfl) (hpl:Φ₁ pos es X.env:=by rfl):
 EX X E (.Expr (.Call (.Name x p) (e::es) [] pos) pos2) (a48 g m):=
 G6 (b1N (b3g (E:=E) G hr hg hm hk hb hx ha hdb he hpl) hs) λD σ H h0=>a5R h0 λF0 H0 F ρ fx so e fin=>by
  obtain⟨r,e1,e⟩:=bind_some e;refine b46 so hn e1 ?_;cases r with
  |inl r=>cases e;exact λv F' H' o=>fin σ F' H' o.x.f (so.ext o.x)
  |inr c=>
   cases e;obtain⟨C,h1,h2⟩:=fin;exact⟨C,h1,λa F' H' y hn=>h2 σ a F' H' y.f (so.ext y) hn⟩
theorem b2v{E1:XK}{x:Str}{C:AA}{np cpos pos:Pos}{e₀:AF}{rest:List AF}{m:MA}(hc:X.calm=true)(hx0:X.ex=[])(hg:Gl X x)(hm:X.mg x=ξ (.ref C))(hX:c2e C X.base)(ha:EA X (e₀::rest) m)
 (hxe:∀(pins:List (AA×Obj)) (σ:L2.St) (H:Hp) (s:AC) (a:AA),Inv X pins σ H s->Ex0 s.heap a C ζ->X.s₀.heap.get? a=ζ->H a=ζ->E1 (.ref C) ζ H->X.xe (.ref a) s)
 (he:Ψ e₀ rest X.env:=by rfl) (hplain:Φ₁ cpos rest X.env:=by rfl) (hdb:Δ x:=by decide):
 EX X (λ_=>E1) (.Raise (ξ (.Call (.Name x np) (e₀::rest) [] cpos)) ζ pos) (c28 x m):=
 G6 (b9d (W:=λH=>E1 (.ref C) ζ H) hc hx0 hg hm hX ha hxe he hplain hdb) λD σ H h0=>a5R h0 λF0 H0 F ρ fx so e fin=>by
  obtain⟨qs,e1,e⟩:=bind_some e;split at e
  ·rename_i c;cases e;obtain⟨C',h1,h2⟩:=fin;rw [hm] at h1;cases h1;refine⟨F,ρ,qs,so.e,e1,λvs F1 H1 y rl=>⟨by rw [rl.length];exact c,h2 σ ζ F1 H1 y.f (so.ext y) (.inl ⟨rfl,rfl⟩)⟩⟩
  ·cases e
end
def b6X(n:Nat)(body:MX)(ps:List PV):Υ (g0 ⊕ XT):=(body (ps.map (λp=>ξ (g0.v p))++AU n ζ)).bind λfx=>match fx with
 | .fl (.rt r)=>ξ (.inl r)
 | .fl (.nx _)=>ξ (.inl (.v .none))
 | .rz c _=>ξ (.inr c)
 |_=>ζ
theorem c2G{P:AK}{w:AJ}{K:AE}{mg:Str->Υ AB}{base:Heap}{x qual:Str}{st:Stmt}{f:AA}{fd:FuncData}{N ps:List Str}{k:Nat}{m:MX}(F:Fun K x qual st f fd)(S:g8 N ps (d4 st))
 (hb:∀(cdv:AB) (A:AL) (outer:List Env) (s:AC) (H:Hp) (E:XK),G3 k (A.deeper (envOfC qual (d4 st) s.heap.objs.size f cdv))->EXs (a2j (CX1 P w) P w K mg base N qual (d4 st) f cdv A outer s H E) (λ_=>E) (C4 st) m):
 P4 P w K mg base (CX1 P w) (k+1) f fd ps (spX K mg ps.length (b6X (N.length - ps.length) m)):=by
 obtain⟨oc,od,kV,doc,pm,an,cdv,ct,osl,rfl,lk,hcd⟩:=F.ex
 refine c1T lk hcd S (λvs H Q E h=> ?_) λA outer s H vs Q E hr h=> ?_
 ·obtain⟨_,qs,_,_,r,h2,_⟩:=h
  rw [r.length,h2]
 ·obtain⟨F1,qs,r,s1,rl,hl,e,k⟩:=h
  refine⟨_,hb cdv A outer s H E hr, ?_⟩
  unfold b6X at e
  obtain⟨fx,e1,e2⟩:=bind_some e
  have hv:vs.length=ps.length:=by rw [rl.length,hl]
  refine⟨F1,H,F1,_,fx, ?_,e1, ?_⟩
  ·have:=b3q (N.length - ps.length) s1 rl
   unfold L2.a1s
   rw [hv]
   exact this
  ·cases fx with
   |rz c ρ1=>
    cases e2
    obtain⟨C,h1,h2⟩:=k
    exact⟨C,h1,λ_ a F' H' _ so' hn=>h2 a F' H' so'.x hn⟩
   |fl f=>
    cases f with
    |rt q=>cases e2;exact λv F' H' o=>k v F' H' o
    |nx ρ=>cases e2;exact λσ' F' H' _ so=>k .non F' H' (B5.val so.x rfl)
    |bk ρ=>cases e2
    |ct ρ=>cases e2
def a6G(P:AK)(w:AJ)(K:AE)(mg:Str->Υ AB)(base:Heap)(x:Str)(ps:List Str)(k:Nat)(g:List PV->Υ (g0 ⊕ XT)):Prop:=
 ∃f fd,P4 P w K mg base (CX1 P w) k f fd ps (spX K mg ps.length g)/\mg x=ξ (.ref f)/\PySem.W.keepIn K (.ref f)=true/\V5 K fd ps []
def left(g:List PV->Υ (g0 ⊕ XT))(ps:List PV):Υ g0:=(g ps).bind λr=>match r with
 | .inl r=>ξ r
 | .inr _=>ζ
section
variable {X:Cx}
theorem c3p:a3n (CX1 X.prog X.w) X E0:=λ_ _ _ _ _ _ _ h=>by
 obtain⟨_,_,_,_,_,_,_,_,_,_,_,_,_,_,_,h⟩:=h;exact False.elim h
theorem b1a{k k':Nat}{ps:List Str}{g:List PV->Υ (g0 ⊕ XT)}{x:Str}{p pos:Pos}{e:AF}{es:List AF}{m:MA}
 (d:a6G X.prog X.w X.K X.mg X.base x ps k g) (hr:G3 k' X.A) (hk:k<=k') (hg:Gl X x) (hn:∀ρ qs,m ρ=ξ qs->qs.length=ps.length) (ha:EA X (e::es) m)
 (hdb:Δ x:=by decide) (he:Ψ e es X.env:=by rfl) (hpl:Φ₁ pos es X.env:=by rfl):
 EE X (.Call (.Name x p) (e::es) [] pos) (i7 (left g) m):=by
 obtain⟨f,fd,G,h1,h2,h3⟩:=d
 refine B1 (b5K G (hr.mono hk) hg h1 h2 h3 .nil c3p ha hdb he hpl) λσ H Q h0=>z9 h0 λF ρ r he hm k=> ?_
 obtain⟨qs,e1,hm⟩:=bind_some hm
 obtain⟨r',e2,hm⟩:=bind_some hm
 cases r' with
 |inr c=>cases hm
 |inl r'=>
  cases hm
  refine⟨F,ρ,qs,he,e1,λvs F1 H1 x rl=> ?_⟩
  show spX X.K X.mg ps.length g (vs++[]) H1 Q E0
  rw [Al]
  exact⟨F1,qs,.inl r,x.fh,rl,hn _ _ e1,e2,λv F2 H2 o=>k v F2 H2 (B5.trans x o)⟩
abbrev _root_.L2.Cx.aim(X:Cx)(Y:AB->AC->Prop)(pn:List (AA×Obj)):Cx:={X with xe:=Y,pn:=pn}
theorem c2g{Y:AB->AC->Prop}{pins:List (AA×Obj)}{σ:L2.St}{H:Hp}{s:AC}(I:Inv X pins σ H s):Inv (X.aim Y (X.pn++pins)) [] σ H s:=⟨⟨I.ok.mod,I.ok.kind,I.ok.glob,I.ok.blt,I.ok.above,I.ok.inj,I.ok.has,I.ok.cab,I.ok.hd,I.ok.frames,I.ok.stk,I.ok.exf,I.ok.bs,I.ok.bsz,I.ok.noex,I.ok.exfs,I.ok.funs,I.ok.frf⟩,I.os,I.bare,I.base,I.loc,I.cell,I.free,I.freeC,λp hp=>I.pin p (by simpa using hp),I.hok,I.len⟩
theorem a4v{Y:AB->AC->Prop}{pins pins1:List (AA×Obj)}{σ:L2.St}{H:Hp}{s:AC}(I:Inv (X.aim Y (X.pn++pins)) pins1 σ H s):Inv X pins σ H s:=⟨⟨I.ok.mod,I.ok.kind,I.ok.glob,I.ok.blt,I.ok.above,I.ok.inj,I.ok.has,I.ok.cab,I.ok.hd,I.ok.frames,I.ok.stk,I.ok.exf,I.ok.bs,I.ok.bsz,I.ok.noex,I.ok.exfs,I.ok.funs,I.ok.frf⟩,I.os,I.bare,I.base,I.loc,I.cell,I.free,I.freeC,λp hp=>I.pin p (BG _ hp),I.hok,I.len⟩
def Ap(X:Cx)(pins:List (AA×Obj))(b:AA):Prop:=X.s₀.heap.get? b=ζ/\b≠X.env.locals/\(∀x z,X.env.cells.lookup x=ξ z->z≠b)/\∀p∈X.pn++pins,p.1≠b
def Hnd(X:Cx)(hs:List ExceptHandler)(th:AA->AA->Υ AA->TS):Prop:=
 ∀(pins:List (AA×Obj)) (s:AC) (σ:L2.St) (H:Hp) (D:U7) (a C T:AA) (dd:Υ AA),Inv X pins σ H s->ExT s.heap a C T .none dd->H a=ζ->H T=ζ->Ap X pins a->Ap X pins T->th a C dd D σ H->
  AH (model X.prog X.w) X.A (handleBy (.ref a) X.env hs) (SP X pins D) X.xe s
theorem apart{pins:List (AA×Obj)}{σ:L2.St}{H:Hp}{s:AC}{b:AA}(I:Inv X pins σ H s)(hx0:X.ex=[])(h:s.heap.get? b=ζ):X.s₀.heap.get? b=ζ/\b≠X.env.locals/\(∀x z,X.env.cells.lookup x=ξ z->z≠b)/\∀p∈X.pn++pins,p.1≠b:=by
 refine⟨?_,λe=> ?_,λx z hz e=> ?_,λp hp e=> ?_⟩
 ·cases h0:X.s₀.heap.get? b with
  |none=>rfl
  |some o=>
   obtain⟨o',e⟩:=I.base.there b o h0 (λz=>by rw [hx0] at z;cases z)
   rw [h] at e;cases e
 ·obtain⟨m,⟨o,_,_,ho,_⟩,_⟩:=I.loc;rw [<-e,h] at ho;cases ho
 ·obtain⟨v,o,ho,_⟩:=I.cell x z hz;rw [e,h] at ho;cases ho
 ·have:=(I.pin p hp).1;rw [e,h] at this;cases this
theorem b9g{body:List Stmt}{h₀:ExceptHandler}{hs:List ExceptHandler}{pos:Pos}{tb:(L2.St->XK)->TS}{th:AA->AA->Υ AA->TS}(hx0:X.ex=[])(hst:X.stack=X.env::X.outer)(hfr:X.env.frame=ξ X.env.locals)
 (hb:∀(Y:AB->AC->Prop) (pn:List (AA×Obj)) (E:L2.St->XK),W9 (CX1 X.prog X.w) (X.aim Y pn) E->PSs (X.aim Y pn) body (tb E)) (hh:Hnd X (h₀::hs) th):
 PS X (.Try body (h₀::hs) [] [] pos) (λD σ H=>tb (λσ1 v dd H1=>∃C,v= .ref C/\∀a,H1 a=ζ->th a C dd D σ1 H1) D σ H):=by
 intro pins s σ H D I h
 refine wpAny_Try_except ?_
 have key:=hb (λe s₁=>AH (model X.prog X.w) X.A (noteFrame e X.env) (λ_ s₂=>AH (model X.prog X.w) X.A (setFlight e ζ) (λ_ s₃=>AH (model X.prog X.w) X.A (handleBy e X.env (h₀::hs)) (SP X pins D) X.xe s₃) X.xe s₂) X.xe s₁) (X.pn++pins) _ ?_ [] s σ H D (c2g I) h
 ·refine M9 key λfl s1 hq=> ?_
  cases fl with
  |next=>
   obtain⟨σ',H',J,q⟩:=hq
   exact wpAny_execs_nil ⟨σ',H',a4v J,q⟩
  |brk=>obtain⟨σ',H',J,q⟩:=hq;exact⟨σ',H',a4v J,q⟩
  |cont=>obtain⟨σ',H',J,q⟩:=hq;exact⟨σ',H',a4v J,q⟩
  |ret u=>obtain⟨v,σ',H',J,r,q⟩:=hq;exact⟨v,σ',H',a4v J,r,q⟩
 ·intro pins1 σ1 H1 s1 e s' I1 hx
  obtain⟨a,C,T,dd,H2,rfl,ho,hbare,un,hok,ha,hT,hn,hTn,x,C',e1,ht⟩:=hx
  cases e1
  have J1:=I1.call' (ch:=[]) ho un hok hbare λb z=>nomatch z
  have J:Inv X pins σ1 H2 s':=a4v J1
  have J0:Inv X pins σ1 H1 s1:=a4v I1
  show AH (model X.prog X.w) X.A (noteFrame (.ref a) X.env) _ X.xe s'
  have fr:X.A.frames=ξ (X.env::X.outer):=by rw [<-hst];exact J.ok.frames
  have fn:s'.heap.FunFrames X.base (X.env::X.outer):=by rw [<-hst];exact J.stack
  refine b0E fr fn hfr x (by simp [rawInt]) λT' h1 hT' x1 c1=> ?_
  refine a8F x1 ζ λh2 x2 c2 _=> ?_
  have hTn':H2 T'=ζ:=J.hok.fresh hT'
  have c:Chg (frs X.stack) ([T,a]++[T']) s'.heap h2:=by
   rw [hst];exact c1.trans (c2.more (λb hb=>nomatch hb) λb hb=>hb)
  have mem:∀b∈[T,a]++[T'],b=T\/b=a\/b=T':=λb hb=>by simpa using hb
  have q1:=apart J0 hx0 hT
  have q2:=apart J0 hx0 ha
  have q3:=apart J hx0 (Heap.get?_none_of_le hT')
  have K:Inv X pins σ1 H2 {s' with heap:=h2}:=Inv.chg J c (λb hb=> ?_) (λb hb=> ?_) (λb hb=> ?_) (λb hb=> ?_) (λb hb=> ?_)
  ·exact hh pins _ σ1 H2 D a C T' dd K x2 hn hTn' q2 q3 (ht a hn)
  all_goals rcases mem b hb with rfl|rfl|rfl
  ·exact q1.1
  ·exact q2.1
  ·exact q3.1
  ·exact hTn
  ·exact hn
  ·exact hTn'
  ·exact q1.2.1
  ·exact q2.2.1
  ·exact q3.2.1
  ·exact q1.2.2.1
  ·exact q2.2.2.1
  ·exact q3.2.2.1
  ·exact q1.2.2.2
  ·exact q2.2.2.2
  ·exact q3.2.2.2
end
theorem b0k{M:Model}{A:AL}{E:AB->AC->Prop}{h:Heap}{g:Array GenState}{d:Drawn}{t:Nat}{os:OsState}{e C B:AA}{oe:Obj}{Q:Bool->AC->Prop}(hC:b7o C h)(hB:b7o B h)
 (he:h.get? e=ξ oe) (hcls:oe.cls= .ref C) (hq:∀tl:List AB,OwnTail h a6k tl->(∃N nm q bs hdct sn sub ab col dd k0 k1 k2 k3 k5,h.get? C=ξ (excClassObj nm q C N bs tl hdct sn sub ab col dd k0 k1 k2 k3 k5 "ValueError.__new__"))->Q ((Value.ref C::tl).contains (.ref B)) ⟨h,g,d,t,os⟩):AH M A (excMatches (.ref e) (.ref B)) Q E ⟨h,g,d,t,os⟩:=by
 obtain⟨tl,N,nm,q,bs,hdct,sn,sub,ab,col,dd,k0,k1,k2,k3,k5,hC,T⟩:=hC
 obtain⟨tl',N',nm',q',bs',hdct',sn',sub',ab',col',dd',k0',k1',k2',k3',k5',hB,T'⟩:=hB
 have hq':=hq tl T ⟨_,_,_,_,_,_,_,_,_,_,_,_,_,_,_,hC⟩
 have hcB:(Value.ref B::tl').contains (.type "BaseException")=true:=by rw [List.contains_cons,T'.hasType (show a6k.contains (.type "BaseException")=true by decide),Bool.or_true]
 have f:=tc_notTuple
 unfold excMatches
 repeat (first|(with_reducible refine wpAny_loadPart_at he ?_;rw [hcls])|with_reducible refine wpAny_loadPart_at hB ?_|(with_reducible refine wpAny_isSubtype_exc hB ?_;rw [hcB])|with_reducible refine wpAny_isSubtype_exc hC ?_|wp_step)
 cases hb:(Value.ref C::tl).contains (.ref B)<;>(rw [hb] at hq';wp_walk;exact hq')
def a6E(X:Cx)(C B:AA)(b:Bool):Prop:=∀h:Heap,X.K.In h->b7o C h/\b7o B h/\∀(tl:List AB) N nm q bs hdct sn sub ab col dd k0 k1 k2 k3 k5,h.get? C=ξ (excClassObj nm q C N bs tl hdct sn sub ab col dd k0 k1 k2 k3 k5 "ValueError.__new__")->(Value.ref C::tl).contains (.ref B)=b
section
variable {X:Cx}
abbrev _root_.L2.Cx.caught(X:Cx)(a:AA)(Y:AB->AC->Prop):Cx:={X with A:=X.A.mark (ξ (.ref a)),calm:=false,xe:=Y}
theorem a4y{a:AA}{Y:AB->AC->Prop}{pins:List (AA×Obj)}{σ:L2.St}{H:Hp}{s:AC}(I:Inv X pins σ H s):Inv (X.caught a Y) pins σ H s:=⟨⟨I.ok.mod,I.ok.kind,I.ok.glob,I.ok.blt,I.ok.above,I.ok.inj,I.ok.has,I.ok.cab,(λz=>nomatch z),I.ok.frames,I.ok.stk,I.ok.exf,I.ok.bs,I.ok.bsz,I.ok.noex,I.ok.exfs,I.ok.funs,I.ok.frf⟩,I.os,I.bare,I.base,I.loc,I.cell,I.free,I.freeC,I.pin,I.hok,I.len⟩
theorem P6{a:AA}{Y:AB->AC->Prop}{pins:List (AA×Obj)}{σ:L2.St}{H:Hp}{s:AC}(hd:X.calm=true->X.A.handled=ζ)(I:Inv (X.caught a Y) pins σ H s):Inv X pins σ H s:=⟨⟨I.ok.mod,I.ok.kind,I.ok.glob,I.ok.blt,I.ok.above,I.ok.inj,I.ok.has,I.ok.cab,hd,I.ok.frames,I.ok.stk,I.ok.exf,I.ok.bs,I.ok.bsz,I.ok.noex,I.ok.exfs,I.ok.funs,I.ok.frf⟩,I.os,I.bare,I.base,I.loc,I.cell,I.free,I.freeC,I.pin,I.hok,I.len⟩
theorem b8h{x:Str}{B:AA}{np pos:Pos}{b₀:Stmt}{suite:List Stmt}{rest:List ExceptHandler}{ts:TS}(hg:Gl X x)(hm:X.mg x=ξ (.ref B))(hdb:Δ x)(hs:∀a Y,PSs (X.caught a Y) (b₀::suite) ts):
 Hnd X (.ExceptHandler (ξ (.Name x np)) ζ (b₀::suite) pos::rest) (λ_ C _ D σ H=>a6E X C B true/\ts D σ H):=by
 intro pins s σ H D a C T dd0 I ex hn hTn apA apT ⟨hbl,q⟩
 have J:Inv (X.caught a (notedBy (model X.prog X.w) (X.A.mark (ξ (.ref a))) X.env (cameBackBy (model X.prog X.w) X.A X.env X.xe))) pins σ H s:=a4y I
 refine wpAny_handleBy_cons (codeAny_handlers_test (a0p (X:=X.caught a _) J hg hm ?_ hdb)) (by intro q;cases q)
 obtain⟨hC,hB,hin⟩:=hbl s.heap I.kIn
 obtain⟨oe,vs,he,hcls,_⟩:=ex.obj
 obtain⟨hh,g,d,tk,os⟩:=s
 refine b0k hC hB he hcls λtl T0 ⟨N,nm,q0,bs,hdct,sn,sub,ab,col,dd,k0,k1,k2,k3,k5,hc⟩=> ?_
 rw [hin tl N nm q0 bs hdct sn sub ab col dd k0 k1 k2 k3 k5 hc]
 refine codeAny_handlers_suite ?_
 refine a8F (s:=⟨hh,g,d,tk,os⟩) ex ζ λh2 x2 c2 hsz=> ?_
 have one:∀b∈[T],b=T:=λb hb=>List.mem_singleton.mp hb
 have K:Inv X pins σ H ⟨h2,g,d,tk,os⟩:=Inv.chg I (c2.more (λb hb=>nomatch hb) λb hb=>hb) (λb hb=>by rw [one b hb];exact apT.1) (λb hb=>by rw [one b hb];exact hTn) (λb hb=>by rw [one b hb];exact apT.2.1) (λb hb=>by rw [one b hb];exact apT.2.2.1) (λb hb=>by rw [one b hb];exact apT.2.2.2)
 refine M9 (hs a _ pins _ σ H D (a4y K) q) λfl s1 hq=> ?_
 show SP X pins D fl s1
 cases fl with
 |next=>obtain⟨σ',H',J,q⟩:=hq;exact⟨σ',H',P6 I.ok.hd J,q⟩
 |brk=>obtain⟨σ',H',J,q⟩:=hq;exact⟨σ',H',P6 I.ok.hd J,q⟩
 |cont=>obtain⟨σ',H',J,q⟩:=hq;exact⟨σ',H',P6 I.ok.hd J,q⟩
 |ret u=>obtain⟨v,σ',H',J,r,q⟩:=hq;exact⟨v,σ',H',P6 I.ok.hd J,r,q⟩
end
theorem b50{K:AE}{h:Heap}{C:AA}(X:K.In h)(q:PySem.W.excIn K C a6k "ValueError.__new__"=true):c2e C h:=by
 unfold PySem.W.excIn at q;cases hk:K.lookup C with
 |none=>rw [hk] at q;cases q
 |some o=>
  rw [hk] at q;split at q
  ·rename_i dd cd sl e;cases e;obtain⟨nm,bs,mro,ns,qn,hd,sn,sub,ab,col,del⟩:=cd;obtain⟨l⟩:=sl;split at q
   ·rename_i C' bm k0 k1 k2 k3 n k5 hm hs;have hm:mro= .ref C'::bm:=hm;have hs:l=[k0,k1,k2,k3,ξ (.builtin n),k5]:=hs;subst hm hs;rw [χ,χ,χ,χ,χ] at q;obtain⟨⟨⟨⟨⟨c1,c2⟩,c3⟩,c4⟩,c5⟩,c6⟩:=q;have c3':del=false:=by simpa using c3
    cases(beq_iff_eq.mp c1);cases(beq_iff_eq.mp c2);clear c3;subst c3';exact⟨bm,ns,nm,qn,bs,hd,sn,sub,ab,col,dd,k0,k1,k2,k3,k5,_,X _ _ hk,.of_isNs (PySem.W.isNs_of_in X c5),PySem.W.nsMap_none_of_in X c5 (beq_iff_eq.mp c6),PySem.W.tail_of_in X c4⟩
   ·cases q
  ·cases q
def a6e(K:AE)(C B:AA):Bool:=match K.lookup C with
 |some ⟨_,_,.cls cd,_⟩=>cd.mro.contains (.ref B)
 |_=>false
def b7V(K:AE)(C:AA)(g:AA->Bool):Bool:=match K.lookup C with
 |some ⟨.type "type",_,.cls cd,sl⟩=>(match cd.mro,sl.toList with
  | .ref C'::bm,[_,_,_,_,ξ (.builtin n),_]=>C'==C && n=="ValueError.__new__" && !cd.hasDel && PySem.W.tailIn K a6k bm && g cd.ns
  |_,_=>false)
 |_=>false
def a5t(K:AE)(C:AA):Bool:=b7V K C λ_=>true
theorem b5c{K:AE}{h:Heap}{C:AA}{g:AA->Bool}(X:K.In h)(q:b7V K C g=true):∃tl N nm q bs hdct sn sub ab col dd k0 k1 k2 k3 k5,
 h.get? C=ξ (excClassObj nm q C N bs tl hdct sn sub ab col dd k0 k1 k2 k3 k5 "ValueError.__new__")/\OwnTail h a6k tl/\g N=true:=by
 unfold b7V at q
 cases hk:K.lookup C with
 |none=>rw [hk] at q;cases q
 |some o=>
  rw [hk] at q
  split at q
  ·rename_i dd cd sl e
   cases e
   obtain⟨nm,bs,mro,ns,qn,hd,sn,sub,ab,col,del⟩:=cd
   obtain⟨l⟩:=sl
   split at q
   ·rename_i C' bm k0 k1 k2 k3 n k5 hm hs
    subst hm hs
    rw [χ,χ,χ,χ] at q
    obtain⟨⟨⟨⟨c1,c2⟩,c3⟩,c4⟩,c5⟩:=q
    have c3':del=false:=by simpa using c3
    cases(beq_iff_eq.mp c1)
    cases(beq_iff_eq.mp c2)
    clear c3
    subst c3'
    exact⟨bm,ns,nm,qn,bs,hd,sn,sub,ab,col,dd,k0,k1,k2,k3,k5,X _ _ hk,PySem.W.tail_of_in X c4,c5⟩
   ·cases q
  ·cases q
theorem b1Z{K:AE}{h:Heap}{C:AA}(X:K.In h)(q:a5t K C=true):b7o C h:=by
 obtain⟨tl,N,nm,q,bs,hdct,sn,sub,ab,col,dd,k0,k1,k2,k3,k5,h1,h2,_⟩:=b5c X q;exact⟨tl,N,nm,q,bs,hdct,sn,sub,ab,col,dd,k0,k1,k2,k3,k5,h1,h2⟩
theorem b7C{X:Cx}{C B:AA}(q1:a5t X.K C=true)(q2:a5t X.K B=true):a6E X C B (a6e X.K C B):=λh I=>⟨b1Z I q1,b1Z I q2,λtl N nm q bs hdct sn sub ab col dd k0 k1 k2 k3 k5 hc=>by
 cases hk:X.K.lookup C with
 |none=>unfold a5t b7V at q1;rw [hk] at q1;cases q1
 |some o=>
  have:=I _ _ hk;rw [hc] at this;cases this;unfold a6e;rw [hk]⟩
def b8E(b:MX)(inm:Str->Bool)(hd:MS):MS:=λρ=>(b ρ).bind λfx=>match fx with
 | .fl f=>ξ f
 | .rz c ρ'=>if inm c.cls=true then hd ρ' else ζ
section
variable {X:Cx}
theorem c2y{body:List Stmt}{x:Str}{B:AA}{np hpos pos:Pos}{b₀:Stmt}{suite:List Stmt}{b:MX}{inm:Str->Bool}{hd:MS}(hx0:X.ex=[])(hst:X.stack=X.env::X.outer)(hfr:X.env.frame=ξ X.env.locals)
 (hg:Gl X x) (hm:X.mg x=ξ (.ref B)) (hdb:Δ x) (hin:∀c,inm c=true->∃C,X.mg c=ξ (.ref C)/\a6E X C B true)
 (hb:∀(Y:AB->AC->Prop) (pn:List (AA×Obj)) (E:L2.St->XK),W9 (CX1 X.prog X.w) (X.aim Y pn) E->EXs (X.aim Y pn) E body b) (hs:∀a Y,ESs (X.caught a Y) (b₀::suite) hd):
 ES X (.Try body [.ExceptHandler (ξ (.Name x np)) ζ (b₀::suite) hpos] [] [] pos) (b8E b inm hd):=
 G6 (b9g hx0 hst hfr (tb:=λE=>tMX X.K X.mg E b) hb (b8h (ts:=tMS X.K hd) hg hm hdb λa Y=>hs a Y)) λD σ H h0=>Q6 h0 λF0 H0 F ρ fl so e fin=>by
  obtain⟨fx,e1,e⟩:=bind_some e;cases fx with
  |fl f=>cases e;exact⟨F0,H0,F,ρ,.fl _,so,e1,fin⟩
  |rz c ρ1=>
   have e:(if inm c.cls=true then hd ρ1 else ζ)=ξ fl:=e
   split at e
   ·rename_i hc;obtain⟨C,h1,h2⟩:=hin c.cls hc;exact⟨F0,H0,F,ρ,.rz c ρ1,so,e1,C,h1,λσ1 dd F' H' s' so' hn=>⟨C,rfl,λa ha=>⟨h2,F0,H0,F',ρ1,fl,so',e,fin.later s'⟩⟩⟩
   ·cases e
end
section
variable {X:Cx}{pins:List (AA×Obj)}{σ:L2.St}{H:Hp}{s:AC}
theorem _root_.L2.Inv.track{a:AA}{o:HO}(I:Inv X pins σ H s)(hn:H a=ζ)(ap:Ap X pins a)(new:F9 X.prog X.w (A5 H a o) s.heap a o):Inv X pins σ (A5 H a o) s where
 ok:=I.ok
 os:=I.os
 bare:=I.bare
 base:=⟨I.base.keep,I.base.slot,λb ob e n hx=>by
  rw [l6 (λz=>by rw [z,ap.1] at e;cases e)];exact I.base.free b ob e n hx,I.base.there,
  λb xs e=>by rw [l6 (n4 (I.base.tups b xs e) hn)];exact I.base.tups b xs e,
  λb ob u e=>by rw [l6 (n4 (I.base.frzs b ob u e) hn)];exact I.base.frzs b ob u e,
  λb ps e=>by obtain⟨more,q⟩:=I.base.tbls b ps e;exact⟨more,by rw [l6 (n4 q hn)];exact q⟩⟩
 loc:=I.loc
 cell:=I.cell
 free:=by rw [l6 (Ne.symm ap.2.1)];exact I.free
 freeC:=λx c e=>by rw [l6 (ap.2.2.1 x c e)];exact I.freeC x c e
 pin:=λp hp=>by
  obtain⟨h1,h2,h3⟩:=I.pin p hp;exact⟨h1,by rw [l6 (ap.2.2.2 p hp)];exact h2,h3⟩
 hok:=λb u e=>by
  by_cases hb:b=a
  ·subst hb;rw [p9] at e;cases e;exact new
  ·rw [l6 hb] at e;exact(I.hok b u e).stay (λc v _ q=>q) (λc q=>by rw [l6 (n4 q hn)];exact q) λc xs q=>by rw [l6 (n4 q hn)];exact q
 len:=I.len
theorem a72{M:Model}{A:AL}{E:AB->AC->Prop}{i:Nat}{x:Str}{pos:Pos}{Q:Unit->AC->Prop}(I:Inv X pins σ H s)(hN:X.N.Nodup)(hi:X.N[i]?=ξ x)(hk:X.env.scope.names.lookup x=ξ .local)
 (h:∀s',Inv X pins (σ.set i ζ) H s'->Q () s'):AH M A (do bindName X.env x .none;unbindBehindTheSuite X.env x pos) Q E s:=by
 obtain⟨m,hn,hl⟩:=id I.loc
 have hcls:(X.env.scope.kind== .class||(X.env.scope.kind== .module && X.env.locals !=X.env.globals))=false:=by rw [I.ok.kind];rfl
 have hiσ:i<σ.length:=by rw [I.len];exact(Au.mp hi).1
 have cne:=I.cne
 refine wpAny_nameGoes_keeps hk hn hcls λh' v hn' hs=> ?_
 refine h _ ⟨I.ok,I.os,I.bare,⟨λb o e n hb hx=> ?_,λb o e n hb hx=> ?_,I.base.free,λb o e hx=> ?_,I.base.tups,I.base.frzs,I.base.tbls⟩,⟨_,hn',λj y v' e1 e2 e3=> ?_⟩,λy c e=> ?_,I.free,I.freeC,λp hp=> ?_,λb ob e=> ?_,by simpa using I.len⟩
 ·exact(hs.2 b (Ak (As (AW e) I.ok.above))).trans (I.base.keep b o e n hb hx)
 ·obtain⟨sl,e1⟩:=I.base.slot b o e n hb hx
  exact⟨sl,(hs.2 b (Ak (As (AW e) I.ok.above))).trans e1⟩
 ·obtain⟨o',e1⟩:=I.base.there b o e hx
  exact⟨o',(hs.2 b (Ak (As (AW e) I.ok.above))).trans e1⟩
 ·by_cases hj:j=i
  ·subst hj
   rw [BJ hiσ] at e2
   cases e2
  ·rw [List.getElem?_set_ne (Ne.symm hj)] at e2
   obtain⟨u',r',q⟩:=hl j y v' e1 e2 e3
   refine⟨u',r', ?_⟩
   rcases q with⟨k,e⟩|⟨k,c,e,z⟩
   ·refine .inl ⟨k, ?_⟩
    have:y≠x:=λe=>hj (a82 hN e1 (e▸hi))
    simp [this,e]
   ·exact .inr ⟨k,c,e,z.sameBut hs (cne y c e)⟩
 ·obtain⟨w',z⟩:=I.cell y c e
  exact⟨w',z.sameBut hs (cne y c e)⟩
 ·obtain⟨e,n,ne,nf,d⟩:=I.pin p hp
  exact⟨(hs.2 p.1 ne).trans e,n,ne,nf,d⟩
 ·refine(I.hok b ob e).stay (λc w' hc q=>(hs.2 c ?_).trans q) (λ_ q=>q) λ_ _ q=>q
  rintro rfl
  have hfree:=I.free
  rcases hc with rfl|hc
  ·rw [hfree] at e;cases e
  ·rw [hfree] at hc;cases hc
end
def XO(a C:AA)(dd:Υ AA)(h:Heap):Prop:=∃oe vs,h.get? a=ξ oe/\oe.cls= .ref C/\oe.data= .fields vs/\oe.dict=dd
def U7.drop(D:U7)(i:Nat):U7:=⟨λσ H=>D.nx (σ.set i ζ) H,D.rt,λσ H=>D.bk (σ.set i ζ) H,λσ H=>D.ct (σ.set i ζ) H⟩
section
variable {X:Cx}
theorem c2P{i:Nat}{x y:Str}{B:AA}{np pos:Pos}{b₀:Stmt}{suite:List Stmt}{rest:List ExceptHandler}{ts:TS}(hN:X.N.Nodup)(hi:X.N[i]?=ξ y)(hy:X.env.scope.names.lookup y=ξ .local)
 (hg:Gl X x) (hm:X.mg x=ξ (.ref B)) (hdb:Δ x) (hs:∀a Y,PSs (X.caught a Y) (b₀::suite) ts):
 Hnd X (.ExceptHandler (ξ (.Name x np)) (ξ y) (b₀::suite) pos::rest) (λa C dd D σ H=>a6E X C B true/\ts (U7.drop D i) (σ.set i (ξ (.ref a))) (A5 H a (.ext (XO a C dd)))):=by
 intro pins s σ H D a C T dd0 I ex hn hTn apA apT ⟨hbl,q⟩
 have J:Inv (X.caught a (notedBy (model X.prog X.w) (X.A.mark (ξ (.ref a))) X.env (cameBackBy (model X.prog X.w) X.A X.env X.xe))) pins σ H s:=a4y I
 refine wpAny_handleBy_cons (codeAny_handlers_test (a0p (X:=X.caught a _) J hg hm ?_ hdb)) (by intro q;cases q)
 obtain⟨hC,hB,hin⟩:=hbl s.heap I.kIn
 obtain⟨oe,vs,he,hcls,_⟩:=ex.obj
 obtain⟨hh,g,d,tk,os⟩:=s
 refine b0k hC hB he hcls λtl T0 ⟨N,nm,q0,bs,hdct,sn,sub,ab,col,dd,k0,k1,k2,k3,k5,hc⟩=> ?_
 rw [hin tl N nm q0 bs hdct sn sub ab col dd k0 k1 k2 k3 k5 hc]
 refine codeAny_handlers_suite_as ?_
 refine a8F (s:=⟨hh,g,d,tk,os⟩) ex ζ λh2 x2 c2 hsz=> ?_
 have one:∀b∈[T],b=T:=λb hb=>List.mem_singleton.mp hb
 have K:Inv X pins σ H ⟨h2,g,d,tk,os⟩:=Inv.chg I (c2.more (λb hb=>nomatch hb) λb hb=>hb) (λb hb=>by rw [one b hb];exact apT.1) (λb hb=>by rw [one b hb];exact hTn) (λb hb=>by rw [one b hb];exact apT.2.1) (λb hb=>by rw [one b hb];exact apT.2.2.1) (λb hb=>by rw [one b hb];exact apT.2.2.2)
 obtain⟨oe',vs',he',hcls',hd',_,hdn⟩:=x2.obj
 have K1:Inv X pins σ (A5 H a (.ext (XO a C dd0))) ⟨h2,g,d,tk,os⟩:=K.track hn apA ⟨⟨oe',vs',he',hcls',hd',hdn⟩,⟨oe',he'⟩,λh1 h2 ⟨o1,v1,e1,e2,e3⟩ st=>⟨o1,v1,st _ e1,e2,e3⟩⟩
 refine a6D (v:= .ref a) K1 hN hi (.inl hy) rfl (λs' I'=> ?_) (.inr hy)
 refine M9 (hs a _ pins _ _ _ (U7.drop D i) (a4y I') q) λfl s1 hq=> ?_
 cases fl with
 |next=>obtain⟨σ',H',J,q⟩:=hq;exact a72 (P6 I.ok.hd J) hN hi hy λs2 J2=>⟨_,H',J2,q⟩
 |brk=>obtain⟨σ',H',J,q⟩:=hq;exact a72 (P6 I.ok.hd J) hN hi hy λs2 J2=>⟨_,H',J2,q⟩
 |cont=>obtain⟨σ',H',J,q⟩:=hq;exact a72 (P6 I.ok.hd J) hN hi hy λs2 J2=>⟨_,H',J2,q⟩
 |ret u=>obtain⟨v,σ',H',J,r,q⟩:=hq;exact a72 (P6 I.ok.hd J) hN hi hy λs2 J2=>⟨v,_,H',J2,r,q⟩
end
def xcV(c:XT):PV:=match c.fs with
 |[]=> .dict [(.str c.cls,.bool true)]
 |f::r=> .dict ((.str c.cls,.int 0)::f::r)
theorem c1F{K:AE}{F:Hp}{c:XT}{dd:Υ AA}{a C:AA}(ha:F a=ζ)(xf:XF K F c.fs dd)(h3:M4 K c.cls C):P5 K (A5 F a (.ext (XO a C dd))) (xcV c) (.ref a):=by
 obtain⟨cl,fs⟩:=c;rcases xf with⟨e1,e2⟩|⟨d,vs,e1,q,n,r⟩
 ·have e1:fs=[]:=e1;subst e1;subst e2;exact Or.inr (Or.inr (Or.inl ⟨cl,_,rfl,.inr ⟨rfl,a,C,XO a C ζ,rfl,p9,λh q=>q,h3⟩⟩))
 ·cases fs with
  |nil=>exact absurd rfl n
  |cons f r0=>
   subst e1;have s:u3 F (A5 F a (.ext (XO a C (ξ d)))):=a0M ha;refine Or.inr (Or.inr (Or.inr ⟨cl,.int 0,vs,.inr ⟨rfl,a,C,d,XO a C (ξ d),rfl,p9,λh q=>q,s _ _ q,h3⟩,cl,.int 0,vs,rfl,rfl,rfl, ?_⟩));exact a3k.mono s _ r
def b1e(i:Nat):Fl->Fl
 | .nx ρ=> .nx (ρ.set i ζ)
 | .rt r=> .rt r
 | .bk ρ=> .bk (ρ.set i ζ)
 | .ct ρ=> .ct (ρ.set i ζ)
def a64(b:MX)(i:Nat)(inm:Str->Bool)(hd:MS):MS:=λρ=>(b ρ).bind λfx=>match fx with
 | .fl f=>ξ f
 | .rz c ρ'=>if inm c.cls=true then(hd (ρ'.set i (ξ (.v (xcV c))))).map (b1e i) else ζ
theorem J9{α:Type}{l:List (Υ α)}{i j:Nat}{r:α}(h:(l.set i ζ)[j]?=ξ (ξ r)):i≠j/\l[j]?=ξ (ξ r):=by
 rw [List.getElem?_set] at h
 by_cases hij:i=j
 ·rw [if_pos hij] at h;split at h
  ·cases h
  ·cases h
 ·rw [if_neg hij] at h;exact⟨hij,h⟩
theorem SOk.drop{K:AE}{F0 H0 F H:Hp}{σ:L2.St}{ρ:b9}(s:SOk K F0 H0 F H σ ρ)(i:Nat):SOk K F0 H0 F H (σ.set i ζ) (ρ.set i ζ):=by
 refine⟨s.x,⟨s.e.fh,by simp [s.e.len],λj q e=> ?_,λj ps e=> ?_,λj k ps qs a hjk e1 e2 e3 e4=> ?_⟩,λj ps a e1 e2=> ?_⟩
 ·obtain⟨n,e⟩:=J9 e;rw [List.getElem?_set_ne n];exact s.e.at_ j q e
 ·exact s.e.nb j ps (J9 e).2
 ·exact s.e.ap j k ps qs a hjk (J9 e1).2 (J9 e2).2 (J9 e3).2 (J9 e4).2
 ·exact s.nw j ps a (J9 e1).2 (J9 e2).2
theorem Fin.drop{K:AE}{F0 H0 F:Hp}{D:U7}{i:Nat}:∀{fl:Fl},Fin K F0 H0 F D (b1e i fl)->Fin K F0 H0 F (U7.drop D i) fl
 | .nx _,h=>λσ' F' H' s' so=>h _ F' H' s' (so.drop i)
 | .rt _,h=>h
 | .bk _,h=>λσ' F' H' s' so=>h _ F' H' s' (so.drop i)
 | .ct _,h=>λσ' F' H' s' so=>h _ F' H' s' (so.drop i)
section
variable {X:Cx}
theorem b7U{i:Nat}{body:List Stmt}{x y:Str}{B:AA}{np hpos pos:Pos}{b₀:Stmt}{suite:List Stmt}{b:MX}{inm:Str->Bool}{hd:MS}(hN:X.N.Nodup)(hi:X.N[i]?=ξ y)(hy:X.env.scope.names.lookup y=ξ .local)(hx0:X.ex=[])(hst:X.stack=X.env::X.outer)(hfr:X.env.frame=ξ X.env.locals)
 (hg:Gl X x) (hm:X.mg x=ξ (.ref B)) (hdb:Δ x) (hin:∀c,inm c=true->∃C,X.mg c=ξ (.ref C)/\a6E X C B true/\M4 X.K c C)
 (hb:∀(Y:AB->AC->Prop) (pn:List (AA×Obj)) (E:L2.St->XK),W9 (CX1 X.prog X.w) (X.aim Y pn) E->EXs (X.aim Y pn) E body b) (hs:∀a Y,ESs (X.caught a Y) (b₀::suite) hd):
 ES X (.Try body [.ExceptHandler (ξ (.Name x np)) (ξ y) (b₀::suite) hpos] [] [] pos) (a64 b i inm hd):=
 G6 (b9g hx0 hst hfr (tb:=λE=>tMX X.K X.mg E b) hb (c2P (i:=i) (ts:=tMS X.K hd) hN hi hy hg hm hdb λa Y=>hs a Y)) λD σ H h0=>Q6 h0 λF0 H0 F ρ fl so e fin=>by
  obtain⟨fx,e1,e⟩:=bind_some e;cases fx with
  |fl f=>cases e;exact⟨F0,H0,F,ρ,.fl _,so,e1,fin⟩
  |rz c ρ1=>
   have e:(if inm c.cls=true then(hd (ρ1.set i (ξ (.v (xcV c))))).map (b1e i) else ζ)=ξ fl:=e
   split at e
   ·rename_i hc;obtain⟨C,h1,h2,h3⟩:=hin c.cls hc;cases hh:hd (ρ1.set i (ξ (.v (xcV c)))) with
    |none=>rw [hh] at e;cases e
    |some f=>
     rw [hh] at e;cases e;refine⟨F0,H0,F,ρ,.rz c ρ1,so,e1,C,h1,λσ1 dd F' H' s' so' xf=>⟨C,rfl,λa hn=>⟨h2,F0,H0,A5 F' a (.ext (XO a C dd)),_,f, ?_,hh, ?_⟩⟩⟩
     ·exact so'.set (r:= .v (xcV c)) (B5.val (p:=xcV c) (Ext.lay so'.e.fh hn) (c1F (so'.e.fh.free hn) xf h3)) rfl i
     ·exact Fin.drop ((fin.later s').later (a0M (so'.e.fh.free hn)))
   ·cases e
theorem c0b{E:L2.St->XK}{k k' i:Nat}{ps:List Str}{g:List PV->Υ (g0 ⊕ XT)}{x y:Str}{p pos pos' pos2:Pos}{e:AF}{es:List AF}{m:MA}(hN:X.N.Nodup)
 (d:a6G X.prog X.w X.K X.mg X.base x ps k g) (hr:G3 k' X.A) (hk:k<=k') (hg:Gl X x) (hx:W9 (CX1 X.prog X.w) X E) (hn:∀ρ qs,m ρ=ξ qs->qs.length=ps.length) (ha:EA X (e::es) m)
 (hi:X.N[i]?=ξ y:=by rfl) (hy:Loc X.env.scope y:=by exact Or.inl rfl) (hs:swapsWith (.Call (.Name x p) (e::es) [] pos) (ξ (.Name y pos')) pos2.line X.env=pure false:=by rfl) (hf:X.fn y=true\/X.env.scope.names.lookup y=ξ .local:=by first|exact .inl rfl|exact .inr rfl|assumption)
 (hdb:Δ x:=by decide) (he:Ψ e es X.env:=by rfl) (hpl:Φ₁ pos es X.env:=by rfl):
 EX X E (.Assign [.Name y pos'] (.Call (.Name x p) (e::es) [] pos) pos2) (b0B i g m):=by
 obtain⟨f,fd,G,h1,h2,h3⟩:=d
 exact c2A hN G (hr.mono hk) hg h1 h2 h3 hx hn ha hi hy hs hf hdb he hpl
theorem b5b{E:L2.St->XK}{k k':Nat}{ps:List Str}{g:List PV->Υ (g0 ⊕ XT)}{x:Str}{p pos pos2:Pos}{e:AF}{es:List AF}{m:MA}
 (d:a6G X.prog X.w X.K X.mg X.base x ps k g) (hr:G3 k' X.A) (hk:k<=k') (hg:Gl X x) (hx:W9 (CX1 X.prog X.w) X E) (hn:∀ρ qs,m ρ=ξ qs->qs.length=ps.length) (ha:EA X (e::es) m)
 (hs:swapsWith (.Call (.Name x p) (e::es) [] pos) ζ pos2.line X.env=pure false:=by rfl)
 (hdb:Δ x:=by decide) (he:Ψ e es X.env:=by rfl) (hpl:Φ₁ pos es X.env:=by rfl):
 EX X E (.Expr (.Call (.Name x p) (e::es) [] pos) pos2) (a48 g m):=by
 obtain⟨f,fd,G,h1,h2,h3⟩:=d
 exact c2B G (hr.mono hk) hg h1 h2 h3 hx hn ha hs hdb he hpl
end
def V3(K:AE)(C:AA)(x:Str):Bool:=match K.lookup C with
 |some ⟨_,_,.cls cd,_⟩=>cd.name==x
 |_=>false
structure XC(K:AE)(mg:Str->Υ AB)(c:Str)(C:AA):Prop where
 mg:mg c=ξ (.ref C)
 named:M4 K c C
 exc:a5t K C=true
theorem a9D{K:AE}{mg:Str->Υ AB}{h:Heap}{c:Str}{C:AA}(X:K.In h)(G:h.Ns mainGlobals mg)(e:PySem.W.nsIn K mainGlobals c=ξ (ξ (.ref C)))(q:(V3 K C c && a5t K C)=true):XC K mg c C:=by
 rw [χ] at q;obtain⟨q1,q3⟩:=q;refine⟨PySem.W.mg_of X G e,⟨e, ?_⟩,q3⟩;unfold V3 at q1;split at q1
 ·rename_i oc od cd sl hk;exact⟨oc,od,cd,sl,hk,beq_iff_eq.mp q1⟩
 ·cases q1
theorem b7s{K:AE}{x D:AA}{c:AB}(e:PySem.W.kitOne K (.ref D) c=ξ true):Answers (λs=>K.In s.heap/\∃o,s.heap.get? x=ξ o/\o.cls= .ref D) (.ref x) c true:=λdep tk prog w A R s hs=>by
 obtain⟨hh,gg,dr,tt,oo⟩:=s;obtain⟨⟨kin,o,h1,h2⟩,fin⟩:=hs;have LT:PySem.W.Looks (model prog w) hh (typeOf (.ref x)) (.ref D):=h2▸(PySem.W.Looks.ld h1).andThen .now;unfold Builtin.«isinstance.nested»;refine AG ?_;refine LT.at ?_;cases q:(Value.ref D==c) with
 |true=>
  rw [if_pos rfl];exact AG (wpAny_rule (AR (fin tt)))
 |false=>
  ext be
  have z3:PySem.W.Looks (model prog w) hh (isInstance (.ref x) c) true:=LT.andThen z.2.2;refine AG ?_;refine z.1.at ?_;rw [if_pos (by decide)]
  k_delta "plainIsInstance"
  ext a3
  exact AR (AR (fin tt))
theorem b8n{K:AE}{prog:AK}{w:AJ}{A:AL}{E:AB->AC->Prop}{s:AC}{Q:AB->AC->Prop}{x D:AA}{c:AB}{o:Obj}(kin:K.In s.heap)(h1:s.heap.get? x=ξ o)(h2:o.cls= .ref D)(e:PySem.W.kitOne K (.ref D) c=ξ true)(fin:∀tk,Q (.bool true) {s with toks:=tk}):
 AH (model prog w) A (call (.builtin "isinstance") [.ref x,c]) Q E s:=by
 refine call_isinstance (S:=λ_ R s=>(K.In s.heap/\∃o,s.heap.get? x=ξ o/\o.cls= .ref D)/\∀tk,R (.ok (.ret (.bool true))) {s with toks:=tk}) (λprog w A R s hs=> ?_) ⟨⟨kin,o,h1,h2⟩,fin⟩
 refine isinstance_outer ?_ (λz=>nomatch z)
 exact b7s e 0 _ prog w A R s hs
def c3U:PV->Υ Str
 | .dict [(.str c,.bool true)]=>ξ c
 | .dict ((.str c,.int 0)::_)=>ξ c
 |_=>ζ
def b3O(K:AE)(H:Hp)(x:Str)(v:V):Prop:=c2f K H x v\/∃fs,b16 K H x (.int 0) fs v
theorem b3O.mono{K:AE}{H H':Hp}{x:Str}{v:V}(s:u3 H H')(h:b3O K H x v):b3O K H' x v:=by
 rcases h with⟨a,C,φ,e,q,r⟩|⟨fs,h⟩
 ·exact .inl ⟨a,C,φ,e,s _ _ q,r⟩
 ·exact .inr ⟨fs,h.mono s⟩
theorem b5Z{K:AE}{F:Hp}{p:PV}{v:V}{c:Str}(rr:P5 K F p v)(h:c3U p=ξ c):b3O K F c v:=by
 unfold c3U at h;split at h
 ·cases h;rcases rr with⟨_,_,_,_,kk,w,t,_,z,_⟩|⟨_,_,_,_,kk,w,t,_,z,_⟩|⟨y,t,e,hy⟩|⟨_,_,_,ho,hf⟩
  ·cases z
  ·cases z
  ·cases e;rcases hy with⟨z,_⟩|⟨_,h1⟩
   ·cases z
   ·exact .inl h1
  ·rcases(c0S ho hf).2.1 with e|e<;>cases e
 ·cases h;rcases rr with⟨_,_,_,_,kk,w,t,_,z,_⟩|⟨_,_,_,_,kk,w,t,_,z,_⟩|⟨y,t,e,hy⟩|⟨y,m,fs,ho,hf⟩
  ·cases z
  ·cases z
  ·cases e;rcases hy with⟨z,_⟩|⟨z,_⟩<;>cases z
  ·obtain⟨g,w,t,e,z,q,_⟩:=hf;cases z;cases e;cases q;exact .inr ⟨_,ho⟩
 ·cases h
theorem b51{X:Cx}{pins:List (AA×Obj)}{σ:L2.St}{H:Hp}{s:AC}(I:Inv X pins σ H s){x:Str}{v:V}(h:b3O X.K H x v):∃(a C:AA) (o:Obj) (od:Υ Obj),v= .ref a/\M4 X.K x C/\PySem.W.InstAt s.heap a o C od:=by
 rcases h with h|⟨fs,⟨z,_⟩|⟨_,a,C,dx,φ,e,q,r,d,n⟩⟩
 ·obtain⟨a,C,o,vs,e,h1,h2,h3,n,h4⟩:=c1G I h;exact⟨a,C,o,ζ,e,n,h1,h2,by unfold PySem.W.notCls;rw [h3],by rw [h4];trivial⟩
 ·cases z
 ·obtain⟨oe,vs,h1,h2,h3,h4⟩:=r _ (I.hok a _ q).1;obtain⟨mA,⟨od,es,ep,ho,_⟩,_⟩:=I.hok dx _ d;exact⟨a,C,oe,ξ od,e,n,h1,h2,by unfold PySem.W.notCls;rw [h3],by rw [h4];exact ho⟩
def b2C(tab:List (Str×Bool))(x:g0):Υ g0:=(c3U x.rd).bind λc=>(tab.lookup c).map λb=> .v (.bool b)
section
variable {X:Cx}
end
def inL(l:List Str)(c:Str):Bool:=l.contains c
section
variable {X:Cx}
def Hin(X:Cx)(B:AA)(l:List Str):Prop:=∀c,inL l c=true->∃C,X.mg c=ξ (.ref C)/\a6E X C B true/\M4 X.K c C
theorem b5m{B:AA}:Hin X B []:=λ_ h=>nomatch h
theorem a8J{B C:AA}{b c:Str}{l:List Str}(xB:XC X.K X.mg b B)(x:XC X.K X.mg c C)(e:a6e X.K C B=true)(h:Hin X B l):Hin X B (c::l):=λc1 q=>by
 unfold inL at q;rw [List.contains_cons,Bool.or_eq_true] at q;rcases q with q|q
 ·rw [beq_iff_eq.mp q];exact⟨C,x.mg,by rw [<-e];exact b7C x.exc xB.exc,x.named⟩
 ·exact h c1 q
theorem c0a{l:List Str}{body:List Stmt}{x:Str}{B:AA}{np hpos pos:Pos}{b₀:Stmt}{suite:List Stmt}{b:MX}{hd:MS}(xB:XC X.K X.mg x B)(hin:Hin X B l)
 (hb:∀(Y:AB->AC->Prop) (pn:List (AA×Obj)) (E:L2.St->XK),W9 (CX1 X.prog X.w) (X.aim Y pn) E->EXs (X.aim Y pn) E body b) (hs:∀a Y,ESs (X.caught a Y) (b₀::suite) hd)
 (hx0:X.ex=[]:=by rfl) (hst:X.stack=X.env::X.outer:=by rfl) (hfr:X.env.frame=ξ X.env.locals:=by rfl) (hg:Gl X x:=by rfl) (hdb:Δ x:=by decide):
 ES X (.Try body [.ExceptHandler (ξ (.Name x np)) ζ (b₀::suite) hpos] [] [] pos) (b8E b (inL l) hd):=
 c2y hx0 hst hfr hg xB.mg hdb (λc q=>let ⟨C,h1,h2,_⟩:=hin c q;⟨C,h1,h2⟩) hb hs
theorem b6f{i:Nat}{l:List Str}{body:List Stmt}{x y:Str}{B:AA}{np hpos pos:Pos}{b₀:Stmt}{suite:List Stmt}{b:MX}{hd:MS}(hN:X.N.Nodup)(xB:XC X.K X.mg x B)(hin:Hin X B l)
 (hb:∀(Y:AB->AC->Prop) (pn:List (AA×Obj)) (E:L2.St->XK),W9 (CX1 X.prog X.w) (X.aim Y pn) E->EXs (X.aim Y pn) E body b) (hs:∀a Y,ESs (X.caught a Y) (b₀::suite) hd)
 (hi:X.N[i]?=ξ y:=by rfl) (hy:X.env.scope.names.lookup y=ξ .local:=by rfl) (hx0:X.ex=[]:=by rfl) (hst:X.stack=X.env::X.outer:=by rfl) (hfr:X.env.frame=ξ X.env.locals:=by rfl) (hg:Gl X x:=by rfl) (hdb:Δ x:=by decide):
 ES X (.Try body [.ExceptHandler (ξ (.Name x np)) (ξ y) (b₀::suite) hpos] [] [] pos) (a64 b i (inL l) hd):=
 b7U hN hi hy hx0 hst hfr hg xB.mg hdb hin hb hs
theorem a1G{E:L2.St->XK}{st:List Stmt}{m:MS}(h:ESs X.nox st m):EXs X E st (a0Z m):=c2C (PSs.nox h)
theorem b1c{E:L2.St->XK}{st:Stmt}{m:MS}(h:ES X.nox st m):EX X E st (a0Z m):=c4g λpins s σ H D I hw=>
 wpAny_mono (h pins s σ H D (I.wish _) hw) (λfl s1 hq=>by
  cases fl with
  |next=>obtain⟨σ',H',J,q⟩:=hq;exact⟨σ',H',J.unwish,q⟩
  |brk=>obtain⟨σ',H',J,q⟩:=hq;exact⟨σ',H',J.unwish,q⟩
  |cont=>obtain⟨σ',H',J,q⟩:=hq;exact⟨σ',H',J.unwish,q⟩
  |ret u=>obtain⟨v,σ',H',J,r,q⟩:=hq;exact⟨v,σ',H',J.unwish,r,q⟩) λ_ _ z=>z.elim
end
def unE:List (PV×PV)->Υ (Γ)
 |[]=>ξ []
 |(.tuple ks,p)::r=>(a8O ks).bind λk=>(unE r).map λt=>(k,p)::t
 |_::_=>ζ
theorem a3W:∀k:List Q8,a8O (k.map kP)=ξ k
 |[]=>rfl
 | .inl i::k=>by
   rw [AT];unfold a8O;rw [a3W k]
   rfl
 | .inr x::k=>by
   rw [AT];unfold a8O;rw [a3W k]
   rfl
theorem b1W{K:AE}{F:Hp}:∀{es:List (PV×PV)} {xs:List (List Q8×V)},a5f K F es xs->∃kvs,unE es=ξ kvs/\a3p K F kvs xs
 |[],_,h=>by cases h;exact⟨[],rfl,rfl⟩
 |(k,p)::es,_,⟨kk,v,t,e,z,q,h⟩=>by
  subst e;subst z;obtain⟨kvs,h1,h2⟩:=b1W h;refine⟨(kk,p)::kvs, ?_,v,t,rfl,q,h2⟩;unfold unE;rw [a3W,h1]
  rfl
section
variable {X:Cx}
end
section
variable {K:AE}{F:Hp}{a:AA}{xs:List (List Q8×V)}
end
section
variable {X:Cx}
end
section
variable {prog:AK}{w:AJ}{K:Type}[DecidableEq K]{kd:KeyKind prog w K}{A:AL}{E:AB->AC->Prop}{s:AC}
end
section
variable {X:Cx}{pins:List (AA×Obj)}{σ:L2.St}{H:Hp}{s:AC}{a:AA}{kvs:List (List Q8×V)}{A:AL}{E:AB->AC->Prop}
end
section
variable {X:Cx}{o i:AF}{td ty:TE}
end
section
variable {X:Cx}
end
def b2A(x:g0):Υ g0:=match x with
 | .v (.bool b)=>ξ (.v (.int (if b then 1 else 0)))
 |_=>ζ
theorem b7F{X:Cx}:R7 X (.type "int") (rC1 X.K b2A):=by
 ext f
 ext bi
 unfold b2A at h2;split at h2
 ·rename_i b;cases h2;cases h1;cases(show u=Value.bool b from ru);exact PySem.call_int_bool ⟨.int _,H,I.tok _,⟨_,rfl⟩,k _ F H (B5.here s0 rfl)⟩
 ·cases h2
end PU
namespace L2
end L2
namespace PU
open L2
open PySem.W (Looks InstAt looks_findIn looks_find looks_subIn looks_mroIn)
def b3w(K:AE)(D:AA):Bool:=(PySem.W.clsIn K D).isSome && PySem.W.findIn K (.ref D) "__getattribute__"==ξ (ξ (.builtin "BaseException.__getattribute__"))&& PySem.W.findIn K (.ref D) "__getattr__"==ξ ζ
 && PySem.W.findIn K (.ref D) "__class__"==ξ (ξ (.builtin "object.__class__"))&& PySem.W.specialIn K (.builtin "object.__class__") "__get__"==ξ (ξ (.builtin "getset_descriptor.__get__"))&& PySem.W.takesIn K (.builtin "object.__class__")==ξ true
 && PySem.W.mroIn K D (.type "object")==ξ true && PySem.W.subIn K (.ref D) (.type "BaseException")==ξ true
structure XcF(K:AE)(D:AA):Prop where
 cl:(PySem.W.clsIn K D).isSome=true
 ga:PySem.W.findIn K (.ref D) "__getattribute__"=ξ (ξ (.builtin "BaseException.__getattribute__"))
 gt:PySem.W.findIn K (.ref D) "__getattr__"=ξ ζ
 ob:∀od,PySem.W.findObj K D od "__class__"=ξ (.bind (.builtin "getset_descriptor.__get__") (.builtin "object.__class__"))
 mo:PySem.W.mroIn K D (.type "object")=ξ true
 sb:PySem.W.subIn K (.ref D) (.type "BaseException")=ξ true
theorem b5Y{K:AE}{D:AA}(h:b3w K D=true):XcF K D:=by
 unfold b3w at h;simp only [χ,beq_iff_eq] at h;obtain⟨⟨⟨⟨⟨⟨⟨h1,h2⟩,h3⟩,h4⟩,h5⟩,h6⟩,h7⟩,h8⟩:=h;refine⟨h1,h2,h3,λod=> ?_,h7,h8⟩;obtain⟨cd,hc⟩:=Option.isSome_iff_exists.mp h1;unfold PySem.W.findObj;rw [hc,AM,h4,AM];simp [h5,h6]
section
variable {prog:AK}{w:AJ}{A:AL}{E:AB->AC->Prop}{s:AC}{K:AE}{x D:AA}{ox:Obj}{od:Υ Obj}
theorem b9M{tk:Tok}{Q:PySem.Fin->AC->Prop}(X:K.In s.heap)(I:InstAt s.heap x ox D od)(F:XcF K D)(hq:Q (.done (.ret (.ref D))) s):
 AH (model prog w) A (Builtin.«object.__getattribute__» ⟨[.ref x,.str "__class__" tk],[]⟩) Q E s:=by
 obtain⟨hh,g,d,t,os⟩:=s
 have L0:=I.type (M:=model prog w)
 have L1:=looks_find (M:=model prog w) X I (F.ob od)
 unfold Builtin.«object.__getattribute__»
 repeat (any_goals (first|assumption|with_reducible refine L0.at ?_|with_reducible refine L1.at ?_|wp_step))
 exact PySem.W.class_get (s:=⟨hh,g,d,t,os⟩) X I F.mo (AR hq)
theorem b9K{nameV:AB}{Q:Unit->AC->Prop}(X:K.In s.heap)(I:InstAt s.heap x ox D od)(F:XcF K D)(hq:Q () s):AH (model prog w) A (checkBuiltinCall "BaseException.__getattribute__" ⟨[.ref x,nameV],[]⟩) Q E s:=by
 obtain⟨hh,g,d,t,os⟩:=s;have L0:=I.type (M:=model prog w);have L1:=looks_subIn (M:=model prog w) X F.sb;have hk:builtinKind "BaseException.__getattribute__"=ξ .slot:=by decide+kernel
 have hsplit:splitId "BaseException.__getattribute__"=ξ ("BaseException","__getattribute__"):=by decide+kernel
 have ha:=PySem.F.args_bexc_ga (.ref x) nameV;simp only [checkBuiltinCall,hk,hsplit];refine AG ?_
 ·unfold isInstance
  repeat (first|with_reducible refine L0.at ?_|with_reducible refine L1.at ?_|wp_step)
  exact hq
theorem c4Z{tk:Tok}{fill expr:Bool}{Q:AB->AC->Prop}(X:K.In s.heap)(I:InstAt s.heap x ox D od)(F:XcF K D)(hq:Q (.ref D) s):AH (model prog w) A (getAttrBy (.ref x) (.str "__class__" tk) fill expr) Q E s:=by
 obtain⟨hh,g,d,t,os⟩:=s;have L0:=I.type (M:=model prog w);have L1:=looks_findIn (M:=model prog w) X F.ga;have L2:=looks_findIn (M:=model prog w) X F.gt;have FB:=PySem.F.attr_ValueError;have f3:=FB.ga.bind (.ref x);have hx0:(expr && onTheHeap (Value.builtin "BaseException.__getattribute__"))=false:=by cases expr<;>rfl
 have hx2:(Value.builtin "BaseException.__getattribute__"==Value.builtin "object.__getattribute__")=false:=by decide+kernel
 have hx1:(onTheHeap (Value.ref D)&& Value.builtin "BaseException.__getattribute__"==Value.builtin "object.__getattribute__")=false:=by rw [hx2];rfl
 repeat (any_goals (first|assumption|with_reducible refine L0.at ?_|with_reducible refine L1.at ?_|with_reducible refine L2.at ?_|wp_step))
 refine codeAny_call_builtin FB.ga.plain PySem.F.entry_bexc_ga (b9K (s:=⟨hh,g,d,t,os⟩) X I F (b9M (s:=⟨hh,g,d,t,os⟩) X I F ?_))
 repeat (any_goals (first|assumption|wp_step))
theorem b9L{Q:Υ AB->AC->Prop}(X:K.In s.heap)(I:InstAt s.heap x ox D od)(F:XcF K D)(hq:Q (ξ (.ref D)) {s with toks:=s.toks+1}):AH (model prog w) A (getAttr? (.ref x) "__class__") Q E s:=by
 obtain⟨hh,g,d,t,os⟩:=s;unfold getAttr? getAttrBy?;refine AG (wpAny_mkText (AG (wpAny_attempt (c4Z (s:=⟨hh,g,d,t+1,os⟩) X I F ?_))));exact AR hq
end
theorem a99{K:AE}{x D:AA}{c:AB}(F:XcF K D)(e:PySem.W.kitOne K (.ref D) c=ξ false):Answers (λs=>K.In s.heap/\∃o od,InstAt s.heap x o D od) (.ref x) c false:=λdep tk prog w A R s hs=>by
 obtain⟨hh,gg,dr,tt,oo⟩:=s;obtain⟨⟨kin,o,od,I⟩,fin⟩:=hs;have L0:=I.type (M:=model prog w);have hisD:Looks (model prog w) hh (isType (.ref D)) true:=by
  obtain⟨cdD,hcD⟩:=Option.isSome_iff_exists.mp F.cl;unfold PySem.W.clsIn at hcD;split at hcD
  ·rename_i c' d' cd' sl' ho;intro A' Q' E' s' k q;unfold isType loadHead;exact AG (wpAny_loadPart (k _ _ (kin _ _ ho)) (AR q))
  ·cases hcD
 unfold Builtin.«isinstance.nested»;refine AG ?_;refine L0.at ?_;cases q:(Value.ref D==c) with
 |true=>
  unfold PySem.W.kitOne at e;rw [q,if_pos rfl] at e;cases e
 |false=>
  ext be
  have z3:Looks (model prog w) hh (isInstance (.ref x) c) false:=L0.andThen z.2.2;refine AG ?_;refine z.1.at ?_;rw [if_pos (by decide)]
  k_delta "plainIsInstance"
  ext a3
  simp only [BD,if_false];refine AG (b9L (s:=⟨hh,gg,dr,tt,oo⟩) kin I F ?_);refine AG (hisD.at ?_);simp only [Bool.not_true,BD,if_false];refine AG (wpAny_rule ?_);refine z.2.2.at ?_
  first
   |exact AR (fin _)
   |exact AR (AR (fin _))
   |exact AG (AR (AR (fin _)))
theorem b6o{K:AE}{prog:AK}{w:AJ}{A:AL}{E:AB->AC->Prop}{s:AC}{Q:AB->AC->Prop}{x D:AA}{c:AB}{o:Obj}{od:Υ Obj}(kin:K.In s.heap)(I:InstAt s.heap x o D od)(F:XcF K D)(e:PySem.W.kitOne K (.ref D) c=ξ false)(fin:∀tk,Q (.bool false) {s with toks:=tk}):
 AH (model prog w) A (call (.builtin "isinstance") [.ref x,c]) Q E s:=by
 refine call_isinstance (S:=λ_ R s=>(K.In s.heap/\∃o od,InstAt s.heap x o D od)/\∀tk,R (.ok (.ret (.bool false))) {s with toks:=tk}) (λprog w A R s hs=> ?_) ⟨⟨kin,o,od,I⟩,fin⟩
 refine isinstance_outer ?_ (λz=>nomatch z)
 exact a99 F e 0 _ prog w A R s hs
def b9T(K:AE)(cv:AB)(tab:List (Str×Bool)):Prop:=∀c b,tab.lookup c=ξ b->∃C,M4 K c C/\XcF K C/\PySem.W.kitOne K (.ref C) cv=ξ b
theorem b3s{K:AE}{cv:AB}:b9T K cv []:=λ_ _ h=>nomatch h
theorem a4N{K:AE}{mg:Str->Υ AB}{cv:AB}{c:Str}{b:Bool}{C:AA}{t:List (Str×Bool)}(x:XC K mg c C)(f:b3w K C=true)(e:PySem.W.kitOne K (.ref C) cv=ξ b)(h:b9T K cv t):b9T K cv ((c,b)::t):=λc1 b1 q=>by
 rw [List.lookup_cons] at q;split at q
 ·rename_i z;cases q;rw [beq_iff_eq.mp z];exact⟨C,x.named,b5Y f,e⟩
 ·exact h c1 b1 q
section
variable {X:Cx}
theorem b7O{tab:List (Str×Bool)}{cv:AB}{cV:V}{e:AF}{n:Str}{m:M}{p p2 pos:Pos}(T:b9T X.K cv tab)(rv:∀u,y4 cV u->u=cv)(hg:Gl X "isinstance")(hm:X.mg "isinstance"=ζ)(ha:EE X e m)(hT:PE X (.Name n p2) (tC cV))
 (he:AI [e,.Name n p2] X.env=(false,eval e X.env)::AI [.Name n p2] X.env:=by rfl) (he2:AI [.Name n p2] X.env=(false,eval (.Name n p2) X.env)::AI [] X.env:=by rfl) (hpl:(backTo pos (AI [.Name n p2] X.env)).any (·.1)=false:=by rfl)
 (hv:bootBuiltins "isinstance"=ξ (.builtin "isinstance"):=by rfl):
 EE X (.Call (.Name "isinstance" p) [e,.Name n p2] [] pos) (m1 (b2C tab) m):=by
 have hc:R7 X (.builtin "isinstance") (λxs H Q=>∃F x c b,xs=[x,cV]/\u3 F H/\b3O X.K F c x/\tab.lookup c=ξ b/\Q (.bl b) H):=by
  intro pins s σ H xs us Q I rv0 h;obtain⟨F,x,c,b,rfl,s0,h1,hl,q⟩:=h;obtain⟨u,u2,rfl,ru,ru2⟩:∃u1 u2,us=[u1,u2]/\y4 x u1/\y4 cV u2:=by
   cases rv0 with
   |cons p q=>
    cases q with
    |cons p' q'=>
     cases q';exact⟨_,_,rfl,p,p'⟩
  cases rv _ ru2;obtain⟨C,nm,fc,k1⟩:=T c b hl;have fin:∀tk,EP X pins σ Q (.bool b) {s with toks:=tk}:=λtk=>⟨.bl _,H,I.tok tk,rfl,q⟩
  obtain⟨a,C',o,od,rfl,g4,J⟩:=b51 I (h1.mono s0);cases g4.uniq nm;cases(show u=Value.ref a from ru);cases b with
  |true=>exact b8n I.kIn J.at_ J.cls k1 fin
  |false=>exact b6o I.kIn J fc k1 fin
 exact B1 (a2u hc hg hm hv (z7 ha (z7 hT S5 he2) he) (by decide) (by decide) he hpl) λσ H Q h0=>z9 h0 λF ρ r h1 h2 k=>by
  ext aj
  obtain⟨c,hc,h2⟩:=bind_some h2;cases hl:tab.lookup c with
  |none=>rw [hl] at h2;cases h2
  |some b=>
   rw [hl] at h2;cases h2;exact⟨H1,v,c,b,rfl,u3.refl H1,b5Z (o.rep.rd o.x.fh) hc,hl,k _ F1 H1 (B5.val o.x rfl)⟩
end
end PU
namespace ZT
open L2 PU
structure ZA(z TI TO i1 i2:AA):Prop where
 TIz:TI≠z
 TOz:TO≠z
 i1z:i1≠z
 i2z:i2≠z
 TITO:TI≠TO
 TIi1:TI≠i1
 TIi2:TI≠i2
 TOi1:TO≠i1
 TOi2:TO≠i2
 i12:i1≠i2
def LA(z TO i1 i2 l:AA):Prop:=l≠z/\l≠TO/\l≠i1/\l≠i2
section
variable {prog:AK}{w:AJ}{A:AL}{E:AB->AC->Prop}{s:AC}{z TI TO i1 i2:AA}{n1 n2 i:Nat}{P1 P2:Nat->AB->Prop}{St1 St2:Nat->Heap->Prop}{a b:AB}{l1 l2:AA}
theorem b7d{Q:AB->AC->Prop}(D:ZA z TI TO i1 i2)(D1:∀A',A'.handled=ζ->Draws prog w A' i1 [i1,l1] n1 P1 St1)(D2:∀A',A'.handled=ζ->Draws prog w A' i2 [i2,l2] n2 P2 St2)(hh:A.handled=ζ)(a1:LA z TO i1 i2 l1)(a2:LA z TO i1 i2 l2)
 (hz:IsZip s.heap z TI TO .none) (hTI:IsPair s.heap TI (.ref i1) (.ref i2)) (hTO:IsPair s.heap TO a b) (h1:St1 i s.heap) (h2:St2 i s.heap) (m1:i<n1) (m2:i<n2)
 (hQ:∀x y h' tk,P1 i x->P2 i y->IsZip h' z TI TO (rawInt s.heap.objs.size)->IsPair h' TO x y->St1 (i+1) h'->St2 (i+1) h'->IsPair h' s.heap.objs.size x y->h'.objs.size=s.heap.objs.size+1->
  (∀c o,c≠z->c≠TO->c≠i1->c≠i2->s.heap.get? c=ξ o->h'.get? c=ξ o)->Q (.ref s.heap.objs.size) {s with heap:=h',toks:=tk}):
 AH (model prog w) A (Builtin.«zip.__next__» ⟨[.ref z],[]⟩) (λfin s'=>∃v,fin= .done (.ret v)/\Q v s') E s:=by
 show AH _ _ (field (.ref z) 2>>=_) _ _ _
 refine AG (wpAny_field hz rfl (x:= .bool false) rfl ?_)
 show AH _ _ (field (.ref z) 3>>=_) _ _ _
 refine AG (wpAny_field hz rfl (x:= .ref TI) rfl ?_)
 refine AG (wpAny_seqItems hTI rfl ?_)
 show AH _ _ (Builtin.SmallTypes.ownedTupleIsFree (.ref z)>>=_) _ _ _
 refine AG ?_
 unfold Builtin.SmallTypes.ownedTupleIsFree
 refine AG (wpAny_field hz rfl (x:= .none) rfl (AR ?_))
 simp only [if_true]
 refine AG (wpAny_rule ?_)
 refine AG (wpAny_field hz rfl (x:= .ref TO) rfl ?_)
 refine AG (wpAny_setField_rec hz (by simp) λh₁ hz₁ hs₁=> ?_)
 replace hz₁:IsZip h₁ z TI TO .ellipsis:=hz₁
 refine AG ?_
 simp only [List.zipIdx_cons,List.zipIdx_nil,List.forIn_cons,List.forIn_nil]
 have f1:∀{x:AA} {h h':Heap} {i},x≠i1->x≠l1->Heap.SameBut x h h'->St1 i h->St1 i h':=λn n' k st=>(D1 A hh).frame _ _ _ st λb hb o e=>by
  have hb:b=i1\/b=l1:=by simpa using hb
  rcases hb with hb|hb
  ·ext a0
  ·ext az
 have f2:∀{x:AA} {h h':Heap} {i},x≠i2->x≠l2->Heap.SameBut x h h'->St2 i h->St2 i h':=λn n' k st=>(D2 A hh).frame _ _ _ st λb hb o e=>by
  have hb:b=i2\/b=l2:=by simpa using hb
  rcases hb with hb|hb
  ·ext a0
  ·ext az
 refine AG (AG (wpAny_onRaise ?_))
 show AH _ _ (Builtin.SmallTypes.nextOf (.ref i1)>>=_) _ _ _
 refine AG ((D1 _ hh).item i _ _ _ m1 (f1 D.i1z.symm (Ne.symm a1.1) hs₁ h1) λx h₂ tk₂ px h1₂ hs₂=>AR ?_)
 have hTO₂:IsPair h₂ TO a b:=hs₂.extBut _ _ D.TOi1 (hs₁.extBut _ _ D.TOz hTO)
 refine AG (wpAny_seqItems hTO₂ rfl ?_)
 refine AG (wpAny_updateSeq_pair hTO₂ λh₃ hTO₃ hs₃=> ?_)
 replace hTO₃:IsPair h₃ TO x b:=hTO₃
 refine AG (wpAny_letGo (AR ?_))
 refine AG (AG (wpAny_onRaise ?_))
 show AH _ _ (Builtin.SmallTypes.nextOf (.ref i2)>>=_) _ _ _
 refine AG ((D2 _ hh).item i _ _ _ m2 (f2 D.TOi2 (Ne.symm a2.2.1) hs₃ (f2 D.i12 (Ne.symm a2.2.2.1) hs₂ (f2 D.i2z.symm (Ne.symm a2.1) hs₁ h2))) λy h₄ tk₄ py h2₄ hs₄=>AR ?_)
 have hTO₄:IsPair h₄ TO x b:=hs₄.extBut _ _ D.TOi2 hTO₃
 refine AG (wpAny_seqItems hTO₄ rfl ?_)
 refine AG (wpAny_updateSeq_pair hTO₄ λh₅ hTO₅ hs₅=> ?_)
 replace hTO₅:IsPair h₅ TO x y:=hTO₅
 refine AG (wpAny_letGo (AR (AR ?_)))
 refine AG (wpAny_seqItems hTO₅ rfl ?_)
 refine AG (wpAny_newTuple ?_)
 have hsz:h₅.objs.size=s.heap.objs.size:=by rw [hs₅.1,hs₄.1,hs₃.1,hs₂.1,hs₁.1]
 have hz₅:IsZip h₅ z TI TO .ellipsis:=hs₅.extBut _ _ D.TOz.symm (hs₄.extBut _ _ D.i2z.symm (hs₃.extBut _ _ D.TOz.symm (hs₂.extBut _ _ D.i1z.symm hz₁)))
 have hk₅:∀c o,c≠z->c≠TO->c≠i1->c≠i2->s.heap.get? c=ξ o->h₅.get? c=ξ o:=λc o c1 c2 c3 c4 e=>
  hs₅.extBut _ _ c2 (hs₄.extBut _ _ c4 (hs₃.extBut _ _ c2 (hs₂.extBut _ _ c3 (hs₁.extBut _ _ c1 e))))
 have h1₅:St1 (i+1) h₅:=f1 D.TOi1 (Ne.symm a1.2.1) hs₅ (f1 D.i12.symm (Ne.symm a1.2.2.2) hs₄ (f1 D.TOi1 (Ne.symm a1.2.1) hs₃ h1₂))
 have h2₅:St2 (i+1) h₅:=f2 D.TOi2 (Ne.symm a2.2.1) hs₅ h2₄
 have hzlt:z<h₅.objs.size:=AW hz₅
 have hTOlt:TO<h₅.objs.size:=AW hTO₅
 have hi1lt:i1<h₅.objs.size:=by obtain⟨_,e⟩:=(D1 A hh).live _ _ h1₅;exact AW e
 have hi2lt:i2<h₅.objs.size:=by obtain⟨_,e⟩:=(D2 A hh).live _ _ h2₅;exact AW e
 show AH _ _ (Builtin.SmallTypes.ownedTupleHandOut (.ref z) (.ref h₅.objs.size)>>=_) _ _ _
 refine AG ?_
 unfold Builtin.SmallTypes.ownedTupleHandOut
 have hz₆:IsZip (h₅.push {cls:= .type "tuple",data:= .seq #[x,y]}) z TI TO .ellipsis:=AS _ hz₅
 refine AG (wpAny_setField_rec hz₆ (by simp) λh₇ hz₇ hs₇=> ?_)
 replace hz₇:IsZip h₇ z TI TO (rawInt h₅.objs.size):=hz₇
 refine wpAny_setField_rec hz₇ (by simp) λh₈ hz₈ hs₈=> ?_
 replace hz₈:IsZip h₈ z TI TO (rawInt h₅.objs.size):=hz₈
 have up:∀c o,c≠z->h₅.get? c=ξ o->h₈.get? c=ξ o:=λc o c1 e=>hs₈.extBut _ _ c1 (hs₇.extBut _ _ c1 (AS _ e))
 have hT₈:IsPair h₈ h₅.objs.size x y:=hs₈.extBut _ _ (Nat.ne_of_gt hzlt) (hs₇.extBut _ _ (Nat.ne_of_gt hzlt) (Am _ rfl))
 have hz8:h₈.objs.size=h₅.objs.size+1:=by rw [hs₈.1,hs₇.1,Heap.size_push]
 rw [hsz] at hz₈ hT₈ hz8
 refine AR ⟨_,rfl, ?_⟩
 show Q (.ref h₅.objs.size) _
 rw [hsz]
 refine hQ x y h₈ _ px py hz₈ (up _ _ D.TOz hTO₅) ?_ ?_ hT₈ hz8 λc o c1 c2 c3 c4 e=>up c o c1 (hk₅ c o c1 c2 c3 c4 e)
 ·refine(D1 A hh).frame _ _ _ h1₅ λb hb o e=>up b o ?_ e
  have hb:b=i1\/b=l1:=by simpa using hb
  rcases hb with hb|hb
  ·rw [hb];exact D.i1z
  ·rw [hb];exact a1.1
 ·refine(D2 A hh).frame _ _ _ h2₅ λb hb o e=>up b o ?_ e
  have hb:b=i2\/b=l2:=by simpa using hb
  rcases hb with hb|hb
  ·rw [hb];exact D.i2z
  ·rw [hb];exact a2.1
theorem b9P{Q:PySem.Fin->AC->Prop}(D:ZA z TI TO i1 i2)(D1:∀A',A'.handled=ζ->Draws prog w A' i1 [i1,l1] n1 P1 St1)(D2:∀A',A'.handled=ζ->Draws prog w A' i2 [i2,l2] n2 P2 St2)(hh:A.handled=ζ)(a1:LA z TO i1 i2 l1)(a2:LA z TO i1 i2 l2)
 (hz:IsZip s.heap z TI TO .none) (hTI:IsPair s.heap TI (.ref i1) (.ref i2)) (hTO:IsPair s.heap TO a b) (h1:St1 i s.heap) (h2:St2 i s.heap) (m1:i<=n1) (m2:i<=n2) (hend:i=n1\/i=n2)
 (hE:∀h' e tk,(∀c o,c≠z->c≠TO->c≠i1->c≠i2->s.heap.get? c=ξ o->h'.get? c=ξ o)->(∃o,h'.get? e=ξ o/\o.cls= .type "StopIteration")->E (.ref e) {s with heap:=h',toks:=tk}):
 AH (model prog w) A (Builtin.«zip.__next__» ⟨[.ref z],[]⟩) Q E s:=by
 show AH _ _ (field (.ref z) 2>>=_) _ _ _
 refine AG (wpAny_field hz rfl (x:= .bool false) rfl ?_)
 show AH _ _ (field (.ref z) 3>>=_) _ _ _
 refine AG (wpAny_field hz rfl (x:= .ref TI) rfl ?_)
 refine AG (wpAny_seqItems hTI rfl ?_)
 show AH _ _ (Builtin.SmallTypes.ownedTupleIsFree (.ref z)>>=_) _ _ _
 refine AG ?_
 unfold Builtin.SmallTypes.ownedTupleIsFree
 refine AG (wpAny_field hz rfl (x:= .none) rfl (AR ?_))
 simp only [if_true]
 refine AG (wpAny_rule ?_)
 refine AG (wpAny_field hz rfl (x:= .ref TO) rfl ?_)
 refine AG (wpAny_setField_rec hz (by simp) λh₁ hz₁ hs₁=> ?_)
 replace hz₁:IsZip h₁ z TI TO .ellipsis:=hz₁
 refine AG ?_
 simp only [List.zipIdx_cons,List.zipIdx_nil,List.forIn_cons,List.forIn_nil]
 have f1:∀{x:AA} {h h':Heap} {i},x≠i1->x≠l1->Heap.SameBut x h h'->St1 i h->St1 i h':=λn n' k st=>(D1 A hh).frame _ _ _ st λb hb o e=>by
  have hb:b=i1\/b=l1:=by simpa using hb
  rcases hb with hb|hb
  ·ext a0
  ·ext az
 have f2:∀{x:AA} {h h':Heap} {i},x≠i2->x≠l2->Heap.SameBut x h h'->St2 i h->St2 i h':=λn n' k st=>(D2 A hh).frame _ _ _ st λb hb o e=>by
  have hb:b=i2\/b=l2:=by simpa using hb
  rcases hb with hb|hb
  ·ext a0
  ·ext az
 refine AG (AG (wpAny_onRaise ?_))
 show AH _ _ (Builtin.SmallTypes.nextOf (.ref i1)>>=_) _ _ _
 by_cases hx:i=n1
 ·subst hx
  refine AG ((D1 _ hh).done _ _ _ (f1 D.i1z.symm (Ne.symm a1.1) hs₁ h1) λh₂ e hs₂ he=> ?_)
  obtain⟨oe,hoe,hce⟩:=he
  have hz₂:IsZip h₂ z TI TO .ellipsis:=hs₂ _ _ D.i1z.symm hz₁
  have hez:e≠z:=λx=>by subst x;rw [hz₂] at hoe;cases hoe;simp at hce
  exact wpAny_setField_rec hz₂ (by simp) λh₃ _ hs₃=>hE h₃ e _ (λc o c1 _ c3 _ x=>hs₃.extBut _ _ c1 (hs₂ _ _ c3 (hs₁.extBut _ _ c1 x))) ⟨oe,hs₃.extBut _ _ hez hoe,hce⟩
 ·have hy:i=n2:=hend.resolve_left hx
  subst hy
  refine AG ((D1 _ hh).item i _ _ _ (Nat.lt_of_le_of_ne m1 hx) (f1 D.i1z.symm (Ne.symm a1.1) hs₁ h1) λx h₂ tk₂ px h1₂ hs₂=>AR ?_)
  have hTO₂:IsPair h₂ TO a b:=hs₂.extBut _ _ D.TOi1 (hs₁.extBut _ _ D.TOz hTO)
  refine AG (wpAny_seqItems hTO₂ rfl ?_)
  refine AG (wpAny_updateSeq_pair hTO₂ λh₃ hTO₃ hs₃=> ?_)
  refine AG (wpAny_letGo (AR ?_))
  refine AG (AG (wpAny_onRaise ?_))
  show AH _ _ (Builtin.SmallTypes.nextOf (.ref i2)>>=_) _ _ _
  refine AG ((D2 _ hh).done _ _ _ (f2 D.TOi2 (Ne.symm a2.2.1) hs₃ (f2 D.i12 (Ne.symm a2.2.2.1) hs₂ (f2 D.i2z.symm (Ne.symm a2.1) hs₁ h2))) λh₄ e hs₄ he=> ?_)
  obtain⟨oe,hoe,hce⟩:=he
  have hz₄:IsZip h₄ z TI TO .ellipsis:=hs₄ _ _ D.i2z.symm (hs₃.extBut _ _ D.TOz.symm (hs₂.extBut _ _ D.i1z.symm hz₁))
  have hez:e≠z:=λx=>by subst x;rw [hz₄] at hoe;cases hoe;simp at hce
  exact wpAny_setField_rec hz₄ (by simp) λh₅ _ hs₅=>hE h₅ e _ (λc o c1 c2 c3 c4 x=>hs₅.extBut _ _ c1 (hs₄ _ _ c4 (hs₃.extBut _ _ c2 (hs₂.extBut _ _ c3 (hs₁.extBut _ _ c1 x))))) ⟨oe,hs₅.extBut _ _ hez hoe,hce⟩
theorem pyNext_zip_itemD{Q:Υ AB->AC->Prop}(D:ZA z TI TO i1 i2)(D1:∀A',A'.handled=ζ->Draws prog w A' i1 [i1,l1] n1 P1 St1)(D2:∀A',A'.handled=ζ->Draws prog w A' i2 [i2,l2] n2 P2 St2)(hh:A.handled=ζ)(a1:LA z TO i1 i2 l1)(a2:LA z TO i1 i2 l2)
 (hz:IsZip s.heap z TI TO .none) (hTI:IsPair s.heap TI (.ref i1) (.ref i2)) (hTO:IsPair s.heap TO a b) (h1:St1 i s.heap) (h2:St2 i s.heap) (m1:i<n1) (m2:i<n2)
 (hQ:∀x y h' tk,P1 i x->P2 i y->IsZip h' z TI TO (rawInt s.heap.objs.size)->IsPair h' TO x y->St1 (i+1) h'->St2 (i+1) h'->IsPair h' s.heap.objs.size x y->h'.objs.size=s.heap.objs.size+1->
  (∀c o,c≠z->c≠TO->c≠i1->c≠i2->s.heap.get? c=ξ o->h'.get? c=ξ o)->Q (ξ (.ref s.heap.objs.size)) {s with heap:=h',toks:=tk}):
 AH (model prog w) A (pyNext (.ref z)) Q E s:=by
 have hT:s.TypeIs (.ref z) "zip":=⟨_,hz,rfl⟩
 unfold pyNext
 exact AG (wpAny_attempt (wpAny_callSpecial?_slot (name:=AD "__next__") hT F.slot_zip_next
  (wpAny_call_entry F.slot_zip_next hT F.entry_zip_next
   (b7d D D1 D2 hh a1 a2 hz hTI hTO h1 h2 m1 m2 λx y h' tk p1 p2 a1 a2 a3 a4 a5 a6 a7=>AR (hQ x y h' tk p1 p2 a1 a2 a3 a4 a5 a6 a7)) (F.args_zip_next_1 _))))
theorem pyNext_zip_endD{Q:Υ AB->AC->Prop}(D:ZA z TI TO i1 i2)(D1:∀A',A'.handled=ζ->Draws prog w A' i1 [i1,l1] n1 P1 St1)(D2:∀A',A'.handled=ζ->Draws prog w A' i2 [i2,l2] n2 P2 St2)(hh:A.handled=ζ)(a1:LA z TO i1 i2 l1)(a2:LA z TO i1 i2 l2)
 (hz:IsZip s.heap z TI TO .none) (hTI:IsPair s.heap TI (.ref i1) (.ref i2)) (hTO:IsPair s.heap TO a b) (h1:St1 i s.heap) (h2:St2 i s.heap) (m1:i<=n1) (m2:i<=n2) (hend:i=n1\/i=n2)
 (hQ:∀h' tk,(∀c o,c≠z->c≠TO->c≠i1->c≠i2->s.heap.get? c=ξ o->h'.get? c=ξ o)->Q ζ {s with heap:=h',toks:=tk}):AH (model prog w) A (pyNext (.ref z)) Q E s:=by
 have hT:s.TypeIs (.ref z) "zip":=⟨_,hz,rfl⟩
 unfold pyNext
 refine AG (wpAny_attempt (wpAny_callSpecial?_slot (name:=AD "__next__") hT F.slot_zip_next
  (wpAny_call_entry F.slot_zip_next hT F.entry_zip_next (b9P D D1 D2 hh a1 a2 hz hTI hTO h1 h2 m1 m2 hend λh' e tk hk he=> ?_) (F.args_zip_next_1 _))))
 obtain⟨o,ho,hc⟩:=he
 refine AG (wpAny_isInstance (T:="StopIteration") (b:=true) ⟨o,ho,hc⟩ isSubtype_stop ?_)
 exact AR (hQ _ _ hk)
end
section
variable {prog:AK}{w:AJ}{A:AL}{E:AB->AC->Prop}{s:AC}
theorem b6B{it t:AA}{i:Nat}{items:Array AB}{x:AB}{Q:AB->AC->Prop}(hit:s.heap.IsTupleIter it t i)
 (ht:s.heap.IsTuple t items) (hx:items[i]?=ξ x)
 (hQ:∀h',h'.IsTupleIter it t (i+1)->Heap.SameBut it s.heap h'->Q x {s with heap:=h'}):
 AH (model prog w) A (Builtin.SmallTypes.nextOf (.ref it)) Q E s:=by
 obtain⟨o,ho,hc,hd⟩:=id hit
 obtain⟨ol,hol,_,nl,hdl⟩:=ht
 unfold Builtin.SmallTypes.nextOf
 refine AG (wpAny_callSpecial?_slot (name:=AD "__next__") hit.typeIs F.slot_tuple_iterator_next
  (wpAny_call_entry F.slot_tuple_iterator_next hit.typeIs F.entry_tuple_iterator_next ?_ (F.args_tuple_iterator_next_1 _)))
 show AH _ _ (field (.ref it) 0>>=_) _ _ s
 refine AG (wpAny_field ho hd (x:= .ref t) rfl ?_)
 show AH _ _ (if(Value.ref t==Value.none)=true then _ else _) _ _ s
 rw [if_neg (show ¬((Value.ref t==Value.none)=true) from Ao)]
 show AH _ _ (field (.ref it) 1>>=_) _ _ s
 refine AG (wpAny_field ho hd (x:= .int i 0) rfl ?_)
 show AH _ _ (seqItems? (.ref t)>>=_) _ _ s
 refine AG (wpAny_seqItems hol hdl ?_)
 simp only [BK,hx]
 refine AG (wpAny_setField ho hd (by simp) (AR ⟨x,rfl,AR (hQ _ ?_ (Heap.SameBut.update ..))⟩))
 exact⟨_,Heap.get?_update_self _ ho (Obj.isFreed_of_fields (Obj.data_mapFields hd _)),(Obj.cls_mapFields ..).trans hc,by
  rw [Obj.data_mapFields hd];simp [rawInt]⟩
theorem b8O{it t:AA}{i:Nat}{items:Array AB}{Q:AB->AC->Prop}(hh:A.handled=ζ)
 (hit:s.heap.IsTupleIter it t i) (ht:s.heap.IsTuple t items) (hx:items[i]?=ζ)
 (hE:∀h' e,Heap.ExtBut it s.heap h'->(∃o,h'.get? e=ξ o/\o.cls= .type "StopIteration")->E (.ref e) {s with heap:=h'}):
 AH (model prog w) A (Builtin.SmallTypes.nextOf (.ref it)) Q E s:=by
 obtain⟨o,ho,hc,hd⟩:=id hit
 obtain⟨ol,hol,_,nl,hdl⟩:=ht
 unfold Builtin.SmallTypes.nextOf
 refine AG (wpAny_callSpecial?_slot (name:=AD "__next__") hit.typeIs F.slot_tuple_iterator_next
  (wpAny_call_entry F.slot_tuple_iterator_next hit.typeIs F.entry_tuple_iterator_next ?_ (F.args_tuple_iterator_next_1 _)))
 show AH _ _ (field (.ref it) 0>>=_) _ _ s
 refine AG (wpAny_field ho hd (x:= .ref t) rfl ?_)
 show AH _ _ (if(Value.ref t==Value.none)=true then _ else _) _ _ s
 rw [if_neg (show ¬((Value.ref t==Value.none)=true) from Ao)]
 show AH _ _ (field (.ref it) 1>>=_) _ _ s
 refine AG (wpAny_field ho hd (x:= .int i 0) rfl ?_)
 show AH _ _ (seqItems? (.ref t)>>=_) _ _ s
 refine AG (wpAny_seqItems hol hdl ?_)
 simp only [BK,hx]
 refine AG (wpAny_rule (AG (wpAny_setField ho hd (by simp) ?_)))
 show AH _ _ (newExc (.type "StopIteration") []>>=_) _ _ _
 refine AG ?_
 simp only [newExc,newTuple]
 refine AG (wpAny_newObj_type ?_ (by size_fits))
 refine AG (m:=firstArgMember _ _) (wpAny_of_eq (a:=Value.none) (by first|rfl|(simp only [firstArgMember];rfl)) ?_)
 refine wpAny_newObj_type ?_ (by size_fits)
 simp only [raiseNew]
 refine AG (wpAny_handled ?_)
 first|rw [show A.in1.handled=ζ from hh]|rw [hh]
 refine AG (AR (wpAny_throw ?_))
 exact hE _ _ (((Heap.SameBut.update ..).extBut.push _).push _) ⟨_,Am _ rfl,rfl⟩
end
theorem b0h{prog:AK}{w:AJ}{A:AL}(hh:A.handled=ζ){it l:AA}(hne:l≠it)(items:Array AB):
 Draws prog w A it [it,l] items.size (λi v=>items[i]?=ξ v) (λi h=>h.IsTupleIter it l i/\h.IsTuple l items) where
 live:=λ_ _ st=>let ⟨o,ho,_⟩:=st.1;⟨o,ho⟩
 frame:=λ_ _ _ st hk=>⟨let ⟨o,ho,r⟩:=st.1;⟨o,hk it (by simp) o ho,r⟩,let ⟨o,ho,r⟩:=st.2;⟨o,hk l (by simp) o ho,r⟩⟩
 item:=λi s Q E hi st hQ=>by
  refine b6B st.1 st.2 (x:=items[i]) (by simp [hi]) λh' hit' hs'=> ?_
  exact hQ _ h' s.toks (by simp [hi]) ⟨hit',st.2.extBut hs'.extBut hne⟩ hs'
 done:=λs Q E st hE=>b8O hh st.1 st.2 (by simp) hE
theorem Inv.turnedTupN{X:Cx}{pins:List (AA×Obj)}{σ:L2.St}{H:Hp}{s:AC}{h':Heap}{t':Nat}{ch:List AA}{xs:List V}(I:Inv X pins σ H s)(f:∀b∈ch,a5e X pins H b)
 (k:∀b o,b∉ch->s.heap.get? b=ξ o->h'.get? b=ξ o) (new:F9 X.prog X.w (A5 H s.heap.objs.size (.tup xs)) h' s.heap.objs.size (.tup xs)):
 Inv X pins σ (A5 H s.heap.objs.size (.tup xs)) {s with heap:=h',toks:=t'}:=by
 have hn:H s.heap.objs.size=ζ:=I.hok.fresh (AV _)
 have nb:∀b u,H b=ξ u->b∉ch:=λb u q z=>by rw [(f b z).1] at q;cases q
 refine I.step (g':=s.gens) (d':=s.drawn) (ch:=ch) (λb hb=>⟨(f b hb).2.2.2.1,(f b hb).2.1,(f b hb).2.2.2.2.1,(f b hb).2.2.2.2.2⟩) (λb o _ _ hc q _=>k b o hc q) (λb o _ _ hc q _=>⟨o.slots,k b o hc q⟩)
  (λb o _ q n=>by rw [l6 (Ak (AW q))];exact n) (λb o hc q=>⟨o,k b o hc q⟩)
  (λb xs q=>by rw [l6 (n4 q hn)];exact q) (λb o u q=>by rw [l6 (n4 q hn)];exact q) (λb ps q=>⟨#[],by rw [l6 (n4 q hn),q];simp⟩) (λm hm=> ?_) (λb u q=> ?_) I.bare
 ·obtain⟨o,es,ep,ho,r⟩:=hm
  exact⟨o,es,ep,k _ o (λz=>(f _ z).2.1 rfl) ho,r⟩
 ·by_cases hb:b=s.heap.objs.size
  ·subst hb
   rw [p9] at q
   cases q
   exact new
  ·rw [l6 hb] at q
   refine(I.hok b u q).stay (λc v hc y=>k c v ?_ y) (λc y=>by rw [l6 (n4 y hn)];exact y) λc ys y=>by rw [l6 (n4 y hn)];exact y
   rcases hc with z|z
   ·rw [z];exact nb b u q
   ·exact nb c _ z
theorem Inv.turnedN{X:Cx}{pins:List (AA×Obj)}{σ:L2.St}{H:Hp}{s:AC}{h':Heap}{t':Nat}{ch:List AA}(I:Inv X pins σ H s)(f:∀b∈ch,a5e X pins H b)
 (k:∀b o,b∉ch->s.heap.get? b=ξ o->h'.get? b=ξ o):Inv X pins σ H {s with heap:=h',toks:=t'}:=by
 have nb:∀b u,H b=ξ u->b∉ch:=λb u q z=>by rw [(f b z).1] at q;cases q
 refine I.step (g':=s.gens) (d':=s.drawn) (ch:=ch) (λb hb=>⟨(f b hb).2.2.2.1,(f b hb).2.1,(f b hb).2.2.2.2.1,(f b hb).2.2.2.2.2⟩) (λb o _ _ hc q _=>k b o hc q) (λb o _ _ hc q _=>⟨o.slots,k b o hc q⟩)
  (λ_ _ _ _ n=>n) (λb o hc q=>⟨o,k b o hc q⟩) (λ_ _ e=>e) (λ_ _ _ e=>e) (λb ps e=>⟨#[],by rw [e];simp⟩) (λm hm=> ?_) (λb u q=> ?_) I.bare
 ·obtain⟨o,es,ep,ho,r⟩:=hm
  exact⟨o,es,ep,k _ o (λz=>(f _ z).2.1 rfl) ho,r⟩
 ·refine(I.hok b u q).stay (λc v hc y=>k c v ?_ y) (λ_ y=>y) λ_ _ y=>y
  rcases hc with z|z
  ·rw [z];exact nb b u q
  ·exact nb c _ z
theorem boot_zip:bootBuiltins "zip"=ξ (.type "zip"):=by decide+kernel
theorem za_new(n:Nat):ZA (n+4) (n+2) (n+3) n (n+1):=by
 exact⟨(by lia:(n+2:Nat)≠n+4),(by lia:(n+3:Nat)≠n+4),(by lia:(n:Nat)≠n+4),(by lia:(n+1:Nat)≠n+4),(by lia:(n+2:Nat)≠n+3),(by lia:(n+2:Nat)≠n),(by lia:(n+2:Nat)≠n+1),
  (by lia:(n+3:Nat)≠n),(by lia:(n+3:Nat)≠n+1),(by lia:(n:Nat)≠n+1)⟩
theorem la_new{n l:Nat}(h:l<n):LA (n+4) (n+3) n (n+1) l:=⟨(by lia:(l:Nat)≠n+4),(by lia:(l:Nat)≠n+3),(by lia:(l:Nat)≠n),(by lia:(l:Nat)≠n+1)⟩
section
variable {X:Cx}
end
end ZT
namespace PU
open L2
section
variable {X:Cx}
end
def Df0(K:AE)(x:Str)(st:Stmt):Prop:=∃f fd,PySem.W.nsIn K mainGlobals x=ξ (ξ (.ref f))/\Fun K x x st f fd
def Df(K:AE)(mg:Str->Υ AB)(x:Str)(st:Stmt):Prop:=∃f fd,Fun K x x st f fd/\mg x=ξ (.ref f)
theorem c4a{K:AE}{x:Str}{st:Stmt}{f:AA}{oc:AB}{od an:Υ AA}{osl:Array (Υ AB)}{kV doc pm cdv ct:AB}(a:PySem.W.nsIn K mainGlobals x=ξ (ξ (.ref f)))
 (l:K.lookup f=ξ ⟨oc,od,.func (PySem.W.fnOf x x (U3 st) (C4 st) (d4 st) .none kV doc pm an cdv ct),osl⟩) (c:PySem.W.codeIn K cdv x=true) (k:PySem.W.keepIn K (.ref f)=true):Df0 K x st:=⟨_,_,a,b75 l c k⟩
theorem Df0.to{K:AE}{h:Heap}{mg:Str->Υ AB}{x:Str}{st:Stmt}(d:Df0 K x st)(X:K.In h)(G:h.Ns mainGlobals mg):Df K mg x st:=by obtain⟨f,fd,a,F⟩:=d;exact⟨f,fd,F,PySem.W.mg_of X G a⟩
theorem S1{N P:List Str}{sc:Scope}(h1:sc.kind= .function:=by rfl)(h2:sc.isCoroutine=false:=by rfl)(h3:sc.isGenerator=false:=by rfl)(h4:N.Nodup:=by decide+kernel)(h5:N.take P.length=P:=by rfl)
 (h6:∀x∈P,sc.names.lookup x=ξ .local\/sc.names.lookup x=ξ .cell:=by decide+kernel) (h7:∀y∈sc.names,y.2≠.free:=by decide+kernel):g8 N P sc:=⟨h1,h2,h3,h4,h5,h6,h7⟩
section
variable {P:AK}{w:AJ}{K:AE}{mg:Str->Υ AB}{base:Heap}
theorem n6{x:Str}{st:Stmt}{N ps:List Str}{k:Nat}{m:MS}(D:Df K mg x st)(S:g8 N ps (d4 st))
 (hi:∀(kV doc pm:AB) (an:Υ AA) (cdv ct:AB) (us:List AB),us.length=ps.length->bindArgs (PySem.W.fnOf x x (U3 st) (C4 st) (d4 st) .none kV doc pm an cdv ct) ⟨us,[]⟩=pure (ps.zip us))
 (hb:∀(f:AA) (cdv:AB) (A:AL) (outer:List Env) (s:AC) (H:Hp) (E:XK),G3 k (A.deeper (envOfC x (d4 st) s.heap.objs.size f cdv))->ESs (a2j CX0 P w K mg base N x (d4 st) f cdv A outer s H E).nox (C4 st) m):
 r8 P w K mg base x ps (k+1) (m8 (N.length - ps.length) m):=
 let ⟨f,fd,F,hm⟩:=D
 ⟨f,fd,b71 F S (hb f),hm,F.kp,F.binds hi⟩
theorem c0C{fa:AA}{st:Stmt}{x:Str}{k:Nat}{g:Λ}(D:Df K mg "law" st)(hfa:mg "law"=ξ (.ref fa))
 (hi:∀(kV doc pm:AB) (an:Υ AA) (cdv ct v:AB),bindArgs (PySem.W.fnOf "law" "law" (U3 st) (C4 st) (d4 st) .none kV doc pm an cdv ct) ⟨[v],[]⟩=pure [(x,v)])
 (main:∀ns:List Int,ns.length<=63->g [.list (ns.map .int)]=ξ (.v (.bool true)))
 (H:∀(base:Heap) (f:AA) (fd:FuncData),K.In base->Fun K "law" "law" st f fd->P4 P w K mg base CX0 k f fd [x] (spP K 1 g)):
 ∃fd:FuncData,(∀(s:AC) (v:AB),BindsTo s fd ⟨[v],[]⟩ [(x,v)])/\∀base:Heap,K.In base->base.Ns mainGlobals mg->P4 P w K mg base CX0 k fa fd [x] (b3p K):=by
 obtain⟨f,fd,F,hm⟩:=D
 have e:=hfa.symm.trans hm
 cases e
 refine⟨fd,λs v=> ?_,λbase kb _=>(H base _ fd kb F).imp (c0D main)⟩
 obtain⟨oc,od,kV,doc,pm,an,cdv,ct,osl,rfl,lk,hcd⟩:=F.ex
 exact .of_eq (hi kV doc pm an cdv ct v)
end
theorem el0{C:List AB->Prop}(h:C [])(us:List AB)(e:us.length=0):C us:=List.length_eq_zero_iff.mp e▸h
theorem el1{C:List AB->Prop}(h:∀a,C [a])(us:List AB)(e:us.length=1):C us:=by
 obtain⟨a,rfl⟩:=List.length_eq_one_iff.mp e;exact h a
theorem elS{n:Nat}{us:List AB}(e:us.length=n+1):∃a t,us=a::t/\t.length=n:=by
 cases us with
 |nil=>cases e
 |cons a t=>exact⟨a,t,rfl,Nat.succ.inj e⟩
theorem el2{C:List AB->Prop}(h:∀a b,C [a,b])(us:List AB)(e:us.length=2):C us:=by
 obtain⟨a,t,rfl,z⟩:=elS e;exact el1 (C:=λt=>C (a::t)) (h a) t z
theorem el3{C:List AB->Prop}(h:∀a b c,C [a,b,c])(us:List AB)(e:us.length=3):C us:=by
 obtain⟨a,t,rfl,z⟩:=elS e;exact el2 (C:=λt=>C (a::t)) (h a) t z
theorem el4{C:List AB->Prop}(h:∀a b c d,C [a,b,c,d])(us:List AB)(e:us.length=4):C us:=by
 obtain⟨a,t,rfl,z⟩:=elS e;exact el3 (C:=λt=>C (a::t)) (h a) t z
abbrev obV(x:Str)(es:List (PV×PV)):PV:= .dict ((.str x,.bool false)::es)
def a7O(f:Str):List (PV×PV)->Υ PV
 |[]=>ζ
 |(.str g,p)::r=>if f==g then ξ p else a7O f r
 |_::_=>ζ
def c1I:List Str->List PV->List (PV×PV)
 |f::fs,q::qs=>(.str f,q)::c1I fs qs
 |_,_=>[]
section
variable {K:AE}{F:Hp}
theorem b1f{f:Str}:∀{es:List (PV×PV)} {fs:List (Str×V)} {p:PV},a3k K F es fs->a7O f es=ξ p->∃v,fs.lookup f=ξ v/\P5 K F p v
 |[],_,_,_,h=>by cases h
 |(k,q)::es,_,p,⟨g,v,t,e,z,r,rt⟩,h=>by
  subst e;subst z;unfold a7O at h;rw [List.lookup_cons];cases hg:f==g with
  |true=>rw [hg] at h;cases h;exact⟨v,rfl,r⟩
  |false=>rw [hg] at h;exact b1f rt h
theorem b2x{f:Str}:∀{es:List (PV×PV)} {fs:List (Str×V)},a3k K F es fs->a7O f es=ζ->fs.lookup f=ζ
 |[],_,h,_=>by cases h;rfl
 |(k,q)::es,_,⟨g,v,t,e,z,r,rt⟩,h=>by
  subst e;subst z;unfold a7O at h;rw [List.lookup_cons];cases hg:f==g with
  |true=>rw [hg] at h;cases h
  |false=>rw [hg] at h;exact b2x rt h
theorem a9j:∀{fs:List Str} {qs:List PV} {vs:List V},u5 K F qs vs->a3k K F (c1I fs qs) (fs.zip vs)
 |[],qs,vs,_=>rfl
 |f::fs,[],vs,h=>by cases h;rfl
 |f::fs,q::qs,vs,⟨v,t,e,r,rt⟩=>by subst e;exact⟨f,v,_,rfl,rfl,r,a9j rt⟩
theorem b8T{x:Str}{es:List (PV×PV)}{v:V}(h:P5 K F (obV x es) v):∃a C dx fs,v= .ref a/\F a=ξ (.ins C dx fs)/\M4 K x C/\a3k K F es fs:=by
 rcases h with⟨a,ys,_,_,kk,w,t,_,z,_⟩|⟨a,ys,_,_,kk,w,t,_,z,_⟩|⟨y,t,e,h⟩|⟨y,m,fs,ho,hf⟩
 ·cases z
 ·cases z
 ·cases e;rcases h with⟨z,_⟩|⟨z,_⟩<;>cases z
 ·obtain⟨g,v',t,e,z,r,rt⟩:=hf;cases e;cases z;rcases ho with⟨rfl,a,C,dx,e,q,n⟩|⟨rfl,_⟩
  ·exact⟨a,C,dx,fs,e,q,n,rt⟩
  ·cases r
end
theorem b9J{H:Hp}{a:AA}{o:HO}(h:H a=ξ o):A5 H a o=H:=by
 funext b;unfold A5;split
 ·rename_i e;rw [e,h]
 ·rfl
theorem a9g{f:Str}{v:V}:∀{gs:List (Str×V)},f∉gs.map (·.1)->a2w f v gs=gs++[(f,v)]
 |[],_=>rfl
 |(g,x)::r,h=>by
  simp only [AT,Ah,not_or] at h;show(if g=f then _ else _)=_
  rw [if_neg λe=>h.1 e.symm,a9g h.2];rfl
def tFl(K:AE):Nat->List Str->TS
 |_,[]=>b9B
 |i,f::r=>b65 (c4J K (a9A 0) (a9A i) f) (tFl K (i+1) r)
theorem b5U{K:AE}{C:AA}(c:Cls K C){a dx:AA}{D:U7}{σ:L2.St}(h0:σ[0]?=ξ (ξ (.ref a))):∀(fs:List Str) (i:Nat) (gs:List (Str×V)) (ws:List V) (H:Hp),
 (∀f∈fs,G5 K C f)->fs.Nodup->(∀f∈fs,f∉gs.map (·.1))->gs.length+fs.length<=1000->ws.length=fs.length->(∀j w,ws[j]?=ξ w->σ[i+j]?=ξ (ξ w))->H a=ξ (.ins C dx gs)->
 D.nx σ (A5 H a (.ins C dx (gs++fs.zip ws)))->tFl K i fs D σ H
 |[],i,gs,ws,H,_,_,_,_,_,_,hH,k=>by
  rw [List.zip_nil_left,Al,b9J hH] at k;exact k
 |f::fs,i,gs,ws,H,hn,nd,hd,hl,hw,hs,hH,k=>by
  cases ws with
  |nil=>cases hw
  |cons w ws=>
   have hl':gs.length+(fs.length+1)<=1000:=hl;refine⟨w,hs 0 w rfl,.ref a,h0,a,C,dx,gs,rfl,hH,c,hn f AZ,by lia, ?_⟩
   have hp:=a9g (v:=w) (hd f AZ);rw [hp];rw [List.nodup_cons] at nd;refine b5U c h0 fs (i+1) (gs++[(f,w)]) ws _ (λg hg=>hn g (Af _ hg)) nd.2 (λg hg=> ?_) (by simp only [AQ,AO,AX];lia) (Nat.succ.inj hw) (λj u hj=> ?_) p9 ?_
   ·simp only [Ax,AT,Ae,Av,List.mem_singleton,not_or];exact⟨hd g (Af _ hg),λe=>nd.1 (e▸hg)⟩
   ·have:=hs (j+1) u (by simpa using hj)
    rwa [show i+(j+1)=i+1+j by lia] at this
   ·rw [a8a,List.append_assoc];exact k
def spI(C:AA)(fs:List Str):Sp:=λvs H Q _=>∃a dx ws,vs= .ref a::ws/\ws.length=fs.length/\H a=ξ (.ins C dx [])/\Q .non (A5 H a (.ins C dx (fs.zip ws)))
theorem c2I{P:AK}{w:AJ}{K:AE}{mg:Str->Υ AB}{base:Heap}{qual:Str}{st:Stmt}{f C:AA}{fd:FuncData}{ps fs:List Str}{k:Nat}(F:Fun K "__init__" qual st f fd)(S:g8 ps ps (d4 st))(hl:ps.length=fs.length+1)
 (c:Cls K C) (na:∀f∈fs,G5 K C f) (nd:fs.Nodup) (hs:fs.length<=1000)
 (hb:∀(cdv:AB) (A:AL) (outer:List Env) (s:AC) (H:Hp) (E:XK),G3 k (A.deeper (envOfC qual (d4 st) s.heap.objs.size f cdv))->PSs (a2j CX0 P w K mg base ps qual (d4 st) f cdv A outer s H E).nox (C4 st) (tFl K 1 fs)):
 P4 P w K mg base CX0 (k+1) f fd ps (spI C fs):=by
 refine F.ok S (λvs H Q E h=> ?_) (λcdv A outer s H vs Q E hr h=> ?_)
 ·obtain⟨a,dx,ws,rfl,h2,_⟩:=h
  rw [AO,h2,hl]
 ·obtain⟨a,dx,ws,rfl,h2,hH,q⟩:=h
  refine⟨_,hb cdv A outer s H E hr, ?_⟩
  refine b5U (σ:=a1s ps (.ref a::ws)) c rfl fs 1 [] ws H na nd (λ_ _ z=>nomatch z) (by simpa using hs) h2 (λj u hj=> ?_) hH q
  unfold L2.a1s
  rw [BB (by rw [AY,AO];have:=(Au.mp hj).1;lia),Nat.add_comm,AT,List.getElem?_cons_succ,Aw,hj]
  rfl
def O7(P:AK)(w:AJ)(K:AE)(mg:Str->Υ AB)(base:Heap)(x:Str)(fs:List Str)(k:Nat):Prop:=
 ∃C f fd ps,Mk K C f/\P4 P w K mg base CX0 k f fd ps (spI C fs)/\mg x=ξ (.ref C)/\V5 K fd ps []/\M4 K x C
def a33(x:Str)(fs:List Str)(m:MA):M:=λρ=>(m ρ).bind λqs=>ξ (.v (obV x (c1I fs qs)))
section
variable {X:Cx}
theorem a3J{k k':Nat}{fs:List Str}{x:Str}{p pos:Pos}{e:AF}{es:List AF}{m:MA}
 (d:O7 X.prog X.w X.K X.mg X.base x fs k) (hr:G3 k' X.A) (hk:k+1<=k') (hg:Gl X x) (hn:∀ρ qs,m ρ=ξ qs->qs.length=fs.length) (ha:EA X (e::es) m)
 (hdb:Δ x:=by decide) (he:Ψ e es X.env:=by rfl) (hpl:Φ₁ pos es X.env:=by rfl):
 EE X (.Call (.Name x p) (e::es) [] pos) (a33 x fs m):=by
 obtain⟨C,f,fd,ps,M,G,hm,hb,nm⟩:=d
 refine B1 (c07 M G (hr.mono hk) hg hm hb .nil b3f ha hdb he hpl) λσ H Q h0=>z9 h0 λF ρ r en em kk=> ?_
 obtain⟨qs,e1,e2⟩:=bind_some em
 cases e2
 refine⟨F,ρ,qs,en,e1,λvs F1 H1 x1 rl=> ?_⟩
 intro y dx hy hdx hne
 refine⟨y,dx,vs,by rw [Al],by rw [rl.length,hn _ _ e1],p9,rfl, ?_⟩
 rw [a8a]
 have x2:Ext F1 H1 F1 (A5 H1 dx (.own y)):=Ext.layH x1.fh hdx
 have hy2:A5 H1 dx (.own y) y=ζ:=by rw [l6 λz=>hne z.symm];exact hy
 have x3:Ext F1 (A5 H1 dx (.own y)) (A5 F1 y (.ins C dx (fs.zip vs))) (A5 (A5 H1 dx (.own y)) y (.ins C dx (fs.zip vs))):=Ext.lay x2.fh hy2
 refine kk _ _ _ (B5.trans (x1.trans x2) (B5.val x3 ?_))
 refine .inr (.inr (.inr ⟨x,.bl false,fs.zip vs,.inl ⟨rfl,y,C,dx,rfl,p9,nm⟩,x,.bl false,_,rfl,rfl,rfl, ?_⟩))
 exact a3k.mono x3.f _ (a9j rl)
def a0N(K:AE)(tab:List Str)(f:Str):Prop:=∀x,tab.contains x=true->∀C,M4 K x C->Cls K C/\G5 K C f
def D0(tab:List Str)(f:Str)(r:g0):Υ g0:=match r with
 | .v (.dict ((.str x,.bool false)::es))=>if tab.contains x=true then(a7O f es).map .v else ζ
 |_=>ζ
theorem C9{tab:List Str}{f:Str}{e:AF}{m:M}{pos:Pos}(T:a0N X.K tab f)(ha:EE X e m)(hb:attributeBase e f X.env (eval e X.env)=eval e X.env:=by rfl):EE X (.Attribute e f pos) (m1 (D0 tab f) m):=
 B1 (c3r ha hb) λσ H Q h0=>z9 h0 λF ρ r en em k=>by
  obtain⟨rx,e1,e2⟩:=bind_some em;refine⟨F,ρ,rx,en,e1,λv F1 H1 o=> ?_⟩;unfold D0 at e2;split at e2
  ·rename_i x es;split at e2
   ·rename_i hc;cases hp:a7O f es with
    |none=>rw [hp] at e2;cases e2
    |some q=>
     rw [hp] at e2;cases e2;obtain⟨a,C,dx,fs,rfl,ha,nm,hr⟩:=b8T o.rep;obtain⟨v,hl,rv⟩:=b1f hr hp;obtain⟨c,n⟩:=T x hc C nm;exact⟨a,C,dx,fs,v,rfl,o.x.fh _ _ ha,c,n,hl,k v F1 H1 (B5.val o.x rv)⟩
   ·cases e2
  ·cases e2
def a7Z(X:Cx)(m:Str)(n k':Nat)(tab:List (Str×(Λ))):Prop:=∀x g,tab.lookup x=ξ g->∀C,M4 X.K x C->∃f fd ps k,Cls X.K C/\c3Z X.K C m f/\P4 X.prog X.w X.K X.mg X.base CX0 k f fd ps (spP X.K ps.length g)/\k<=k'/\V5 X.K fd ps []/\ps.length=n+1
def R8(P:AK)(w:AJ)(K:AE)(mg:Str->Υ AB)(base:Heap)(f:AA)(ps:List Str)(k:Nat)(g:Λ):Prop:=
 ∃fd,P4 P w K mg base CX0 k f fd ps (spP K ps.length g)/\PySem.W.isFn K (.ref f)=true/\PySem.W.keepIn K (.ref f)=true/\V5 K fd ps []
structure KC(K:AE)(x:Str)(C:AA):Prop where
 named:M4 K x C
 cls:Cls K C
theorem M8{m:Str}{n k':Nat}:a7Z X m n k' []:=λ_ _ h=>nomatch h
theorem d5{m:Str}{n k k':Nat}{x:Str}{f C:AA}{ps:List Str}{g:Λ}{t:List (Str×(Λ))}(d:R8 X.prog X.w X.K X.mg X.base f ps k g)(c:KC X.K x C)(h:PySem.W.findIn X.K (.ref C) m=ξ (ξ (.ref f)))(hk:k<=k')(hn:ps.length=n+1)(T:a7Z X m n k' t):a7Z X m n k' ((x,g)::t):=λy g' q D nm=>by
 rw [List.lookup_cons] at q;split at q
 ·rename_i z;cases q;rw [beq_iff_eq.mp z] at nm;cases nm.uniq c.named;obtain⟨fd,G,h1,h2,h3⟩:=d;exact⟨f,fd,ps,k,c.cls,⟨h,h1,h2⟩,G,hk,h3,hn⟩
 ·exact T y g' q D nm
def a1k(tab:List (Str×(Λ)))(m:Str)(mo:M)(ma:MA):M:=λρ=>(mo ρ).bind λr=>match r with
 | .v (.dict ((.str x,.bool false)::es))=>if(a7O m es).isNone=true then(tab.lookup x).bind λg=>(ma ρ).bind λqs=>g (obV x es::qs) else ζ
 |_=>ζ
theorem c0K{tab:List (Str×(Λ))}{m:Str}{mo:M}{ma:MA}{ρ:b9}{r:g0}(h:a1k tab m mo ma ρ=ξ r):∃x es g qs,mo ρ=ξ (.v (obV x es))/\a7O m es=ζ/\tab.lookup x=ξ g/\ma ρ=ξ qs/\g (obV x es::qs)=ξ r:=by
 unfold a1k at h;obtain⟨r1,e1,h⟩:=bind_some h;split at h
 ·rename_i x es;split at h
  ·rename_i hn;obtain⟨g,e2,h⟩:=bind_some h;obtain⟨qs,e3,h⟩:=bind_some h;exact⟨x,es,g,qs,e1,Option.isNone_iff_eq_none.mp hn,e2,e3,h⟩
  ·cases h
 ·cases h
theorem a0D{tab:List (Str×(Λ))}{m:Str}{k':Nat}{o:AF}{mo:M}{pl:Sem Bool}{apos pos:Pos}(T:a7Z X m 0 k' tab)(hr:G3 k' X.A)(ho:EE X o mo)
 (ht:eval (.Call (.Attribute o m apos) [] [] pos) X.env=(do
  let ov<-eval o X.env
  standAt apos.atName
  let (f,first)<-holding [ov] (getMethod ov m pl)
  callWith pos f first (backTo pos (AI [] X.env)) (backToKw pos (keywordEach [] X.env))):=by rfl):
 EE X (.Call (.Attribute o m apos) [] [] pos) (a1k tab m mo b8):=by
 intro pins s σ H Q I ⟨F,ρ,r,env,hm,k⟩
 obtain⟨x,fe,g,qs,e1,e2,e3,e4,e5⟩:=c0K hm
 cases e4
 refine PySem.W.methodCall_KW (pl:=pl) (M9 (ho pins s σ H _ I ⟨F,ρ,_,env,e1,λv F1 H1 o1=>(⟨F1,o1⟩:∃F1,B5 X.K F H F1 H1 v (.v (obV x fe)))⟩) λu s1 h0=> ?_) ht;obtain⟨v,H1,I1,rx,F1,o1⟩:=h0
 obtain⟨a,C,dx,fs,rfl,ha',nm,hf⟩:=b8T o1.rep
 obtain rfl:u=Value.ref a:=rx
 obtain⟨f,fd,ps,kk,c,hM,G,hk,hb,hl⟩:=T x g e3 C nm
 refine b4c I1 (o1.x.fh _ _ ha') c hM (b2x hf e2) ?_
 refine PySem.W.callWith_K0 (first:=[.ref a]) I1.kIn hM.kp ?_
 refine b4M (us:=[.ref a]) (vs:=[.ref a]) (dvs:=[]) (ds:=[]) (sp:=spP X.K ps.length g) (E:=E0) G (hr.mono hk) hb .nil b3f I1 (.cons rfl .nil) ?_
 show spP X.K ps.length g ([.ref a]++[]) H1 Q E0
 rw [Al]
 exact⟨F1,[obV x fe],r,o1.x.fh,⟨.ref a,[],rfl,o1.rep,rfl⟩,by rw [hl];rfl,e5,λv F3 H3 o=>k v F3 H3 (B5.trans o1.x o)⟩
end
section
variable {P:AK}{w:AJ}{K:AE}{mg:Str->Υ AB}{base:Heap}
def Dm(K:AE)(x qual:Str)(st:Stmt)(f:AA):Prop:=PySem.W.isFn K (.ref f)=true/\∃fd,Fun K x qual st f fd
theorem c4b{x qual:Str}{st:Stmt}{f:AA}{oc:AB}{od an:Υ AA}{osl:Array (Υ AB)}{kV doc pm cdv ct:AB}
 (l:K.lookup f=ξ ⟨oc,od,.func (PySem.W.fnOf x qual (U3 st) (C4 st) (d4 st) .none kV doc pm an cdv ct),osl⟩) (c:PySem.W.codeIn K cdv qual=true) (k:PySem.W.keepIn K (.ref f)=true) (i:PySem.W.isFn K (.ref f)=true):Dm K x qual st f:=⟨i,_,b75 l c k⟩
theorem P0{x qual:Str}{st:Stmt}{N ps:List Str}{k:Nat}{m:MS}{f:AA}(D:Dm K x qual st f)(S:g8 N ps (d4 st))
 (hi:∀(kV doc pm:AB) (an:Υ AA) (cdv ct:AB) (us:List AB),us.length=ps.length->bindArgs (PySem.W.fnOf x qual (U3 st) (C4 st) (d4 st) .none kV doc pm an cdv ct) ⟨us,[]⟩=pure (ps.zip us))
 (hb:∀(cdv:AB) (A:AL) (outer:List Env) (s:AC) (H:Hp) (E:XK),G3 k (A.deeper (envOfC qual (d4 st) s.heap.objs.size f cdv))->ESs (a2j CX0 P w K mg base N qual (d4 st) f cdv A outer s H E).nox (C4 st) m):
 R8 P w K mg base f ps (k+1) (m8 (N.length - ps.length) m):=
 let ⟨i,fd,F⟩:=D
 ⟨fd,b71 F S hb,i,F.kp,F.binds hi⟩
theorem a0J{x qual:Str}{st:Stmt}{ps fs:List Str}{k:Nat}{f C:AA}(D:Dm K "__init__" qual st f)(S:g8 ps ps (d4 st))(hl:ps.length=fs.length+1)(c:KC K x C)(hm:mg x=ξ (.ref C))(M:Mk K C f)(na:∀f∈fs,G5 K C f)(nd:fs.Nodup)(hs:fs.length<=1000)
 (hi:∀(kV doc pm:AB) (an:Υ AA) (cdv ct:AB) (us:List AB),us.length=ps.length->bindArgs (PySem.W.fnOf "__init__" qual (U3 st) (C4 st) (d4 st) .none kV doc pm an cdv ct) ⟨us,[]⟩=pure (ps.zip us))
 (hb:∀(cdv:AB) (A:AL) (outer:List Env) (s:AC) (H:Hp) (E:XK),G3 k (A.deeper (envOfC qual (d4 st) s.heap.objs.size f cdv))->PSs (a2j CX0 P w K mg base ps qual (d4 st) f cdv A outer s H E).nox (C4 st) (tFl K 1 fs)):
 O7 P w K mg base x fs (k+1):=
 let ⟨i,fd,F⟩:=D
 ⟨C,f,fd,ps,M,c2I F S hl c.cls na nd hs hb,hm,F.binds hi,c.named⟩
end
theorem P8{K:AE}{f:Str}:a0N K [] f:=λ_ h=>nomatch h
theorem B6{K:AE}{f x:Str}{C:AA}{t:List Str}(c:KC K x C)(n:G5 K C f)(h:a0N K t f):a0N K (x::t) f:=λy q D nm=>by
 rw [List.contains_cons,Bool.or_eq_true] at q;rcases q with q|q
 ·rw [beq_iff_eq.mp q] at nm;cases nm.uniq c.named;exact⟨c.cls,n⟩
 ·exact h y q D nm
structure KI(K:AE)(C:AA):Prop where
 ha:PySem.W.findIn K (.ref C) "__class__"=ξ (ξ (.builtin "object.__class__"))
 hn:PySem.W.specialIn K (.builtin "object.__class__") "__get__"=ξ (ξ (.builtin "getset_descriptor.__get__"))
 htk:PySem.W.takesIn K (.builtin "object.__class__")=ξ true
 hm:PySem.W.mroIn K C (.type "object")=ξ true
def U8(K:AE)(cv:AB)(tab:List (Str×Bool)):Prop:=∀x b,tab.lookup x=ξ b->∀C,M4 K x C->Cls K C/\KI K C/\PySem.W.kitOne K (.ref C) cv=ξ b
theorem a8N{K:AE}{cv:AB}:U8 K cv []:=λ_ _ h=>nomatch h
theorem b2K{K:AE}{cv:AB}{x:Str}{b:Bool}{C:AA}{t:List (Str×Bool)}(c:KC K x C)(i:KI K C)(e:PySem.W.kitOne K (.ref C) cv=ξ b)(h:U8 K cv t):U8 K cv ((x,b)::t):=λy b' q D nm=>by
 rw [List.lookup_cons] at q;split at q
 ·rename_i z;cases q;rw [beq_iff_eq.mp z] at nm;cases nm.uniq c.named;exact⟨c.cls,i,e⟩
 ·exact h y b' q D nm
def a58(tab:List (Str×Bool))(r:g0):Υ g0:=match r with
 | .v (.dict ((.str x,.bool false)::_))=>(tab.lookup x).map λb=> .v (.bool b)
 |_=>ζ
section
variable {X:Cx}
theorem a11{tab:List (Str×Bool)}{cv:AB}{cV:V}{e:AF}{n:Str}{m:M}{p p2 pos:Pos}(T:U8 X.K cv tab)(rv:∀u,y4 cV u->u=cv)(hg:Gl X "isinstance")(hm:X.mg "isinstance"=ζ)(ha:EE X e m)(hT:PE X (.Name n p2) (tC cV))
 (he:AI [e,.Name n p2] X.env=(false,eval e X.env)::AI [.Name n p2] X.env:=by rfl) (he2:AI [.Name n p2] X.env=(false,eval (.Name n p2) X.env)::AI [] X.env:=by rfl) (hpl:(backTo pos (AI [.Name n p2] X.env)).any (·.1)=false:=by rfl)
 (hv:bootBuiltins "isinstance"=ξ (.builtin "isinstance"):=by rfl):
 EE X (.Call (.Name "isinstance" p) [e,.Name n p2] [] pos) (m1 (a58 tab) m):=by
 have hc:R7 X (.builtin "isinstance") (λxs H Q=>∃a C dx fs b,xs=[.ref a,cV]/\H a=ξ (.ins C dx fs)/\Cls X.K C/\KI X.K C/\PySem.W.kitOne X.K (.ref C) cv=ξ b/\Q (.bl b) H):=by
  intro pins s σ H xs us Q I rv0 h;obtain⟨a,C,dx,fs,b,rfl,h1,c,ki,kk,q⟩:=h;obtain⟨u,u2,rfl,ru,ru2⟩:∃u1 u2,us=[u1,u2]/\y4 (.ref a) u1/\y4 cV u2:=by
   cases rv0 with
   |cons p q=>
    cases q with
    |cons p' q'=>
     cases q';exact⟨_,_,rfl,p,p'⟩
  cases rv _ ru2;exact b6n I ru (.ins h1 c ki.ha ki.hn ki.htk ki.hm) kk λtk=>⟨.bl _,H,I.tok tk,rfl,q⟩
 exact B1 (a2u hc hg hm hv (z7 ha (z7 hT S5 he2) he) (by decide) (by decide) he hpl) λσ H Q h0=>z9 h0 λF ρ r h1 h2 k=>by
  ext aj
  unfold a58 at h2;split at h2
  ·rename_i x es;cases hl:tab.lookup x with
   |none=>rw [hl] at h2;cases h2
   |some b=>
    rw [hl] at h2;cases h2;obtain⟨a,C,dx,fs,rfl,ha,nm,hr⟩:=b8T o.rep;obtain⟨c,ki,kk⟩:=T x b hl C nm;exact⟨a,C,dx,fs,b,rfl,o.x.fh _ _ ha,c,ki,kk,k _ F1 H1 (B5.val o.x rfl)⟩
  ·cases h2
end
def a0x(st:Stmt)(j:Nat):Stmt:=match st with
 | .ClassDef _ _ _ body _ _ _ _ _ _ _=>body.getD j st
 |_=>st
open L2 PySem.W
section
variable {prog:AK}{w:AJ}{A:AL}{E:AB->AC->Prop}{s:AC}
end
end PU
namespace PU
open L2 PySem.W
section
variable {prog:AK}{w:AJ}{A:AL}{E:AB->AC->Prop}{s:AC}
end
section
variable {prog:AK}{w:AJ}{A:AL}{E:AB->AC->Prop}{s:AC}{it a:AA}{i ep:Nat}{es:Array (Int×AB)}
end
section
variable {prog:AK}{w:AJ}{A:AL}{E:AB->AC->Prop}{s:AC}{a:AA}{ep:Nat}{es:Array (Int×AB)}
end
section
variable {X:Cx}{pins:List (AA×Obj)}{σ:L2.St}{H:Hp}{s:AC}
end
open L2
theorem b4Z(k:Q8):∀xs:List (Q8×V),a4s (xs.map s1) [k]=a4s xs k
 |[]=>rfl
 |x::r=>by
  rw [AT]
  by_cases c:x.1=k
  ·rw [a4u (p:=x) c,a4u (p:=s1 x) (by show [x.1]=[k];rw [c])];rfl
  ·rw [a4t (p:=x) c,a4t (p:=s1 x) (by show ¬[x.1]=[k];intro h;exact c (List.cons.inj h).1),b4Z k r]
theorem b8q{K:AE}{F H:Hp}{r:g0}{x:Str}{v:V}(e:c2W r=ξ x)(h:R0 K F H v r):v=kV (.inr x):=by
 unfold c2W at e;split at e
 ·cases e;exact h
 ·cases e
section
variable {X:Cx}
end
section
variable {prog:AK}{w:AJ}{K:Type}[DecidableEq K]{knd:KeyKind prog w K}{A:AL}{E:AB->AC->Prop}{s:AC}
end
section
variable {prog:AK}{w:AJ}{A:AL}{E:AB->AC->Prop}{s:AC}
end
end PU
namespace TS
open L2 PU
section
variable {prog:AK}{w:AJ}{A:AL}{E:AB->AC->Prop}{s:AC}
variable {κ:SortKind}{S:Heap->Keyed->Prop}{R:Heap->Keyed->Keyed->Bool}
end
end TS
namespace PU
open L2 PySem.W
section
variable {X:Cx}{pins:List (AA×Obj)}{σ:L2.St}{H H':Hp}{s:AC}{h':Heap}
end
section
variable {X:Cx}
end
open L2
section
variable {X:Cx}{pins:List (AA×Obj)}{σ:L2.St}{H:Hp}{s:AC}{a:AA}{kvs:List (Q8×V)}{k:Q8}{v:V}{u r:AB}{A:AL}{E:AB->AC->Prop}
end
section
variable {X:Cx}{pins:List (AA×Obj)}{σ:L2.St}{A:AL}{R:Result->AC->Prop}
end
section
variable {X:Cx}
end
def c4v(kvs:Γ):Bool:=kvs.all λkv=>kv.1.length==1
def tvw(i:Nat)(ρ:b9):Υ (Γ):=match ρ[i]? with
 |some (ξ (.v (.dict es)))=>(unE es).bind λkvs=>if c4v kvs=true then ξ kvs else ζ
 |_=>ζ
theorem c3R{K:AE}{F H:Hp}{σ:L2.St}{ρ:b9}(en:V6 K F H σ ρ){i:Nat}{kvs:Γ}(h:tvw i ρ=ξ kvs):∃a xs,σ[i]?=ξ (ξ (.ref a))/\F a=ξ (.dK xs)/\a3p K F kvs (xs.map s1):=by
 unfold tvw at h;split at h
 ·rename_i es eo;obtain⟨kvs',e1,h⟩:=bind_some h;split at h
  ·rename_i ho;cases h;obtain⟨v,hv,hr⟩:=en.at_ i _ eo;rcases hr with⟨a,ys,rfl,ha,hr⟩|⟨a,xs,rfl,ha,hr⟩|⟨x,t,e,_⟩|⟨x,m,fs,_,hr⟩
   ·obtain⟨kvs',h1,h2⟩:=b1W hr;rw [e1] at h1;cases h1;exact⟨a,ys,hv,ha,h2⟩
   ·exfalso
    obtain⟨kvs',h1,h2⟩:=b1W hr;rw [e1] at h1;cases h1;cases kvs with
    |nil=>cases h2
    |cons f fs=>
     obtain⟨k,p⟩:=f;obtain⟨v,t,e,_⟩:=h2;cases e;simp [c4v] at ho
   ·subst e;simp [unE] at e1
   ·cases es with
    |nil=>cases hr
    |cons f es=>obtain⟨k,p⟩:=f;obtain⟨_,_,_,_,z,_⟩:=hr;subst z;simp [unE] at e1
  ·cases h
 ·cases h
section
variable {X:Cx}
end
section
variable {K:AE}{F:Hp}{a:AA}{xs:List (Q8×V)}
end
section
variable {X:Cx}
end
section
variable {prog:AK}{w:AJ}{A:AL}{E:AB->AC->Prop}{s:AC}{z TI TO i1 i2:AA}{n1 n2 i:Nat}{P1 P2:Nat->AB->Prop}{St1 St2:Nat->Heap->Prop}{a b:AB}
end
section
variable {X:Cx}
end
section
variable {prog:AK}{w:AJ}{K:Type}[DecidableEq K]{knd:KeyKind prog w K}{A:AL}{E:AB->AC->Prop}{s:AC}
end
section
variable {X:Cx}
end
section
variable {X:Cx}{tg:AF}
end
section
variable {prog:AK}{w:AJ}{A:AL}{E:AB->AC->Prop}{s:AC}
end
end PU
namespace PU
open L2
section
variable {X:Cx}
def a7v:List PV->Υ (List Int)
 |[]=>ξ []
 | .int i::r=>(a7v r).map (i::·)
 |_=>ζ
def a7p(is:List Int):Int:=is.getD (argBest (λi j=>decide (is.getD i 0>is.getD j 0)) (is.length - 1)) 0
def b8a(x:g0):Υ g0:=match x with
 | .ow (.lst ps)=>(a7v ps).bind λis=>if 0<is.length then ξ (.v (.int (a7p is))) else ζ
 |_=>ζ
theorem a5x{K:AE}{F:Hp}:∀{ps:List PV} {is:List Int} {xs:List V},a7v ps=ξ is->u5 K F ps xs->xs=is.map V.int
 |[],_,_,h,r=>by cases h;cases r;rfl
 |p::ps,is,xs,h,⟨v,vs,e,rv,rt⟩=>by
  subst e;cases p with
  |int z=>
   cases hs:a7v ps with
   |none=>simp [a7v,hs] at h
   |some is'=>
    have h:is=z::is':=by simpa [a7v,hs] using h.symm
    subst h;have e1:=a5x hs rt;cases rv;rw [e1];rfl
  |_=>simp [a7v] at h
theorem a5S:∀{is:List Int} {its:List AB},y0 (is.map V.int) its->∃xs:List (Int×Tok),xs.map (·.1)=is/\its=xs.map λp=>Value.int p.1 p.2
 |[],_,.nil=>⟨[],rfl,rfl⟩
 |i::is,_,.cons r t=>by
  obtain⟨xs,h1,h2⟩:=a5S t;obtain⟨u,rfl⟩:=r;exact⟨(i,u)::xs,by rw [AT,h1],by rw [AT,h2]⟩
theorem b9Z(hc:X.calm=true):R7 X (.builtin "max") (rC1 X.K b8a):=by
 ext f
 ext bi
 unfold b8a at h2;split at h2
 ·rename_i ps;obtain⟨is,e1,h2⟩:=bind_some h2;split at h2
  ·rename_i c;cases h2;obtain⟨a,ys,rfl,fa,ha,rl⟩:=h1;cases ru;have ey:=a5x e1 rl;subst ey;obtain⟨_,its,n,vv,e⟩:=(show F9 X.prog X.w H s.heap a (.lst (is.map V.int)) from I.hok a _ ha);obtain⟨zs,hz1,hz2⟩:=a5S vv;have hit:its.toArray=intItems zs.toArray:=by rw [hz2];simp [intItems]
   have hat:∀i,numAt zs.toArray i=is.getD i 0:=λi=>by
    unfold numAt;rw [<-hz1,List.getD_eq_getElem?_getD,Aw];simp
   have hlen:zs.length=is.length:=by rw [<-hz1,AY]
   refine max_intList (l:=a) (xs:=zs.toArray) (I.ok.hd hc) ⟨_,e,rfl,n,by rw [hit]⟩ (by simp;lia) λv h' tk hv hk=> ?_
   obtain⟨t,rfl⟩:=intItems_at hv;have hb:numAt zs.toArray (argBest (λi j=>decide (numAt zs.toArray i>numAt zs.toArray j)) (zs.toArray.size - 1))=a7p is:=by
    unfold a7p;rw [hat,show zs.toArray.size=is.length by simp [hlen]]
    congr 2
    funext i j
    rw [hat,hat]
   rw [hb];exact⟨.int (a7p is),H,I.kept (t':=tk) hk,⟨t,rfl⟩,k _ F H (B5.here s0 rfl)⟩
  ·cases h2
 ·cases h2
theorem C8{st:List Stmt}:ESs X st (λ_=>ζ):=λpins s σ H D I h=>by
 obtain⟨F0,H0,F,ρ,fl,so,e,fin⟩:=h;cases e
def G2(x y z:g0):Υ g0:=match x,y,z with
 | .v (.str a),.v (.str b),.v (.int i)=>ξ (.v (.bool (fromIndex a.length i+b.length<=a.length && Builtin.Str.subAt a b (fromIndex a.length i))))
 |_,_,_=>ζ
def m3(g:g0->g0->g0->Υ g0)(a b c:M):M:=λρ=>(a ρ).bind λx=>(b ρ).bind λy=>(c ρ).bind λz=>g x y z
theorem b6A:MtR X "str.startswith" (λx xs H Q=>∃F y z rx ry rz r,xs=[y,z]/\u3 F H/\R0 X.K F H x rx/\R0 X.K F H y ry/\R0 X.K F H z rz/\G2 rx ry rz=ξ r/\∀v F' H',B5 X.K F H F' H' v r->Q v H'):=by
 intro pins s σ H x xs v us Q I rx rv h;obtain⟨F,y,z,ra,rb,rc,r,rfl,s0,h1,h2,h3,h4,k⟩:=h;cases rv with
 |cons ru rv=>
  cases rv with
  |cons ru2 rv=>
   cases rv;unfold G2 at h4;split at h4
   ·ext ah
    exact call_gives PySem.F.slot_str_startswith (typeIs_str _ _ _) PySem.F.entry_str_startswith (PySem.F.args_str_startswith_3 _ _ _) (gives_str_startswith_from a b i t t2 t3) ⟨.bl _,H,I,rfl,k _ F H (B5.here s0 rfl)⟩
   ·cases h4
theorem Z4{o e f:AF}{m n l:M}{apos cpos:Pos}(ho:EE X o m)(ha:EE X e n)(hb:EE X f l)
 (hbase:attributeBase o "startswith" X.env (eval o X.env)=eval o X.env:=by rfl)
 (hfew:((backTo cpos (AI [e,f] X.env)).all (λx=> !x.1)&&(backToKw cpos (keywordEach [] X.env)).all (λx=>x.1.isSome)
  && decide ([e,f].length+([]:List Keyword).length+(if([]:List Keyword).isEmpty then 0 else 1)<30))=true:=by rfl)
 (hline:(apos.endLine==cpos.line)=true:=by rfl) (hs:AI [e,f] X.env=(false,eval e X.env)::AI [f] X.env:=by rfl) (hs2:AI [f] X.env=(false,eval f X.env)::AI [] X.env:=by rfl) (hplain:(backTo cpos (AI [f] X.env)).any (·.1)=false:=by rfl):
 EE X (.Call (.Attribute o "startswith" apos) [e,f] [] cpos) (m3 G2 m n l):=
 B1 (b0G PySem.F.plainAttrs_str PySem.F.slot_str_startswith PySem.F.type_str_startswith b6A ho (z7 ha (z7 hb S5 hs2) hs) hbase hfew hline hs hplain) λσ H Q h0=>z9 h0 λF ρ r he hm k=>by
  ext g
  unfold G2 at hm;split at hm
  ·cases o1.rep;rfl
  ·cases hm
end
end PU
namespace PU
open L2 PySem.W
section
variable {prog:AK}{w:AJ}{A:AL}{E:AB->AC->Prop}{s:AC}
end
section
variable {X:Cx}
def b5d(a b:Str)(i:Int):Int:=match Builtin.Str.occurrences a b (fromIndex a.length i) a.length 1 with
 |k::_=>(k:Int)
 |[]=> -1
def b0q(x y z:g0):Υ g0:=match x,y,z with
 | .v (.str a),.v (.str b),.v (.int i)=>ξ (.v (.int (b5d a b i)))
 |_,_,_=>ζ
theorem c0L:MtR X "str.find" (λx xs H Q=>∃F y z rx ry rz r,xs=[y,z]/\u3 F H/\R0 X.K F H x rx/\R0 X.K F H y ry/\R0 X.K F H z rz/\b0q rx ry rz=ξ r/\∀v F' H',B5 X.K F H F' H' v r->Q v H'):=by
 intro pins s σ H x xs v us Q I rx rv h;obtain⟨F,y,z,ra,rb,rc,r,rfl,s0,h1,h2,h3,h4,k⟩:=h;cases rv with
 |cons ru rv=>
  cases rv with
  |cons ru2 rv=>
   cases rv;unfold b0q at h4;split at h4
   ·ext ah
    exact call_gives PySem.F.slot_str_find (typeIs_str _ _ _) PySem.F.entry_str_find (PySem.F.args_str_find_3 _ _ _) (gives_str_find_from a b i t t2 t3) ⟨.int _,H,I.tok _,⟨_,rfl⟩,k _ F H (B5.here s0 rfl)⟩
   ·cases h4
theorem b96{o e f:AF}{m n l:M}{apos cpos:Pos}(ho:EE X o m)(ha:EE X e n)(hb:EE X f l)
 (hbase:attributeBase o "find" X.env (eval o X.env)=eval o X.env:=by rfl)
 (hfew:((backTo cpos (AI [e,f] X.env)).all (λx=> !x.1)&&(backToKw cpos (keywordEach [] X.env)).all (λx=>x.1.isSome)
  && decide ([e,f].length+([]:List Keyword).length+(if([]:List Keyword).isEmpty then 0 else 1)<30))=true:=by rfl)
 (hline:(apos.endLine==cpos.line)=true:=by rfl) (hs:AI [e,f] X.env=(false,eval e X.env)::AI [f] X.env:=by rfl) (hs2:AI [f] X.env=(false,eval f X.env)::AI [] X.env:=by rfl) (hplain:(backTo cpos (AI [f] X.env)).any (·.1)=false:=by rfl):
 EE X (.Call (.Attribute o "find" apos) [e,f] [] cpos) (m3 b0q m n l):=
 B1 (b0G PySem.F.plainAttrs_str PySem.F.slot_str_find PySem.F.type_str_find c0L ho (z7 ha (z7 hb S5 hs2) hs) hbase hfew hline hs hplain) λσ H Q h0=>z9 h0 λF ρ r he hm k=>by
  ext g
  unfold b0q at hm;split at hm
  ·cases o1.rep;rfl
  ·cases hm
def b5B(i:Nat)(mk md:M):M:=λρ=>((mk ρ).bind c2W).bind λx=>((md ρ).bind g0.toVal).bind λd=>(tvw i ρ).bind λkvs=>ξ (.v ((b1Y kvs [.inr x]).getD d))
theorem b6c(i:Nat){x:Str}{p apos cpos:Pos}{ek f:AF}{mk:M}{md:M}(hu:X.A.units+64<cLine)(hx:PE X (.Name x p) (a9A i))(hi:EE X ek mk)(hf:EE X f md)
 (m:M2 X (.Name x p) "get" apos ek f cpos:=by exact⟨rfl,rfl,rfl,rfl⟩):EE X (.Call (.Attribute (.Name x p) "get" apos) [ek,f] [] cpos) (b5B i mk md):=
 B1 (b85 (by lia) hx hi hf m) λσ H Q h0=>z9 h0 λF ρ r en e k=>by
  obtain⟨kk,e4,e⟩:=bind_some e;obtain⟨rk,e4,e5⟩:=bind_some e4;obtain⟨d,e6,e⟩:=bind_some e;obtain⟨rd,e6,e7⟩:=bind_some e6;obtain⟨kvs,e3,e⟩:=bind_some e;cases e;obtain⟨a,xs,hw1,ha',rl⟩:=c3R en e3;have hH:=en.fh _ _ ha';refine⟨.ref a,hw1,a,rfl,.inl ⟨xs,.inl hH⟩,F,ρ,rk,en,e4,λy F3 H3 o3=> ?_⟩;cases b8q e5 o3.rep;refine⟨_,ρ,rd,en.ext o3.x,e6,λz F4 H4 o4=> ?_⟩;obtain⟨F5,o5⟩:=o4.toVal e7;have x5:=o3.x.trans o5.x;refine⟨_,b7e.k (k:= .inr kk) (o5.x.h _ _ (o3.x.h _ _ hH)),k _ _ _ (B5.val x5 ?_)⟩;cases hv:b1Y kvs [.inr kk] with
  |none=>
   have:=(rl.val (k:=[.inr kk])).2 hv;rw [b4Z] at this;rw [this];exact o5.rep
  |some q=>
   obtain⟨y,hy,ry⟩:=(rl.val (k:=[.inr kk])).1 q hv;rw [b4Z] at hy;rw [hy];exact P5.mono x5.f _ ry
end
section
variable {P:AK}{w:AJ}{K:AE}{mg:Str->Υ AB}{base:Heap}
theorem b5f{x:Str}{st:Stmt}{N ps:List Str}{k:Nat}{m:MX}(D:Df K mg x st)(S:g8 N ps (d4 st))
 (hi:∀(kV doc pm:AB) (an:Υ AA) (cdv ct:AB) (us:List AB),us.length=ps.length->bindArgs (PySem.W.fnOf x x (U3 st) (C4 st) (d4 st) .none kV doc pm an cdv ct) ⟨us,[]⟩=pure (ps.zip us))
 (hb:∀(f:AA) (cdv:AB) (A:AL) (outer:List Env) (s:AC) (H:Hp) (E:XK),G3 k (A.deeper (envOfC x (d4 st) s.heap.objs.size f cdv))->W9 (CX1 P w) (a2j (CX1 P w) P w K mg base N x (d4 st) f cdv A outer s H E) (λ_=>E)->EXs (a2j (CX1 P w) P w K mg base N x (d4 st) f cdv A outer s H E) (λ_=>E) (C4 st) m):
 a6G P w K mg base x ps (k+1) (b6X (N.length - ps.length) m):=
 let ⟨f,fd,F,hm⟩:=D
 ⟨f,fd,c2G F S λcdv A outer s H E hr=>hb f cdv A outer s H E hr λpins σ H s e s' I h=>b4k pins σ H s e s' I h,hm,F.kp,F.binds hi⟩
end
theorem c4Y{l:PySem.W.OpenLaw}{q:AK}{loose:List Str}{XP:(Str->Υ AB)->Heap->Prop}{YP:AJ->Heap->Prop}{d:DefRec}{K:Params->AE}{x:Str}{k:Nat}(hk:k<=200)(hn:l.most=ξ 63)(hdf:d.params.defaults=[])
 (hY:∀(w:AJ) (h:Heap),YP w h->(K w.params).In h)
 (F:∀(w:AJ) (mg:Str->Υ AB) (fa:AA) (h:Heap),(K w.params).In h->h.Ns mainGlobals mg->mg d.name=ξ (.ref fa)->
  ∃fd:FuncData,(∀(s:AC) (u:AB),BindsTo s fd ⟨[u],[]⟩ [(x,u)])/\∀base:Heap,(K w.params).In base->base.Ns mainGlobals mg->P4 l.prog w (K w.params) mg base CX0 k fa fd [x] (b3p (K w.params))):
 PySem.W.WalkO q loose XP YP l.row.toRowW d [] (λf vs=>PySem.call f vs):=
 L2.c1D (n:=63) (k:=200) (x:=x) (CX:=λ_=>CX0) (sp:=λw=>b3p (K w.params)) hn (by decide) hdf ⟨rfl,by decide,by decide⟩ hY (λw mg fa h a b c=>let ⟨fd,h1,h2⟩:=F w mg fa h a b c;⟨fd,h1,λbase x y=>(h2 base x y).mono hk⟩) (λ_ _ a ns hl _ hS=>⟨a,ns,rfl,hS,hl,λ_=>rfl⟩) λ_ _ _ _ _ z=>z
theorem c4o{K:AE}{x:Str}{C:AA}(e:PySem.W.nsIn K mainGlobals x=ξ (ξ (.ref C)))(q:V3 K C x=true)(o1:PySem.W.plainGet K C Str.empty=true)(o2:PySem.W.hasDictIn K C=true)(o3:PySem.W.plainOver K C=true)
 (o4:PySem.W.findIn K (.ref C) "__setattr__"=ξ (ξ (.builtin "object.__setattr__"))):KC K x C:=by
 refine⟨⟨e, ?_⟩,o1,o2,o3,o4⟩
 unfold V3 at q
 split at q
 ·rename_i oc od cd sl hk
  exact⟨oc,od,cd,sl,hk,beq_iff_eq.mp q⟩
 ·cases q
open L2
end PU
namespace ZL
open L2 PU ZT
abbrev tIt(l:AA):Obj:={cls:= .type "tuple_iterator",data:= .fields #[.ref l,.int 0 0]}
abbrev lIt(l:AA):Obj:={cls:= .type "list_iterator",data:= .fields #[.ref l,.int 0 0]}
abbrev tH2(h:Heap)(x y:AA):Heap:=(h.push (tIt x)).push (lIt y)
abbrev tH3(h:Heap)(x y:AA):Heap:=(tH2 h x y).push {cls:= .type "tuple",data:= .seq #[.ref h.objs.size,.ref (h.push (tIt x)).objs.size]}
abbrev tH4(h:Heap)(x y:AA):Heap:=(tH3 h x y).push {cls:= .type "tuple",data:= .seq #[.none,.none]}
abbrev tH5(h:Heap)(x y:AA):Heap:=(tH4 h x y).push {cls:= .type "zip",data:= .fields #[.none,.bool false,.bool false,.ref (tH2 h x y).objs.size,.ref (tH3 h x y).objs.size]}
theorem a8W(x y:AA)(p q:Array AB):
 Meets (Builtin.«zip.__new__» ⟨[.type "zip",.ref x,.ref y],[]⟩) (λ_ R s=>(s.heap.IsTuple x p/\s.heap.IsList y q)/\R (.ok (.ret (.ref (tH4 s.heap x y).objs.size))) {s with heap:=tH5 s.heap x y}):=
 .of_wp λprog w A R s h=>by
  obtain⟨hp,g,d,tk,os⟩:=s;obtain⟨⟨hx,hy⟩,h⟩:=h;have hy2:=hy.push (tIt x);have hsub:=sub_zip
  wp_walk using wpAny_pyIter_tuple hx,wpAny_pyIter_list hy2
  exact⟨_,rfl,h⟩
theorem b2n{prog:AK}{w:AJ}{A:AL}{E:AB->AC->Prop}{s:AC}{x y:AA}{p q:Array AB}{Q:AB->AC->Prop}(hx:s.heap.IsTuple x p)(hy:s.heap.IsList y q)
 (h:∀h',IsZip h' (s.heap.objs.size+4) (s.heap.objs.size+2) (s.heap.objs.size+3) .none->IsPair h' (s.heap.objs.size+2) (.ref s.heap.objs.size) (.ref (s.heap.objs.size+1))->
  IsPair h' (s.heap.objs.size+3) .none .none->h'.IsTupleIter s.heap.objs.size x 0->h'.IsListIter (s.heap.objs.size+1) y 0->h'.objs.size=s.heap.objs.size+5->
  (∀c o,s.heap.get? c=ξ o->h'.get? c=ξ o)->Q (.ref (s.heap.objs.size+4)) {s with heap:=h'}):
 AH (model prog w) A (call (.type "zip") [.ref x,.ref y]) Q E s:=by
 refine callType_new F.called_zip (by decide) (F.typeCall_zip_2 _ _) (F.newCall_zip_2 _ _) (λobj=>F.args_object_init_3 obj _ _) F.entry_zip_new
  (a8W x y p q) ?_
 have z1:(s.heap.push (tIt x)).objs.size=s.heap.objs.size+1:=Heap.size_push ..
 have z2:(tH2 s.heap x y).objs.size=s.heap.objs.size+2:=by rw [Heap.size_push,z1]
 have z3:(tH3 s.heap x y).objs.size=s.heap.objs.size+3:=by rw [Heap.size_push,z2]
 have z4:(tH4 s.heap x y).objs.size=s.heap.objs.size+4:=by rw [Heap.size_push,z3]
 have z5:(tH5 s.heap x y).objs.size=s.heap.objs.size+5:=by rw [Heap.size_push,z4]
 have g5:(tH5 s.heap x y).get? (tH4 s.heap x y).objs.size=ξ _:=Am _ rfl
 have g4:(tH5 s.heap x y).get? (tH3 s.heap x y).objs.size=ξ _:=AS _ (Am _ rfl)
 have g3:(tH5 s.heap x y).get? (tH2 s.heap x y).objs.size=ξ _:=AS _ (AS _ (Am _ rfl))
 have g2:(tH5 s.heap x y).get? (s.heap.push (tIt x)).objs.size=ξ _:=AS _ (AS _ (AS _ (Am _ rfl)))
 have g1:(tH5 s.heap x y).get? s.heap.objs.size=ξ _:=AS _ (AS _ (AS _ (AS _ (Am _ rfl))))
 refine⟨⟨hx,hy⟩, ?_⟩
 show _/\_
 rw [z2,z3,z4] at g5
 rw [z1,z2] at g3
 rw [z3] at g4
 rw [z1] at g2
 rw [z4]
 exact⟨⟨_,g5,rfl⟩,h _ g5 g3 g4 ⟨_,g1,rfl,rfl⟩ ⟨_,g2,rfl,rfl⟩ z5 λc o x=>
  AS _ (AS _ (AS _ (AS _ (AS _ x))))⟩
def Itl(K:AE)(a b:AA)(xs ys:List V):It:=⟨λi H=>(SqT K H a xs/\Y7 K H b ys)/\i<xs.length/\i<ys.length,λi H v H'=>∃x y t,xs[i]?=ξ x/\ys[i]?=ξ y/\H t=ζ/\v= .ref t/\H'=A5 H t (.tup [x,y]),λi H=>(SqT K H a xs/\Y7 K H b ys)/\i<=xs.length/\i<=ys.length/\(i=xs.length\/i=ys.length)⟩
def tnL(z TI TO i1 i2 l1 l2:AA)(i:Nat)(h:Heap):Prop:=
 IsZip h z TI TO .none/\IsPair h TI (.ref i1) (.ref i2)/\(∃a b,IsPair h TO a b)/\h.IsTupleIter i1 l1 i/\h.IsListIter i2 l2 i
theorem b7a{P:AK}{w:AJ}{K:AE}{z TI TO i1 i2 l1 l2:AA}{xs ys:List V}{elts:List AF}{x1}{pos:Pos}(D:ZT.ZA z TI TO i1 i2)(A1:LA z TO i1 i2 l1)(A2:LA z TO i1 i2 l2):
 b01 P w K (.Tuple elts x1 pos) (Itl K l1 l2 xs ys) [z,TI,TO,i1,i2] z (tnL z TI TO i1 i2 l1 l2) where
 mem:=by simp
 obj:=λi h ⟨hz,hI,⟨a,b,hO⟩,⟨o1,e1,c1,d1⟩,⟨o2,e2,c2,d2⟩⟩ b' hb=>by
  ext ab
  rcases hb with rfl|rfl|rfl|rfl|rfl
  ·exact⟨_,hz,λv z=>by cases z⟩
  ·exact⟨_,hI,λv z=>by cases z⟩
  ·exact⟨_,hO,λv z=>by cases z⟩
  ·exact⟨_,e1,λv z=>by rw [d1] at z;cases z⟩
  ·exact⟨_,e2,λv z=>by rw [d2] at z;cases z⟩
 keep:=λi h h' ⟨hz,hI,⟨a,b,hO⟩,⟨o1,e1,r1⟩,⟨o2,e2,r2⟩⟩ k=>
  ⟨k z (by simp) _ hz,k TI (by simp) _ hI,⟨a,b,k TO (by simp) _ hO⟩,⟨o1,k i1 (by simp) _ e1,r1⟩,⟨o2,k i2 (by simp) _ e2,r2⟩⟩
 item:=by
  ext i
  obtain⟨⟨q1,q2⟩,m1,m2⟩:=hg;obtain⟨its1,rv1,pt1,_⟩:=I.tuple q1
  ext k
  refine ZT.pyNext_zip_itemD D (λA' hh=>b0h hh A1.2.2.1 its1.toArray) (λA' hh=>Draws.list hh _ _ A2.2.2.2 its2.toArray) hd A1 A2 hz hI hO ⟨s1,pt1⟩ ⟨s2,pt2⟩ (by simp;lia) (by simp;lia) λv1 v2 h' tk p1 p2 a1 a2 a3 a4 a5 a6 a7=>⟨_,rfl, ?_⟩
  have g1:xs[i]?=ξ xs[i]:=by simp [m1]
  have g2:ys[i]?=ξ ys[i]:=by simp [m2]
  obtain⟨u1,f1,r1⟩:=rv1.get g1;obtain⟨u2,f2,r2⟩:=rv2.get g2;have w1:v1=u1:=by
   have:its1[i]?=ξ v1:=by simpa using p1
   rw [f1] at this;exact(Option.some.inj this).symm
  have w2:v2=u2:=by
   have:its2[i]?=ξ v2:=by simpa using p2
   rw [f2] at this;exact(Option.some.inj this).symm
  ext u
  have up:∀c o,c∉[z,TI,TO,i1,i2]->s.heap.get? c=ξ o->h2.get? c=ξ o:=λc o hc q=>by
   ext av
   exact(hs2.2 c hc.1).trans (a7 c o hc.1 hc.2.2.1 hc.2.2.2.1 hc.2.2.2.2 q)
  have I2:Inv X pins σ (A5 H s.heap.objs.size (.tup [xs[i],ys[i]])) {s with heap:=h2,toks:=tk}:=
   ZT.Inv.turnedTupN I hf up ⟨by rw [sizeLine_eq];simp,[v1,v2],.cons r1 (.cons r2 .nil),⟨_,htup,rfl,0,rfl⟩⟩
  refine⟨.ref s.heap.objs.size,_,I2,rfl,⟨xs[i],ys[i],s.heap.objs.size,g1,g2,I.hok.fresh (AV _),rfl,rfl⟩,
   ⟨hz2,(hs2.2 _ D.TIz).trans (a7 _ _ D.TIz D.TITO D.TIi1 D.TIi2 hI),⟨_,_,(hs2.2 _ D.TOz).trans a2⟩,let ⟨o,e,r⟩:=a3.1;⟨o,(hs2.2 _ D.i1z).trans e,r⟩,let ⟨o,e,r⟩:=a4.1;⟨o,(hs2.2 _ D.i2z).trans e,r⟩⟩,λb hb=> ?_⟩
  have hlt:b<s.heap.objs.size:=by
   obtain⟨o1,e1,r1⟩:=s1;obtain⟨o2,e2,r2⟩:=s2
   ext ab
   rcases hb with rfl|rfl|rfl|rfl|rfl
   ·exact zlt
   ·exact AW hI
   ·exact AW hO
   ·exact AW e1
   ·exact AW e2
  rw [l6 (Ak hlt)];exact(hf b hb).1
 done:=by
   ext i
   obtain⟨⟨q1,q2⟩,m1,m2,m3⟩:=hg;obtain⟨its1,rv1,pt1,_⟩:=I.tuple q1
   ext k
   refine ZT.pyNext_zip_endD D (λA' hh=>b0h hh A1.2.2.1 its1.toArray) (λA' hh=>Draws.list hh _ _ A2.2.2.2 its2.toArray) hd A1 A2 hz hI hO ⟨s1,pt1⟩ ⟨s2,pt2⟩ (by simp;lia) (by simp;lia) (by simp;lia) λh' tk k=>⟨rfl,ZT.Inv.turnedN I hf λc o hc q=> ?_⟩
   ext av
   exact k c o hc.1 hc.2.2.1 hc.2.2.2.1 hc.2.2.2.2 q
 self:=λ_ _ _ _ _ st h=>wpAny_pyIter_zip st.1 h
section
variable {X:Cx}
def iZl(K:AE)(ta:TA):TI:=λσ H R=>ta σ H λvs H1=>∃a b xs ys,vs=[.ref a,.ref b]/\SqT K H1 a xs/\Y7 K H1 b ys/\R (Itl K a b xs ys) H1
theorem pi_zipL{a b:AF}{ta:TA}{p pos tpos:Pos}{elts:List AF}{x1}(hg:Gl X "zip")(hm:X.mg "zip"=ζ)(ha:PA X [a,b] ta)(hs:AI [a,b] X.env=[(false,eval a X.env),(false,eval b X.env)]:=by rfl)
 (hs2:AI [b] X.env=[(false,eval b X.env)]:=by rfl):PI X (.Tuple elts x1 tpos) (.Call (.Name "zip" p) [a,b] [] pos) (iZl X.K ta):=by
 intro pins s σ H R I h
 refine Call_ (a3X I hg hm ZT.boot_zip (PyProof.Rows.callWith_type1 (M9 (ha pos pins s σ H _ I h) λus s1 h0=>w8 h0 λvs H1 I1 r1 q1=> ?_) (by rw [hs,hs2]) (by rw [hs2];rfl)))
 obtain⟨x,y,xs,ys,rfl,h1,h2,q⟩:=q1
 cases r1 with
 |cons r rr=>
  cases rr with
  |cons r' rr=>
   cases rr
   cases r
   cases r'
   obtain⟨its1,rv1,pt1,_⟩:=I1.tuple h1
   obtain⟨its2,rv2,pl2,_⟩:=I1.list h2
   have pt2:=pl2.isList
   have l1:x<s1.heap.objs.size:=by obtain⟨o,e,_⟩:=pt1;exact AW e
   have l2:y<s1.heap.objs.size:=by obtain⟨o,e,_⟩:=pt2;exact AW e
   refine b2n pt1 pt2 λh' hz hI hO hi1 hi2 hsz hk=> ?_
   refine wpAny_pyIter_zip (s:={s1 with heap:=h'}) hz ?_
   refine⟨s1.heap.objs.size+4,_,_,_,H1,rfl,I1.kept (t':=s1.toks) hk,b7a (ZT.za_new _) (ZT.la_new l1) (ZT.la_new l2),⟨hz,hI,⟨_,_,hO⟩,hi1,hi2⟩,λb hb=> ?_,q⟩
   have hle:s1.heap.objs.size<=b:=by
    ext ab
    rcases hb with rfl|rfl|rfl|rfl|rfl<;>lia
   exact I1.fpOk hle (I1.hok.fresh hle)
end
end ZL
namespace PU
open L2
def Q7(ps qs:List PV):List PV:=List.zipWith (λp q=>PyData.tuple [p,q]) ps qs
theorem b3x(ps qs:List PV):(Q7 ps qs).length=min ps.length qs.length:=by simp [Q7]
def b5D(m:MA):MI:=λρ=>(m ρ).bind λas=>match as with
 |[.tuple ps,.list qs]=>ξ (Q7 ps qs)
 |_=>ζ
theorem a8R{K:AE}{F0 H0 F1:Hp}{body:MS}{tg:PV->b9->Υ b9}{g:TG}{ps qs:List PV}{xs ys:List V}{x y:V}{fl:Fl}{D:U7}{k:Nat}{t:AA}{σ:L2.St}{H:Hp}(T:a5Z K g tg)(fin:Fin K F0 H0 F1 D fl)(rp:u5 K F1 ps xs)(rq:u5 K F1 qs ys)(ex:xs[k]?=ξ x)(ey:ys[k]?=ξ y)
 (hp:PvL K F0 H0 F1 body tg (Q7 ps qs) fl k σ H) (hn:H t=ζ):
 g (.ref t) σ (A5 H t (.tup [x,y])) λσ2 H2=>tMS K body {D with nx:=PvL K F0 H0 F1 body tg (Q7 ps qs) fl (k+1),ct:=PvL K F0 H0 F1 body tg (Q7 ps qs) fl (k+1),bk:=D.nx} σ2 H2:=by
 obtain⟨F,ρ,s,so,e⟩:=hp
 obtain⟨p,ep,rpx⟩:=rp.getV ex
 obtain⟨q,eq',rqy⟩:=rq.getV ey
 have eq:(Q7 ps qs)[k]?=ξ (.tuple [p,q]):=by
  unfold Q7;rw [List.getElem?_zipWith,ep,eq']
 have hk:k<(Q7 ps qs).length:=(Au.mp eq).1
 have hd:(Q7 ps qs).drop k= .tuple [p,q]::(Q7 ps qs).drop (k+1):=by
  rw [List.drop_eq_getElem_cons hk]
  congr 1
  exact(Au.mp eq).2
 rw [hd] at e
 obtain⟨ρ1,f1,e1,e2,e3⟩:=b0n e
 have xl:Ext F H (A5 F t (.tup [x,y])) (A5 H t (.tup [x,y])):=Ext.lay so.e.fh hn
 have up:u3 F1 (A5 F t (.tup [x,y])):=s.trans xl.f
 refine T F0 H0 _ _ σ ρ ρ1 _ (.ref t) _ (so.ext xl) (show P5 K (A5 F t (.tup [x,y])) (.tuple [p,q]) (.ref t) from⟨t,[x,y],rfl,TqT.of p9,⟨x,_,rfl,P5.mono up _ rpx,⟨y,_,rfl,P5.mono up _ rqy,rfl⟩⟩⟩) e1 λσ' so'=>⟨F0,H0,_,ρ1,f1,so',e2, ?_⟩
 cases f1 with
 |nx ρ'=>exact λσ2 F2 H2 s2 so2=>⟨F2,ρ',up.trans s2,so2,e3⟩
 |ct ρ'=>exact λσ2 F2 H2 s2 so2=>⟨F2,ρ',up.trans s2,so2,e3⟩
 |bk ρ'=>cases e3;exact λσ2 F2 H2 s2 so2=>fin σ2 F2 H2 (up.trans s2) so2
 |rt r=>cases e3;exact fin
theorem b74{K:AE}{F0 H0 F1:Hp}{body:MS}{tg:PV->b9->Υ b9}{g:TG}{ps qs:List PV}{xs ys:List V}{a b:AA}{fl:Fl}{D:U7}{σ:L2.St}{H:Hp}(T:a5Z K g tg)(fin:Fin K F0 H0 F1 D fl)(rp:u5 K F1 ps xs)(rq:u5 K F1 qs ys)(ha:SqT K F1 a xs)(hb:Y7 K F1 b ys)(h0:PvL K F0 H0 F1 body tg (Q7 ps qs) fl 0 σ H):
 ∃W:Nat->Nat->L2.St->Hp->Prop,(∃m,W 0 m σ H)/\∀i m σ H,W i m σ H->
  ((ZL.Itl K a b xs ys).stop i H/\D.nx σ H)\/((ZL.Itl K a b xs ys).go i H/\∃N:L2.St->Hp->Prop,(∀σ' H',N σ' H'->∃m',m'<m/\W (i+1) m' σ' H')/\∀v H',(ZL.Itl K a b xs ys).yld i H v H'->g v σ H' λσ2 H2=>tMS K body {D with nx:=N,ct:=N,bk:=D.nx} σ2 H2):=by
 have hl:=b3x ps qs
 have l1:=rp.length
 have l2:=rq.length
 refine⟨λi m σ H=>m=(Q7 ps qs).length - i/\i<=(Q7 ps qs).length/\PvL K F0 H0 F1 body tg (Q7 ps qs) fl i σ H,⟨(Q7 ps qs).length,by simp,Nat.zero_le _,h0⟩, ?_⟩
 rintro i m σ H ⟨rfl,hi,pv⟩
 have sq:SqT K H a xs/\Y7 K H b ys:=by
  obtain⟨F,ρ,s,so,e⟩:=pv;have s2:=s.trans so.e.fh;exact⟨E5 s2 ha,B8 s2 hb⟩
 by_cases hlt:i<(Q7 ps qs).length
 ·refine .inr ⟨⟨sq,by lia,by lia⟩,PvL K F0 H0 F1 body tg (Q7 ps qs) fl (i+1),λσ' H' p'=>⟨(Q7 ps qs).length - (i+1),by lia,rfl,hlt,p'⟩,λv H' yl=> ?_⟩
  obtain⟨x,y,t,ex,ey,hn,rfl,rfl⟩:=yl
  exact a8R T fin rp rq ex ey pv hn
 ·refine .inl ⟨⟨sq,by lia,by lia,by lia⟩, ?_⟩
  have ei:i=(Q7 ps qs).length:=by lia
  rw [ei] at pv
  exact a2r fin pv
section
variable {X:Cx}
theorem b7T{a b:AF}{body:List Stmt}{m:MA}{g:TG}{t:PV->b9->Υ b9}{bd:MS}{p rp pos tpos:Pos}{elts:List AF}{x1}(hp:PassesOwn (model X.prog X.w) X.A X.env X.xe)(hc:X.calm=true)(hgl:Gl X "zip")(hm:X.mg "zip"=ζ)(ha:EA X [a,b] m)(hg:PG X (.Tuple elts x1 tpos) g)(T:a5Z X.K g t)(hb:ESs X body bd)
 (hst:AI [a,b] X.env=[(false,eval a X.env),(false,eval b X.env)]:=by rfl) (hst2:AI [b] X.env=[(false,eval b X.env)]:=by rfl) (hs:∀x,foldedSetIterable (.Call (.Name "zip" p) [a,b] [] rp) X.env x=pure x:=by intro _;rfl):ES X (.For (.Tuple elts x1 tpos) (.Call (.Name "zip" p) [a,b] [] rp) body [] pos) (a2s (b5D m) t bd):=
 G6 (a7a hp hc (ZL.pi_zipL hgl hm ha hst hst2) hg hb hs) λD σ H h0=>Q6 h0 λF0 H0 F ρ fl so e fin=>by
  obtain⟨es,e1,e⟩:=bind_some e;obtain⟨as,e3,e2⟩:=bind_some e1;split at e2
  ·ext p
   exact⟨a1,b1,xs,ys,rfl,E5 xx.fh h1.sq,B8 xx.fh h2,b74 (g:=g) (σ:=σ) (H:=H1) T (fin.later xx.f) r1 r2 h1.sq h2 ⟨F1,ρ,PU.u3.refl F1,so.ext xx,e⟩⟩
  ·cases e2
end
def a3O(x:g0):Υ g0:=match x with
 | .v (.tuple ps)=>(a7v ps).bind λis=>if 0<is.length then ξ (.v (.int (a7p is))) else ζ
 |x=>b8a x
theorem c0J{prog:AK}{w:AJ}{A:AL}{E:AB->AC->Prop}{s:AC}{t:AA}{xs:Array (Int×Tok)}{Q:AB->AC->Prop}(hh:A.handled=ζ)(ht:s.heap.IsTuple t (intItems xs))(hn:0<xs.size)
 (h:∀v h' tk,(intItems xs)[argBest (λi j=>decide (numAt xs i>numAt xs j)) (xs.size - 1)]?=ξ v->(∀b o,s.heap.get? b=ξ o->h'.get? b=ξ o)->Q v {s with heap:=h',toks:=tk}):
 AH (model prog w) A (call (.builtin "max") [.ref t]) Q E s:=by
 obtain⟨o,ho,_⟩:=id ht
 have ne:t≠s.heap.objs.size:=Ak (AW ho)
 have hz:(intItems xs).size=xs.size:=by simp [intItems]
 refine call_max_walk (wpAny_pyIter_tuple ht ⟨s.heap.objs.size,_,_,_,_,_,_,rfl,Walks.tuple (A:=A.in1) hh s.heap.objs.size t ne (intItems xs),⟨⟨_,Am _ rfl,rfl,rfl⟩,ht.at λo e=>AS _ e⟩,λb hb=> ?_,by rw [hz];exact hn,CmpOf.ints_gt (numAt xs) (λ_ _=>intItems_at),λv h' tk hP hk=> ?_⟩)
 ·rcases Ah.mp hb with rfl|hb
  ·exact AW (Am _ rfl)
  ·rw [List.mem_singleton.mp hb];exact AW (AS _ ho)
 ·exact h v h' tk (by rw [hz] at hP;exact hP) λb o e=>hk b o (λhb=>absurd (AW e) (List.mem_singleton.mp hb▸Nat.lt_irrefl _)) (AS _ e)
section
variable {X:Cx}
theorem b08(hc:X.calm=true):R7 X (.builtin "max") (rC1 X.K a3O):=by
 ext f
 unfold a3O at h2;split at h2
 ·rename_i ps
  ext bi
  obtain⟨is,e1,h2⟩:=bind_some h2;split at h2
  ·rename_i c;cases h2;obtain⟨a,ys,rfl,hq,rl⟩:=(show P5 X.K F (.tuple ps) x from h1);cases ru;have ey:=a5x e1 rl;subst ey;obtain⟨its,rvs,pt,_⟩:=I.tuple (E5 s0 hq.sq);obtain⟨zs,hz1,hz2⟩:=a5S rvs;have hit:its.toArray=intItems zs.toArray:=by rw [hz2];simp [intItems]
   have hat:∀i,numAt zs.toArray i=is.getD i 0:=λi=>by
    unfold numAt;rw [<-hz1,List.getD_eq_getElem?_getD,Aw];simp
   have hlen:zs.length=is.length:=by rw [<-hz1,AY]
   rw [hit] at pt;refine c0J (t:=a) (xs:=zs.toArray) (I.ok.hd hc) pt (by simp;lia) λv h' tk hv hk=> ?_
   obtain⟨t,rfl⟩:=intItems_at hv;have hb:numAt zs.toArray (argBest (λi j=>decide (numAt zs.toArray i>numAt zs.toArray j)) (zs.toArray.size - 1))=a7p is:=by
    unfold a7p;rw [hat,show zs.toArray.size=is.length by simp [hlen]]
    congr 2
    funext i j
    rw [hat,hat]
   rw [hb];exact⟨.int (a7p is),H,I.kept (t':=tk) hk,⟨t,rfl⟩,k _ F H (B5.here s0 rfl)⟩
  ·cases h2
 ·exact b9Z hc pins s σ H _ us Q I rv ⟨F,x,_,rz,rfl,s0,h1,h2,k⟩
end
def ckC(K:AE)(C:AA)(x:Str)(f:AA)(fs:List Str):Bool:=V3 K C x &&(PySem.W.plainGet K C Str.empty &&(PySem.W.hasDictIn K C &&(PySem.W.plainOver K C &&(PySem.W.findIn K (.ref C) "__setattr__"==ξ (ξ (.builtin "object.__setattr__"))
 &&(PySem.W.makesIn K C &&(PySem.W.isFn K (.ref f)&&(PySem.W.keepIn K (.ref C)&&(PySem.W.findIn K (.ref C) "__class__"==ξ (ξ (.builtin "object.__class__"))&&(PySem.W.mroIn K C (.type "object")==ξ true
 && fs.all λg=>PySem.W.findIn K (.ref C) g==ξ ζ)))))))))
section
variable {K:AE}{C f:AA}{x:Str}{fs:List Str}
structure CkC(K:AE)(C:AA)(x:Str)(f:AA)(fs:List Str):Prop where
 kc:KC K x C
 mo:Mk K C f
 h8:PySem.W.findIn K (.ref C) "__class__"=ξ (ξ (.builtin "object.__class__"))
 h9:PySem.W.mroIn K C (.type "object")=ξ true
 na:∀g∈fs,G5 K C g
theorem a7t(e:PySem.W.nsIn K mainGlobals x=ξ (ξ (.ref C)))(i:PySem.W.findIn K (.ref C) "__init__"=ξ (ξ (.ref f)))(h:ckC K C x f fs=true):CkC K C x f fs:=by
 unfold ckC at h;simp only [χ,beq_iff_eq,List.all_eq_true] at h;obtain⟨h0,h1,h2,h3,h4,h5,h6,h7,h8,h9,h10⟩:=h;exact⟨c4o e h0 h1 h2 h3 h4,⟨h5,i,h6,h7⟩,h8,h9,h10⟩
theorem CkC.ki(c:CkC K C x f fs)(k2:PySem.W.specialIn K (.builtin "object.__class__") "__get__"=ξ (ξ (.builtin "getset_descriptor.__get__")))(k3:PySem.W.takesIn K (.builtin "object.__class__")=ξ true):KI K C:=⟨c.h8,k2,k3,c.h9⟩
end
def KKs(K:AE)(l:List (Str×AA)):Prop:=∀p∈l,KC K p.1 p.2/\KI K p.2
theorem c0A{K:AE}:KKs K []:=λ_ h=>nomatch h
theorem a0K{K:AE}{x:Str}{C:AA}{l:List (Str×AA)}(c:KC K x C)(i:KI K C)(h:KKs K l):KKs K ((x,C)::l):=λp hp=>(Ah.mp hp).elim (λe=>e▸⟨c,i⟩) (h p)
def a6X(K:AE)(cv:AB):List (Str×AA)->List Bool->Bool
 |(_,C)::l,b::bs=>PySem.W.kitOne K (.ref C) cv==ξ b && a6X K cv l bs
 |_,_=>true
def c4m:List (Str×AA)->List Bool->List (Str×Bool)
 |(x,_)::l,b::bs=>(x,b)::c4m l bs
 |_,_=>[]
theorem a1j{K:AE}{cv:AB}:∀{l:List (Str×AA)} {bs:List Bool},KKs K l->a6X K cv l bs=true->U8 K cv (c4m l bs)
 |[],_,_,_=>a8N
 |_::_,[],_,_=>a8N
 |(x,C)::l,b::bs,h,e=>by
  rw [a6X,χ,beq_iff_eq] at e;have h0:=h _ AZ;exact b2K h0.1 h0.2 e.1 (a1j (λp hp=>h p (Af _ hp)) e.2)
section
variable {X:Cx}
theorem l7{a b:AF}{ma mb:M}{pos:Pos}{op:CmpOp}{g:g0->g0->Υ g0}(ho:OpM X (compareOp op) g)(ha:EE X a ma)(hb:EE X b mb)(hm:behindInMarks op b=false:=by first|rfl|exact nomark _):ET X (.Compare a [op] [b] pos) (x9 (m2 g ma mb)):=c2z ho ha hb hm
theorem a0C{a b:AF}{ma mb:M}{pos:Pos}{op:CmpOp}{g:g0->g0->Υ g0}(ho:OpM X (compareOp op) g)(ha:EE X a ma)(hb:EE X b mb)(hm:behindInMarks op b=false:=by first|rfl|exact nomark _):EE X (.Compare a [op] [b] pos) (m2 g ma mb):=c2u ho ha hb hm
theorem e9(i:Nat){x:Str}{pos:Pos}(hN:X.N[i]?=ξ x:=by rfl)(hv:Vis X.env.scope x:=by first|exact Or.inl rfl|exact Or.inr (Or.inl rfl)|exact Or.inr (Or.inr rfl))(hd:Δ x:=by decide)(hcd:(x==("__classdict__":Str))=false:=by decide):EE X (.Name x pos) (b0 i):=c2w i (pv i hN hv hd hcd)
end
section
variable {X:Cx}
variable {Φ:L2.St->Hp->Prop}{I:List Nat}
end
def c0Q(K:AE):Bool:=K.all λp=>match p.2.cls with
 | .type x=> !(x=="list")
 |_=>true
theorem b8Q{K:AE}(nk:c0Q K=true){a:AA}{o:Obj}(e:K.lookup a=ξ o)(hc:o.cls= .type "list"):False:=by
 obtain⟨b,hb⟩:=b4o e;have h:=List.all_eq_true.mp nk _ hb;simp only [hc] at h;simp at h
section
variable {X:Cx}
end
section
open PySem.AutoSeq1 (wpAny_loadPart')
open PySem.MeetsSeq3 (plain_eq_loop entry_eq_loop)
variable {A:AL}{s:AC}
end
open L2 PySem.W
section
variable {X:Cx}{pins:List (AA×Obj)}{σ:L2.St}{H:Hp}{s:AC}
end
section
variable {X:Cx}
end
theorem b7w{α:Type}(x:α)(xs:List α):L2.atI (x::xs) 0=ξ x:=by
 unfold L2.atI L2.ixN;rw [if_pos (by lia)]
 simp
section
variable {K:AE}{H J J':Hp}{ah a0 a3 b1 b2 b3 c:AA}{z0 z3 y1 y2 y3:List V}{n:Nat}
end
section
variable {X:Cx}
end
section
variable {X:Cx}{tg:AF}
end
section
variable {X:Cx}
end
section
variable {prog:AK}{w:AJ}{A:AL}{E:AB->AC->Prop}{h:Heap}{g:Array GenState}{d:Drawn}{t:Nat}{os:OsState}
variable {nm q:Str}{C N:AA}{bs bm bmB:List AB}{hdct:Bool}{sn:List Str}{sub:List AB}{ab:Bool}{col:Υ Bool}{dd:Υ AA}{k0 k1 k2 k3 k5:Υ AB}{B newId initId:String}
theorem a7X(F:ExcBaseFacts B newId initId bmB)(T:OwnTail h bmB bm){mN:Str->Υ AB}{rest:List AB}{fI:AA}{oI:Obj}{Q:PySem.Fin->AC->Prop}
 (hC:h.get? C=ξ (excClassObj nm q C N bs bm hdct sn sub ab col dd k0 k1 k2 k3 k5 newId)) (hn:h.Ns N mN) (hi:mN "__init__"=ξ (.ref fI))
 (hfI:h.get? fI=ξ oI) (hfc:oI.cls= .type "function")
 (hq:∀h' e,Heap.MadeExcOf h h' e (.ref C) rest->
  AH (model prog w) A (call (.ref fI) (.ref e::rest)) (λr s'=>r= .none/\Q (.done (.ret (.ref e))) s') E ⟨h',g,d,t,os⟩) (hrest:rest.length<=AN):
 AH (model prog w) A (Builtin.«type.__call__» ⟨.ref C::rest,[]⟩) Q E ⟨h,g,d,t,os⟩:=by
 repeat (first|with_reducible refine wpAny_loadPart_at hC ?_|with_reducible refine wpAny_madeBy_exc hC ?_|wp_step)
 refine codeAny_call_builtin_code (Code.quiet_builtin _ F.quiet) (wpAny_check_new_subT F T hC ?_)
 refine codeAny_exc_new_subT F T hC ?_ hrest
 show AH _ _ _ _ _ _
 have hC₁:=AS {cls:= .ref C,data:= .fields #[.ref h.objs.size,.none,.none,.none,.bool false,.none]}
  (AS {cls:= .type "tuple",data:= .seq rest.toArray} hC)
 have hfI₁:=AS {cls:= .ref C,data:= .fields #[.ref h.objs.size,.none,.none,.none,.bool false,.none]}
  (AS {cls:= .type "tuple",data:= .seq rest.toArray} hfI)
 have hn₁:((h.push {cls:= .type "tuple",data:= .seq rest.toArray}).push {cls:= .ref C,data:= .fields #[.ref h.objs.size,.none,.none,.none,.bool false,.none]}).Ns N mN:=
  let ⟨o,es,ep,e,r⟩:=hn;⟨o,es,ep,AS _ (AS _ e),r⟩
 have hget:((h.push {cls:= .type "tuple",data:= .seq rest.toArray}).push
  {cls:= .ref C,data:= .fields #[.ref h.objs.size,.none,.none,.none,.bool false,.none]}).get? (h.objs.size+1)=ξ
  {cls:= .ref C,data:= .fields #[.ref h.objs.size,.none,.none,.none,.bool false,.none]}:=by heap_get
 have hcC:(Value.ref C::bm).contains (.ref C)=true:=by simp
 have T₁:=T.keeps (h':=(h.push {cls:= .type "tuple",data:= .seq rest.toArray}).push {cls:= .ref C,data:= .fields #[.ref h.objs.size,.none,.none,.none,.bool false,.none]})
  λb o e=>AS _ (AS _ e)
 unfold isInstance
 repeat (first|with_reducible refine wpAny_loadPart_at hget ?_|(with_reducible refine wpAny_isSubtype_exc hC₁ ?_;rw [hcC])|wp_step)
 show AH _ _ (typeLookup (.ref C) _) _ _ _
 refine wpAny_typeLookup_tail hC₁ hn₁ T₁ F.mroIs F.init.lookup ?_
 rw [hi]
 refine wpAny_holding (AG ?_)
 unfold bindSpecial
 refine AG (wpAny_typeOf (T:="function") ⟨_,hfI₁,hfc⟩ ?_)
 rw [if_pos (by decide)]
 refine AR (AG (wpAny_mono (hq _ (h.objs.size+1) ⟨λb o hb=>AS _ (AS _ hb),Heap.get?_none_of_le (Nat.le_succ _),h.objs.size,hget,Heap.get?_none_of_le (AV _), ?_⟩) (λr s' hr=> ?_) λ_ _ x=>x))
 ·exact AS _ (Heap.get?_push_at rfl rfl)
 ·obtain⟨rfl,hQ⟩:=hr
  wp_walk
  exact hQ
theorem b3V(F:ExcBaseFacts B newId initId bmB)(T:OwnTail h bmB bm){mN:Str->Υ AB}{rest:List AB}{fI:AA}{oI:Obj}{Q:AB->AC->Prop}
 (hC:h.get? C=ξ (excClassObj nm q C N bs bm hdct sn sub ab col dd k0 k1 k2 k3 k5 newId)) (hn:h.Ns N mN) (hi:mN "__init__"=ξ (.ref fI))
 (hfI:h.get? fI=ξ oI) (hfc:oI.cls= .type "function")
 (hq:∀h' e,Heap.MadeExcOf h h' e (.ref C) rest->
  AH (model prog w) (A.under (.builtin "type.__call__" ⟨.ref C::rest,[]⟩)) (call (.ref fI) (.ref e::rest)) (λr s'=>r= .none/\Q (.ref e) s') E ⟨h',g,d,t,os⟩) (hrest:rest.length<=AN):
 AH (model prog w) A (call (.ref C) rest) Q E ⟨h,g,d,t,os⟩:=by
 have f1:=tc_lookup
 have f2:=tc_bind (.ref C)
 have hT:(⟨h,g,d,t,os⟩:AC).TypeIs (.ref C) "type":=⟨_,hC,rfl⟩
 refine wpAny_call (codeAny_of_tree ?_)
 show AH _ _ (callAny (.ref C) _) _ _ _
 repeat (any_goals (first|assumption|with_reducible refine wpAny_loadPart_at hC ?_|wp_step))
 refine⟨rfl, ?_⟩
 refine codeAny_call_builtin_at (Code.quiet_builtin _ (by decide+kernel)) entry_typeCall (wpAny_check_type_call_sub hC (a7X (hrest:=hrest) F T hC hn hi hfI hfc λh' e hm=> ?_))
 exact hq h' e hm
theorem a5z{M:Model}{env:Env}{s:AC}{x:Sem AB}{Q:Flow->AC->Prop}(hbase:bm.contains (.type "BaseException")=true)(hh:A.handled=ζ)
 (h:AH M A x (λv s₁=>∃e oe vs,v= .ref e/\s₁.heap.get? C=ξ (excClassObj nm q C N bs bm hdct sn sub ab col dd k0 k1 k2 k3 k5 newId)/\
  s₁.heap.get? e=ξ oe/\oe.cls= .ref C/\oe.data= .fields vs/\vs[1]?=ξ .none/\E (.ref e) s₁) E s):
 AH M A (raiseStmt env (ξ x) ζ) Q E s:=by
 have hcB:(Value.ref C::bm).contains (.type "BaseException")=true:=by rw [List.contains_cons,hbase,Bool.or_true]
 unfold raiseStmt
 refine AG (wpAny_mono h (λv s₁ h₁=> ?_) λ_ _ x=>x)
 obtain⟨e,oe,vs,rfl,hC,he,hc,hd,h1,hE⟩:=h₁
 obtain⟨oc,od,ods,osl⟩:=oe
 cases hc
 cases hd
 obtain⟨hp,g,d,tk,os⟩:=s₁
 repeat (first|with_reducible refine wpAny_loadPart_at he ?_|with_reducible refine wpAny_loadPart_at hC ?_|(with_reducible refine wpAny_isSubtype_exc hC ?_;rw [hcB])|wp_step)
 rw [h1]
 refine AR ?_
 rw [if_neg (by decide)]
 exact AR (wpAny_raiseNew_none hh hE)
end
section
variable {prog:AK}{w:AJ}{A:AL}{E:AB->AC->Prop}{s:AC}{env:Env}
variable {nm q:Str}{C N:AA}{bs bm bmB:List AB}{hdct:Bool}{sn:List Str}{sub:List AB}{ab:Bool}{col:Υ Bool}{dd:Υ AA}{k0 k1 k2 k3 k5:Υ AB}{B newId initId:String}
theorem b3h(F:ExcBaseFacts B newId initId bmB){mN:Str->Υ AB}{x:Str}{np cpos pos:Pos}{args:List AF}{fI:AA}{oI:Obj}{Q:Flow->AC->Prop}
 (hbase:bm.contains (.type "BaseException")=true) (hh:A.handled=ζ) (hplain:(backTo cpos (AI args env)).any (·.1)=false) (hi:mN "__init__"=ξ (.ref fI)) (hfc:oI.cls= .type "function")
 (h:AH (model prog w) A (eval (.Name x np) env) (λf s₁=>f= .ref C/\AH (model prog w) A (evalArgs (.ref C) true (backTo cpos (AI args env)) [])
  (λa s₂=>a.kw=[]/\a.pos.length<=AN/\s₂.heap.get? C=ξ (excClassObj nm q C N bs bm hdct sn sub ab col dd k0 k1 k2 k3 k5 newId)/\s₂.heap.Ns N mN/\OwnTail s₂.heap bmB bm/\s₂.heap.get? fI=ξ oI/\
   ∀h' e,Heap.MadeExcOf s₂.heap h' e (.ref C) a.pos->AH (model prog w) (A.under (.builtin "type.__call__" ⟨.ref C::a.pos,[]⟩)) (call (.ref fI) (.ref e::a.pos))
    (λr s₃=>r= .none/\s₃.heap.get? C=ξ (excClassObj nm q C N bs bm hdct sn sub ab col dd k0 k1 k2 k3 k5 newId)/\(∃oe vs,s₃.heap.get? e=ξ oe/\oe.cls= .ref C/\oe.data= .fields vs/\vs[1]?=ξ .none)/\E (.ref e) s₃) E {s₂ with heap:=h'}) E s₁) E s):
 AH (model prog w) A (exec (.Raise (ξ (.Call (.Name x np) args [] cpos)) ζ pos) env) Q E s:=by
 rw [arm_exec_Raise]
 first
  |refine AG (wpAny_standAt (a5z (C:=C) (nm:=nm) (q:=q) (N:=N) (bs:=bs) (bm:=bm) (hdct:=hdct) (sn:=sn) (sub:=sub) (ab:=ab) (col:=col) (dd:=dd) (k0:=k0) (k1:=k1) (k2:=k2) (k3:=k3) (k5:=k5) (newId:=newId) hbase hh (AG (wpAny_mono (wpAny_Call_ofName (wpAny_mono h (λf s₁ h₁=> ?_) λ_ _ x=>x)) (λv s₃ h₃=>AG (wpAny_standAt (AR h₃))) λ_ _ x=>x))))
  |(simp only [evalOpt,Option.map];refine AG (wpAny_standAt (a5z (C:=C) (nm:=nm) (q:=q) (N:=N) (bs:=bs) (bm:=bm) (hdct:=hdct) (sn:=sn) (sub:=sub) (ab:=ab) (col:=col) (dd:=dd) (k0:=k0) (k1:=k1) (k2:=k2) (k3:=k3) (k5:=k5) (newId:=newId) hbase hh (AG (wpAny_mono (wpAny_Call_ofName (wpAny_mono h (λf s₁ h₁=> ?_) λ_ _ x=>x)) (λv s₃ h₃=>AG (wpAny_standAt (AR h₃))) λ_ _ x=>x)))))
  |(refine AG (wpAny_standAt (a5z (C:=C) (nm:=nm) (q:=q) (N:=N) (bs:=bs) (bm:=bm) (hdct:=hdct) (sn:=sn) (sub:=sub) (ab:=ab) (col:=col) (dd:=dd) (k0:=k0) (k1:=k1) (k2:=k2) (k3:=k3) (k5:=k5) (newId:=newId) hbase hh ?_));refine AG (wpAny_mono (wpAny_Call_ofName (wpAny_mono h (λf s₁ h₁=> ?_) λ_ _ x=>x)) (λv s₃ h₃=>AG (wpAny_standAt (AR h₃))) λ_ _ x=>x))
 obtain⟨rfl,h₁⟩:=h₁
 unfold callWith
 refine AG (wpAny_holding (wpAny_mono h₁ (λa s₂ h₂=>AG (wpAny_standAt ?_)) λ_ _ x=>x))
 obtain⟨apos,akw⟩:=a
 obtain⟨hkw,hlen,hC,hn,T,hfI,h₂⟩:=h₂
 obtain rfl:akw=[]:=hkw
 obtain⟨hp,g,d,tk,os⟩:=s₂
 simp only [hplain]
 refine AG (wpAny_keeperOf_exc hC ?_)
 refine AG (b3V (hrest:=hlen) F T hC hn hi hfI hfc λh' e hm=> ?_)
 refine wpAny_mono (h₂ h' e hm) (λr s₃ h₃=> ?_) λ_ _ x=>x
 obtain⟨r0,hC3,⟨oe,vs,he,hc,hd,h1⟩,hE⟩:=h₃
 exact⟨r0,AG (wpAny_holding (wpAny_point (AR ⟨e,oe,vs,rfl,hC3,he,hc,hd,h1,hE⟩)))⟩
end
open L2 PySem.W Builtin Builtin.ObjectAttr
def b1K:List AB->Bool
 | .ref _::r=>b1K r
 |l=>l==a6k
theorem b0J(self:AB):∀{l:List AB},b1K l=true->refuseLoop self "__setattr__" l=pure ()
 |[],e=>by cases e
 |v::r,e=>by
  cases v with
  |ref c=>rw [refuseLoop_ref];exact b0J self (l:=r) e
  |_=>rw [show(_::r)=a6k from beq_iff_eq.mp e];exact PySem.F.store_ValueError.passes self
theorem b4e(x:String)(hx:a6k.contains (.type x)=true):∀{l:List AB},b1K l=true->l.contains (.type x)=true
 |[],e=>by cases e
 |v::r,e=>by
  cases v with
  |ref c=>rw [List.contains_cons,b4e x hx (l:=r) e,Bool.or_true]
  |_=>rw [show(_::r)=a6k from beq_iff_eq.mp e];exact hx
def a6R(K:Frag)(C:AA):Bool:=(clsIn K C).any λcd=>b1K cd.mro && cd.hasDict
section
variable {prog:AK}{w:AJ}{A:AL}{E:AB->AC->Prop}{s:AC}{K:Frag}{x C:AA}
theorem c11{ox:Obj}{od:Υ Obj}{name:Str}{tk:Tok}{v:AB}{R:Result->AC->Prop}(X:K.In s.heap)(I:InstAt s.heap x ox C od)(hp:a6R K C=true)(ht:findIn K (.ref C) name=ξ ζ)
 (h:AH (model prog w) A.in1 (storeInOwnDict (.ref x) (.ref C) (.str name tk) name v false)
  (λfin s'=>match fin with| .done f=>R (.ok f) s'| .again c'=>c'.quiet=true/\codeAny (model prog w) A c' R s') (λe s'=>R (.error e) s') s):
 codeAny (model prog w) A (.call (.builtin "object.__setattr__") ⟨[.ref x,.str name tk,v],[]⟩) R s:=by
 have SF:=PySem.F.store_object
 obtain⟨cd,hc,ho⟩:=any_some hp
 rw [χ] at ho
 have ne:cd.mro.isEmpty=false:=by cases q:cd.mro with|nil=>rw [q] at ho;cases ho.1|cons _ _=>rfl
 have sub:Looks (model prog w) s.heap (isInstance (.ref x) (.type "object")) true:=I.type.andThen (looks_mroIn X (by unfold mroIn;rw [hc,AM,if_neg (by rw [ne];decide),b4e "object" (by decide) ho.1]))
 refine codeAny_call_builtin SF.slot.plain SF.entry (@check_slot (model prog w) _ _ s "object.__setattr__" "object" "__setattr__" (.ref x) [.str name tk,v] [] _ SF.kind SF.split sub (SF.args (.ref x) (.str name tk) v) ?_)
 have hm:Looks (model prog w) s.heap (mroOf (.ref C)) cd.mro:=(looks_clsIn X hc).andThen .now
 rw [osa_eq,refuse_eq]
 refine AG (AG (I.type.here (AG (hm.here ?_))))
 rw [b0J _ ho.1]
 refine AR (AG (I.type.here (AG ((looks_findIn X ht).here (AG ((Looks.now (M:=model prog w) (a:=(ζ:Υ AB))).here ?_))))))
 exact h
theorem b4U{name:Str}{v:AB}{vs:Array AB}{sl:Array (Υ AB)}{Q:Unit->AC->Prop}(X:K.In s.heap)(hx:s.heap.get? x=ξ ⟨.ref C,ζ,.fields vs,sl⟩)(hp:a6R K C=true)(ht:findIn K (.ref C) name=ξ ζ)
 (hs:findIn K (.ref C) "__setattr__"=ξ (ξ (.builtin "object.__setattr__")))
 (h:∀h' d tk,s.heap.get? d=ζ->s.heap.objs.size<=d->h'.get? x=ξ ⟨.ref C,ξ d,.fields vs,sl⟩->h'.Ns1 d (λy=>if y=name then ξ v else ζ)->(∀b o,b≠x->s.heap.get? b=ξ o->h'.get? b=ξ o)->Q () {s with heap:=h',toks:=tk}):
 AH (model prog w) A (setAttr (.ref x) name v) Q E s:=by
 have J:InstAt s.heap x ⟨.ref C,ζ,.fields vs,sl⟩ C ζ:=⟨hx,rfl,rfl,trivial⟩
 refine set_plain X J hs (c11 (s:={s with toks:=s.toks+1}) X J hp ht ?_)
 obtain⟨cd,hc,ho⟩:=any_some hp
 rw [χ] at ho
 refine AG (AR (AG (AG (wpAny_loadPart hx (AG (Looks.here (s:={s with toks:=s.toks+1}) (looks_clsIn X hc) ?_))))))
 rw [ho.2]
 rw [if_neg (by decide)]
 have hx1:(s.heap.push {cls:= .type "dict",data:= .dict #[]}).get? x=ξ ⟨.ref C,ζ,.fields vs,sl⟩:=AS _ hx
 have hxs:x≠s.heap.objs.size:=Ak (AW hx)
 show AH _ _ (if(!true|| !typeHasDict (.ref C))=true then pure ζ else _) _ _ _
 rw [if_neg (by simp [typeHasDict])]
 refine AG (wpAny_alloc' (AG (wpAny_update' hx1 (AR ?_))))
 have hgd:((s.heap.push {cls:= .type "dict",data:= .dict #[]}).update x λo=>{cls:=o.cls,dict:=ξ s.heap.objs.size,data:=o.data,slots:=o.slots}).get? s.heap.objs.size
  =ξ {cls:= .type "dict",data:= .dict #[]}:=(Heap.get?_update_ne _ _ _ _ hxs.symm).trans (Heap.get?_push_at rfl rfl)
 have hnd:((s.heap.push {cls:= .type "dict",data:= .dict #[]}).update x λo=>{cls:=o.cls,dict:=ξ s.heap.objs.size,data:=o.data,slots:=o.slots}).Ns s.heap.objs.size (λ_=>ζ):=
  ⟨_, #[],_,hgd,rfl,λe he=>absurd he (by simp),λ_=>rfl⟩
 show AH _ _ (storeInDict s.heap.objs.size (.str name s.toks) name v) _ _ _
 unfold storeInDict newKeyGuard
 refine AG (AR (AG (wpAny_nsSet1 (Heap.Ns1.of_empty hnd) λh' hn' hs=> ?_)))
 obtain⟨oD,esD,epD,hoD,hdD,hcD⟩:=hn'.count (Within.cons name v Within.nil)
 refine AG (wpAny_lookBehind hoD (by rw [hdD];exact pastItsLine_dict (Nat.le_trans hcD (by rw [AO,AX,sizeLine_eq];lia))) ?_)
 refine AR (h h' s.heap.objs.size _ (Heap.get?_none_of_le (AV _)) (AV _) ?_ hn' λb ob hbx hb=> ?_)
 ·exact(hs.2 x hxs).trans (Heap.get?_update_self _ hx1 rfl)
 ·exact(hs.2 b (Ak (AW hb))).trans ((Heap.get?_update_ne _ _ _ _ hbx).trans (AS _ hb))
theorem b63{name:Str}{v:AB}{d:AA}{ox:Obj}{mA:Str->Υ AB}{ns:List Str}{Q:Unit->AC->Prop}(X:K.In s.heap)(hx:s.heap.get? x=ξ ox)(hxc:ox.cls= .ref C)(hxd:ox.dict=ξ d)(hxf:∃vs,ox.data= .fields vs)(hd:s.heap.Ns1 d mA)(hp:a6R K C=true)(ht:findIn K (.ref C) name=ξ ζ)
 (hs:findIn K (.ref C) "__setattr__"=ξ (ξ (.builtin "object.__setattr__"))) (hw:Within mA ns) (hsz:ns.length<=AN)
 (h:∀h' tk,h'.Ns1 d (λy=>if y=name then ξ v else mA y)->Heap.SameBut d s.heap h'->Q () {s with heap:=h',toks:=tk}):
 AH (model prog w) A (setAttr (.ref x) name v) Q E s:=by
 obtain⟨od,hod,hl⟩:=a60 hd
 obtain⟨vs,hxf⟩:=hxf
 have J:InstAt s.heap x ox C (ξ od):=⟨hx,hxc,by unfold notCls;rw [hxf],by rw [hxd];exact hod⟩
 refine set_plain X J hs (c11 (s:={s with toks:=s.toks+1}) X J hp ht ?_)
 obtain⟨cd,hc,ho⟩:=any_some hp
 rw [χ] at ho
 obtain⟨oc,oD,ods,osl⟩:=ox
 cases hxc
 cases hxd
 cases hxf
 refine AG (AR (AG (AG (wpAny_loadPart hx (AG (Looks.here (s:={s with toks:=s.toks+1}) (looks_clsIn X hc) ?_))))))
 rw [ho.2]
 refine AR (a:=ξ d) (AG (AR (AG ?_)))
 refine wpAny_nsSet1 (s:={s with toks:=s.toks+1}) hd λh' hn2 hs2=> ?_
 obtain⟨oD,esD,epD,hoD,hdD,hcD⟩:=hn2.count (Within.cons name v hw)
 refine AG (wpAny_lookBehind hoD (by rw [hdD];exact pastItsLine_dict (Nat.le_trans hcD (by rw [AO];lia))) ?_)
 exact AR (h _ _ hn2 hs2)
theorem c45{name:Str}{v:AB}{d:AA}{ox:Obj}{mA:Str->Υ AB}{expr:Bool}{Q:AB->AC->Prop}(X:K.In s.heap)(hx:s.heap.get? x=ξ ox)(hxc:ox.cls= .ref C)(hxd:ox.dict=ξ d)(hxf:∃vs,ox.data= .fields vs)(hd:s.heap.Ns1 d mA)(hp:a6R K C=true)(ht:findIn K (.ref C) name=ξ ζ)
 (hga:findIn K (.ref C) "__getattribute__"=ξ (ξ (.builtin "BaseException.__getattribute__"))) (hgg:findIn K (.ref C) "__getattr__"=ξ ζ)
 (hv:mA name=ξ v) (hv':handedIn v=true) (h:Q v {s with toks:=s.toks+1}):
 AH (model prog w) A (getAttr (.ref x) name expr) Q E s:=by
 obtain⟨od,hod,hl⟩:=a60 hd
 obtain⟨vs,hxf⟩:=hxf
 have J:InstAt s.heap x ox C (ξ od):=⟨hx,hxc,by unfold notCls;rw [hxf],by rw [hxd];exact hod⟩
 obtain⟨cd,hc,ho⟩:=any_some hp
 rw [χ] at ho
 have ne:cd.mro.isEmpty=false:=by cases q:cd.mro with|nil=>rw [q] at ho;cases ho.1|cons _ _=>rfl
 have hh:hasDictIn K C=true:=by unfold hasDictIn;rw [hc];exact ho.2
 have L0:=J.type (M:=model prog w)
 have L1:=looks_find (M:=model prog w) X J (findObj_own hh ht rfl (by rw [hl,hv]))
 have sub:Looks (model prog w) s.heap (isInstance (.ref x) (.type "BaseException")) true:=J.type.andThen (looks_mroIn X (by unfold mroIn;rw [hc,AM,if_neg (by rw [ne];decide),b4e "BaseException" (by decide) ho.1]))
 have G:=F.attrBase_ValueError.ga
 refine AG (wpAny_mkText (wpAny_holding (AG (L0 _ _ _ _ (λ_ _ e=>e) (AG (looks_findIn X hga _ _ _ _ (λ_ _ e=>e) ?_))))))
 dsimp only
 rw [show(onTheHeap (.ref C)&& Value.builtin "BaseException.__getattribute__"==Value.builtin "object.__getattribute__")=false from by rw [show(Value.builtin "BaseException.__getattribute__"==Value.builtin "object.__getattribute__")=false from by decide+kernel,Bool.and_false],if_neg (by decide)]
 refine AG (looks_hook X (by rw [if_pos (show onTheHeap (.ref C)=true from rfl)];exact hgg) _ _ _ _ (λ_ _ e=>e) (AG (wpAny_attempt (wpAny_holding ?_))))
 unfold callGetattribute
 rw [show(expr && onTheHeap (Value.builtin "BaseException.__getattribute__"))=false from Bool.and_false _,if_neg (by decide)]
 unfold boundAndCalled
 rw [G.bind]
 refine AG (AR ?_)
 show AH _ _ (call (.builtin "BaseException.__getattribute__") [.ref x,.str name s.toks]) _ _ _
 refine wpAny_call ?_
 refine codeAny_call_builtin G.plain F.entry_bexc_ga ?_
 refine @check_slot (model prog w) _ _ {s with toks:=s.toks+1} "BaseException.__getattribute__" "BaseException" "__getattribute__" (.ref x) [.str name s.toks] [] _ (by decide+kernel) (by decide+kernel) sub (F.args_bexc_ga (.ref x) (.str name s.toks)) ?_
 obtain⟨hh',g,dr,t,os⟩:=s
 refine AG (AR (AG (AR (AG (L0.at (AG (L1.at ?_)))))))
 refine AR ?_
 show AH _ _ (handedOut v) _ _ _
 rw [handedOut_of hv'];exact AR h
end
abbrev exO(C:AA)(dd:Υ AA)(t:AA):Obj:={cls:= .ref C,dict:=dd,data:= .fields #[.ref t,.none,.none,.none,.bool false,.none]}
def XQ(a C:AA)(dd:Υ AA)(h:Heap):Prop:=∃t,h.get? a=ξ (exO C dd t)
def XD(d:AA)(fs:List (Str×V))(h:Heap):Prop:=∃mA,h.Ns1 d mA/\(∀f,a3j (fs.lookup f) (mA f))/\PySem.Within mA (fs.map (·.1))
theorem XQ.ok{P:AK}{w:AJ}{H:Hp}{h:Heap}{a C:AA}{dd:Υ AA}(x:XQ a C dd h):F9 P w H h a (.ext (XQ a C dd)):=
 ⟨x,let ⟨t,e⟩:=x;⟨_,e⟩,λh1 h2 ⟨t,e⟩ k=>⟨t,k _ e⟩⟩
theorem XD.ok{P:AK}{w:AJ}{H:Hp}{h:Heap}{d:AA}{fs:List (Str×V)}(x:XD d fs h):F9 P w H h d (.ext (XD d fs)):=
 ⟨x,let ⟨mA,⟨o,_,_,e,_⟩,_⟩:=x;⟨o,e⟩,λh1 h2 ⟨mA,n,r⟩ k=>⟨mA,n.at k,r⟩⟩
structure a9G(K:Frag)(C:AA):Prop where
 ov:a6R K C=true
 sa:findIn K (.ref C) "__setattr__"=ξ (ξ (.builtin "object.__setattr__"))
 ga:findIn K (.ref C) "__getattribute__"=ξ (ξ (.builtin "BaseException.__getattribute__"))
 gg:findIn K (.ref C) "__getattr__"=ξ ζ
 ex:a5t K C=true
section
variable {X:Cx}{pins:List (AA×Obj)}{σ:L2.St}{H:Hp}{s:AC}{a C d:AA}
theorem b9I{H:Hp}{a:AA}{o:HO}(h:H a=ξ o):A5 H a o=H:=by
 funext b
 unfold A5;split
 ·rename_i e;rw [e,h]
 ·rfl
theorem b9N{A:AL}{E:AB->AC->Prop}{us:List AB}{dd:Υ AA}{Q:AB->AC->Prop}(I:Inv X pins σ H s)(hl:us.length<=AN)(cx:a9G X.K C)(e:H a=ξ (.ext (XQ a C dd)))
 (h:∀s',Inv X pins σ H s'->Q .none s'):AH (model X.prog X.w) A (call (.builtin "ValueError.__init__") (.ref a::us)) Q E s:=by
 obtain⟨t,he⟩:=(I.hok a _ e).1
 obtain⟨tl,N,nm,q,bs,hdct,sn,sub,ab,col,ddc,k0,k1,k2,k3,k5,hC,T⟩:=b1Z I.kIn cx.ex
 have F:=PySem.F.excBase_ValueError
 obtain⟨hh,g,dr,tk,os⟩:=s
 refine wpAny_call (codeAny_call_builtin F.init.plain F.initEntry (wpAny_check_init_subT F T hC he rfl ?_))
 wp_walk
 have h1:=AS (h:=hh) {cls:= .type "tuple",data:= .seq us.toArray} he
 have hget:((hh.push {cls:= .type "tuple",data:= .seq us.toArray}).update a (Obj.mapFields λx=>x.setIfInBounds 0 (Value.ref hh.objs.size))).get? a=ξ (exO C dd hh.objs.size):=Heap.get?_update_self _ h1 rfl
 have I1:=I.write (x:=a) (e:=a) (o:= .ext (XQ a C dd)) (t':=tk) (h':=(hh.push {cls:= .type "tuple",data:= .seq us.toArray}).update a (Obj.mapFields λx=>x.setIfInBounds 0 (Value.ref hh.objs.size))) (by rw [e];trivial) (.inl rfl) (λb u hb z=>(Heap.get?_update_other _ _ (Ne.symm hb)).trans (AS _ z)) ⟨_,hget⟩ (XQ.ok ⟨_,hget⟩)
 rw [b9I e] at I1
 exact h _ I1
theorem b3u{H:Hp}{a b:AA}{o u:HO}(h:a≠b):A5 (A5 H a o) b u=A5 (A5 H b u) a o:=by
 funext c
 unfold A5
 by_cases h1:c=b
 ·rw [if_pos h1,if_neg (by rw [h1];exact Ne.symm h),if_pos h1]
 ·rw [if_neg h1]
  by_cases h2:c=a
  ·rw [if_pos h2,if_pos h2]
  ·rw [if_neg h2,if_neg h2,if_neg h1]
theorem b40{A:AL}{E:AB->AC->Prop}{f:Str}{y:V}{u:AB}{Q:Unit->AC->Prop}(I:Inv X pins σ H s)(hx0:X.ex=[])(cx:a9G X.K C)(n:G5 X.K C f)(e:H a=ξ (.ext (XQ a C ζ)))(ry:y4 y u)
 (h:∀s' d,d≠a->H d=ζ->Inv X pins σ (A5 (A5 H d (.ext (XD d [(f,y)]))) a (.ext (XQ a C (ξ d)))) s'->Q () s'):AH (model X.prog X.w) A (setAttr (.ref a) f u) Q E s:=by
 obtain⟨t,he⟩:=(I.hok a _ e).1
 refine b4U I.kIn he cx.ov n cx.sa λh' d tk hd hsz hx hns hk=> ?_
 have hda:d≠a:=λz=>by rw [z,he] at hd;cases hd
 have hdn:H d=ζ:=I.hok.fresh hsz
 have xd:XD d [(f,y)] h':=⟨_,hns,λg=>by
  show a3j (List.lookup g [(f,y)]) (if g=f then ξ u else ζ)
  rw [List.lookup_cons]
  by_cases q:g=f
  ·rw [if_pos q,q,beq_self_eq_true];exact ry
  ·rw [if_neg q];rw [show(g==f)=false from by simpa using q]
   exact True.intro,λg hg=>by
  by_cases q:g=f
  ·rw [q];exact List.mem_singleton.mpr rfl
  ·exact absurd (if_neg q) hg⟩
 have I1:Inv X pins σ (A5 H a (.ext (XQ a C (ξ d)))) {s with heap:=h',toks:=tk}:=
  I.write (x:=a) (e:=a) (o:= .ext (XQ a C (ξ d))) (t':=tk) (by rw [e];trivial) (.inl rfl) hk ⟨_,hx⟩ (XQ.ok ⟨t,hx⟩)
 have ap:Ap X pins d:=apart I hx0 hd
 have I2:=I1.track (o:= .ext (XD d [(f,y)])) (by rw [l6 hda];exact hdn) ap (XD.ok xd)
 rw [b3u (Ne.symm hda)] at I2
 exact h _ d hda hdn I2
theorem b7c{A:AL}{E:AB->AC->Prop}{f:Str}{y:V}{u:AB}{fs:List (Str×V)}{Q:Unit->AC->Prop}(I:Inv X pins σ H s)(cx:a9G X.K C)(n:G5 X.K C f)(e:H a=ξ (.ext (XQ a C (ξ d))))(ed:H d=ξ (.ext (XD d fs)))(hl:fs.length<1000)(ry:y4 y u)
 (h:∀s',Inv X pins σ (A5 H d (.ext (XD d (a2w f y fs)))) s'->Q () s'):AH (model X.prog X.w) A (setAttr (.ref a) f u) Q E s:=by
 obtain⟨t,he⟩:=(I.hok a _ e).1
 obtain⟨mA,hns,r,wi⟩:=(I.hok d _ ed).1
 have hz:(fs.map (·.1)).length<=AN:=by rw [AY,sizeLine_eq];lia
 refine b63 I.kIn he rfl rfl ⟨_,rfl⟩ hns cx.ov n cx.sa wi hz λh' tk hn2 sb=>h _ ?_
 have hd:∃o,h'.get? d=ξ o:=by obtain⟨o,_,_,e',_⟩:=hn2;exact⟨o,e'⟩
 refine I.write (x:=d) (e:=d) (by rw [ed];trivial) (.inl rfl) (λb q hb z=>(sb.2 b hb).trans z) hd (XD.ok ⟨_,hn2,λg=> ?_,λg hg=> ?_⟩)
 ·show a3j ((a2w f y fs).lookup g) (if g=f then ξ u else mA g)
  rw [a30]
  by_cases q:g=f
  ·rw [if_pos q,if_pos q];exact ry
  ·rw [if_neg q,if_neg q];exact r g
 ·by_cases q:g=f
  ·rw [q];exact(a2q f y fs).1
  ·refine(a2q f y fs).2 g (wi g λz=>hg ?_)
   show(if g=f then ξ u else mA g)=ζ
   rw [if_neg q];exact z
end
def tXS(K:Frag)(t:TA):TS:=λD σ H=>t σ H λvs H1=>∃a C dd ws,vs= .ref a::ws/\ws.length<=AN/\a9G K C/\H1 a=ξ (.ext (XQ a C dd))/\D.nx σ H1
def sX(K:Frag)(ta tv:TE)(f:Str):TS:=λD σ H=>tv σ H λy H1=>ta σ H1 λx H2=>∃a C,x= .ref a/\a9G K C/\G5 K C f/\
 ((H2 a=ξ (.ext (XQ a C ζ))/\∀d,d≠a->H2 d=ζ->D.nx σ (A5 (A5 H2 d (.ext (XD d [(f,y)]))) a (.ext (XQ a C (ξ d)))))\/
  ∃d fs,H2 a=ξ (.ext (XQ a C (ξ d)))/\H2 d=ξ (.ext (XD d fs))/\fs.length<1000/\D.nx σ (A5 H2 d (.ext (XD d (a2w f y fs)))))
section
variable {X:Cx}
theorem b9i{CE:AA}{x:Str}{np apos cpos pos:Pos}{e:AF}{es:List AF}{t:TA}{pl:Sem Bool}(hg:Gl X x)(hm:X.mg x=ξ (.ref CE))(hr:readsIn X.K CE (.type "type")=true)
 (hf:findCls X.K (.ref CE) (.type "type") "__init__"=ξ (.val (.builtin "ValueError.__init__"))) (hs:specialIn X.K (.ref CE) "__getattribute__"=ξ (ξ (.builtin "type.__getattribute__"))) (ha:PA X (e::es) t)
 (hsw:swapsWith (.Call (.Attribute (.Name x np) "__init__" apos) (e::es) [] cpos) ζ pos.line X.env=pure false:=by rfl)
 (hdb:Δ x:=by decide) (he:Ψ e es X.env:=by rfl) (hpl:Φ₁ cpos es X.env:=by rfl)
 (ht:eval (.Call (.Attribute (.Name x np) "__init__" apos) (e::es) [] cpos) X.env=(do
  let ov<-eval (.Name x np) X.env
  standAt apos.atName
  let (f,first)<-holding [ov] (getMethod ov "__init__" pl)
  callWith cpos f first (backTo cpos (AI (e::es) X.env)) (backToKw cpos (keywordEach [] X.env))):=by rfl):
 PS X (.Expr (.Call (.Attribute (.Name x np) "__init__" apos) (e::es) [] cpos) pos) (tXS X.K t):=by
 have h1:PE X (.Call (.Attribute (.Name x np) "__init__" apos) (e::es) [] cpos) (λσ H Q=>t σ H λvs H1=>∃a C dd ws,vs= .ref a::ws/\ws.length<=AN/\a9G X.K C/\H1 a=ξ (.ext (XQ a C dd))/\Q .non H1):=by
  ext s
  refine methodCall_KW (pl:=pl) (a0p I hg hm ?_ hdb) ht;refine method_cls I.kIn hs (cls_value I.kIn hr hf rfl ?_);refine PyProof.Rows.callWith_builtin1 (M9 (ha cpos pins _ σ H _ (I.tok _) h) λus s1 ⟨vs,H1,I1,r1,a,C,dd,ws,ev,hl,cx,ea,q⟩=> ?_) he hpl;subst ev;cases r1 with
  |cons r1 r2=>
   cases r1;exact b9N I1 (by rw [<-r2.length];exact hl) cx ea λs' I'=>⟨.non,H1,I',rfl,q⟩
 exact b1N h1 hsw
theorem c1c{o value:AF}{f:Str}{ta tv:TE}{pos pos':Pos}(hx0:X.ex=[])(ha:PE X o ta)(hv:PE X value tv)(hs:swapsWith value (ξ (.Attribute o f pos')) pos.line X.env=pure false:=by rfl):PS X (.Assign [.Attribute o f pos'] value pos) (sX X.K ta tv f):=by
 ext a9
 refine plainObj_wpAny_Assign_Attribute (M9 (hv pins s σ H _ I h) λu s1 h0=>w8 h0 λy H1 I1 ry q=>M9 (ha pins s1 σ H1 _ I1 q) λov s2 ⟨x,H2,I2,rx,a,C,ex,cx,n,q2⟩=> ?_) hs;subst ex;obtain rfl:ov=Value.ref a:=rx;rcases q2 with⟨e,q2⟩|⟨d,fs,e,ed,hl,q2⟩
 ·exact b40 I2 hx0 cx n e ry λs3 d h1 h2 I3=>⟨σ,_,I3,q2 d h1 h2⟩
 ·exact b7c I2 cx n e ed hl ry λs3 I3=>⟨σ,_,I3,q2⟩
end
def tVs:Nat->Nat->TA
 |_,0=>b9C
 |i,n+1=>b3r (a9A i) (tVs (i+1) n)
theorem b5V{σ:L2.St}{H:Hp}:∀(n i:Nat) (ws:List V) (Q:List V->Hp->Prop),ws.length=n->(∀j w,ws[j]?=ξ w->σ[i+j]?=ξ (ξ w))->Q ws H->tVs i n σ H Q
 |0,_,ws,Q,h,_,q=>by cases ws with
  |nil=>exact q
  |cons _ _=>cases h
 |n+1,i,ws,Q,h,hs,q=>by
  cases ws with
  |nil=>cases h
  |cons w ws=>
   exact⟨w,hs 0 w rfl,b5V n (i+1) ws _ (Nat.succ.inj h) (λj u hj=>by
    have:=hs (j+1) u (by simpa using hj)
    rwa [show i+(j+1)=i+1+j by lia] at this) q⟩
def tXl(K:Frag):Nat->List Str->TS
 |_,[]=>b9B
 |i,f::r=>b65 (sX K (a9A 0) (a9A i) f) (tXl K (i+1) r)
theorem b5W{K:Frag}{C:AA}(c:a9G K C){a d:AA}{D:U7}{σ:L2.St}(h0:σ[0]?=ξ (ξ (.ref a))):∀(fs:List Str) (i:Nat) (gs:List (Str×V)) (ws:List V) (H:Hp),
 (∀f∈fs,G5 K C f)->fs.Nodup->(∀f∈fs,f∉gs.map (·.1))->gs.length+fs.length<=1000->ws.length=fs.length->(∀j w,ws[j]?=ξ w->σ[i+j]?=ξ (ξ w))->d≠a->H a=ξ (.ext (XQ a C (ξ d)))->H d=ξ (.ext (XD d gs))->
 D.nx σ (A5 H d (.ext (XD d (gs++fs.zip ws))))->tXl K i fs D σ H
 |[],i,gs,ws,H,_,_,_,_,_,_,_,_,hH,k=>by
  rw [List.zip_nil_left,Al,b9I hH] at k;exact k
 |f::fs,i,gs,ws,H,hn,nd,hd,hl,hw,hs,hda,ha,hH,k=>by
  cases ws with
  |nil=>cases hw
  |cons w ws=>
   have hl':gs.length+(fs.length+1)<=1000:=hl;refine⟨w,hs 0 w rfl,.ref a,h0,a,C,rfl,c,hn f AZ,.inr ⟨d,gs,ha,hH,by lia, ?_⟩⟩
   have hp:=a9g (v:=w) (hd f AZ);rw [hp];rw [List.nodup_cons] at nd;refine b5W c h0 fs (i+1) (gs++[(f,w)]) ws _ (λg hg=>hn g (Af _ hg)) nd.2 (λg hg=> ?_) (by simp only [AQ,AO,AX];lia) (Nat.succ.inj hw) (λj u hj=> ?_) hda (by rw [l6 (Ne.symm hda)];exact ha) p9 ?_
   ·simp only [Ax,AT,Ae,Av,List.mem_singleton,not_or];exact⟨hd g (Af _ hg),λe=>nd.1 (e▸hg)⟩
   ·have:=hs (j+1) u (by simpa using hj)
    rwa [show i+(j+1)=i+1+j by lia] at this
   ·rw [a8a,List.append_assoc];exact k
def c1s(C:AA)(fs:List Str):Sp:=λvs H Q _=>∃a ws,vs= .ref a::ws/\ws.length=fs.length/\H a=ξ (.ext (XQ a C ζ))/\∀d,d≠a->H d=ζ->Q .non (A5 (A5 H d (.ext (XD d (fs.zip ws)))) a (.ext (XQ a C (ξ d))))
theorem c0j{P:AK}{w:AJ}{K:Frag}{mg:Str->Υ AB}{base:Heap}{qual:Str}{st:Stmt}{f C:AA}{fd:FuncData}{ps:List Str}{f0:Str}{fs:List Str}{k:Nat}(F:Fun K "__init__" qual st f fd)(S:g8 ps ps (d4 st))(hl:ps.length=fs.length+2)
 (c:a9G K C) (na:∀f∈f0::fs,G5 K C f) (nd:(f0::fs).Nodup) (hs:fs.length<=900)
 (hb:∀(cdv:AB) (A:AL) (outer:List Env) (s:AC) (H:Hp) (E:XK),G3 k (A.deeper (envOfC qual (d4 st) s.heap.objs.size f cdv))->PSs (a2j CX0 P w K mg base ps qual (d4 st) f cdv A outer s H E).nox (C4 st) (b65 (tXS K (tVs 0 (fs.length+2))) (tXl K 1 (f0::fs)))):
 P4 P w K mg base CX0 (k+1) f fd ps (c1s C (f0::fs)):=by
 refine F.ok S (λvs H Q E h=> ?_) (λcdv A outer s H vs Q E hr h=> ?_)
 ·obtain⟨a,ws,rfl,h2,_⟩:=h
  rw [AO,h2,hl];rfl
 ·obtain⟨a,ws,rfl,h2,hH,q⟩:=h
  refine⟨_,hb cdv A outer s H E hr, ?_⟩
  have at_:∀j u,(V.ref a::ws)[j]?=ξ u->(a1s ps (V.ref a::ws))[0+j]?=ξ (ξ u):=λj u hj=>by
   unfold L2.a1s;rw [Nat.zero_add,BB (by rw [AY];exact(Au.mp hj).1),Aw,hj]
   rfl
  have hw:ws.length=fs.length+1:=h2
  unfold b65 tXS
  refine b5V (σ:=a1s ps (V.ref a::ws)) (H:=H) (fs.length+2) 0 (V.ref a::ws) _ (by rw [AO,hw]) at_ ?_
  refine⟨a,C,ζ,ws,rfl,by rw [sizeLine_eq];lia,c,hH, ?_⟩
  cases ws with
  |nil=>cases hw
  |cons w1 ws=>
   rw [List.nodup_cons] at nd
   refine⟨w1,at_ 1 w1 rfl,.ref a,at_ 0 _ rfl,a,C,rfl,c,na f0 AZ,.inl ⟨hH,λd h1 h3=> ?_⟩⟩
   refine b5W (d:=d) c (at_ 0 _ rfl) fs 2 [(f0,w1)] ws _ (λg hg=>na g (Af _ hg)) nd.2 (λg hg z=>nd.1 (by have e:g=f0:=List.mem_singleton.mp z;rw [<-e];exact hg)) (by simp only [AO,AX];lia) (Nat.succ.inj hw) (λj u hj=> ?_) h1 p9 (by rw [l6 h1,p9]) ?_
   ·have:=at_ (j+2) u (by simpa using hj)
    rwa [show 0+(j+2)=2+j by lia] at this
   ·rw [b3u (Ne.symm h1),a8a]
    exact q d h1 h3
def rem(H:Hp)(a:AA):Hp:=λb=>if b=a then ζ else H b
theorem b3j{H:Hp}{a:AA}:rem H a a=ζ:=by unfold rem;rw [if_pos rfl]
theorem a5A{H:Hp}{a b:AA}(h:b≠a):rem H a b=H b:=by unfold rem;rw [if_neg h]
section
variable {X:Cx}{pins:List (AA×Obj)}{σ:L2.St}{H:Hp}{s:AC}
theorem _root_.L2.Inv.untrack{a:AA}{φ:Heap->Prop}(I:Inv X pins σ H s)(e:H a=ξ (.ext φ)):Inv X pins σ (rem H a) s:=by
 have no:∀b u,H b=ξ u->(∀φ,u≠.ext φ)->b≠a:=λb u q n z=>by
  rw [z,e] at q;cases q;exact n φ rfl
 have dn:∀b,H b=ζ->rem H a b=ζ:=λb h=>by
  by_cases hb:b=a
  ·rw [hb,b3j]
  ·rw [a5A hb];exact h
 exact⟨I.ok,I.os,I.bare,⟨I.base.keep,I.base.slot,λb ob q n hx=>dn b (I.base.free b ob q n hx),I.base.there,
  λb xs q=>by have:=I.base.tups b xs q;rw [a5A (no b _ this λ_ z=>nomatch z)];exact this,
  λb ob u q=>by have:=I.base.frzs b ob u q;rw [a5A (no b _ this λ_ z=>nomatch z)];exact this,
  λb ps q=>by obtain⟨more,this⟩:=I.base.tbls b ps q;exact⟨more,by rw [a5A (no b _ this λ_ z=>nomatch z)];exact this⟩⟩,
  I.loc,I.cell,dn _ I.free,λx c q=>dn _ (I.freeC x c q),λp hp=>by
   obtain⟨h1,h2,h3⟩:=I.pin p hp;exact⟨h1,dn _ h2,h3⟩,λb u q=>by
   by_cases hb:b=a
   ·rw [hb,b3j] at q;cases q
   ·rw [a5A hb] at q;exact(I.hok b u q).stay (λc v _ z=>z) (λc z=>by rw [a5A (no c _ z λ_ y=>nomatch y)];exact z) λc xs z=>by rw [a5A (no c _ z λ_ y=>nomatch y)];exact z,I.len⟩
end
theorem b4A{K:Frag}{h:Heap}{N:AA}{mg:Str->Υ AB}{n:Str}{v:AB}(X:K.In h)(G:h.Ns N mg)(e:nsIn K N n=ξ (ξ v)):mg n=ξ v:=by
 obtain⟨o,es,ep,ho,hd,_,hf⟩:=G;unfold nsIn at e;split at e
 ·rename_i c d es' n' sl q;have:=X _ _ q;rw [ho] at this;cases this;cases hd;split at e
  ·rename_i en he;cases e;rw [<-hf];unfold nsFind findBy;rw [<-Array.find?_toList,he]
   rfl
  ·split at e<;>cases e
 ·cases e
def a8E(K:Frag)(C f:AA):Bool:=b7V K C λns=>nsOkIn K ns && nsIn K ns "__init__"==ξ (ξ (.ref f))
theorem c1H{K:Frag}{h:Heap}{C f:AA}(X:K.In h)(q:a8E K C f=true):∃tl N nm q bs hdct sn sub ab col dd k0 k1 k2 k3 k5,
 h.get? C=ξ (excClassObj nm q C N bs tl hdct sn sub ab col dd k0 k1 k2 k3 k5 "ValueError.__new__")/\h.Ns N (h.nsMap N)/\h.nsMap N "__init__"=ξ (.ref f)/\OwnTail h a6k tl:=by
 obtain⟨tl,N,nm,q,bs,hdct,sn,sub,ab,col,dd,k0,k1,k2,k3,k5,h1,h2,h3⟩:=b5c X q
 rw [χ] at h3
 have h5:=Heap.Ns.of_isNs (isNs_of_in X h3.1)
 exact⟨tl,N,nm,q,bs,hdct,sn,sub,ab,col,dd,k0,k1,k2,k3,k5,h1,h5,b4A X h5 (beq_iff_eq.mp h3.2),h2⟩
theorem c2H{K:Frag}{f:AA}(h:PySem.W.isFn K (.ref f)=true):∃o,K.lookup f=ξ o/\o.cls= .type "function":=by
 have h:(K.lookup f).map (·.cls)=ξ (.type "function"):=beq_iff_eq.mp h;obtain⟨o,h1,h2⟩:=Option.map_eq_some_iff.mp h;exact⟨o,h1,h2⟩
section
variable {X:Cx}{x:Str}{C:AA}{np cpos pos:Pos}{e₀:AF}{rest:List AF}{t:TA}{W:Υ AA->Hp->Prop}
theorem b6R{k:Nat}{f:AA}{fd:FuncData}{ps:List Str}{f0:Str}{fs:List Str}(G:P4 X.prog X.w X.K X.mg X.base CX0 k f fd ps (c1s C (f0::fs)))(hr:G3 (k+1) X.A)(hb:V5 X.K fd ps [])(hi:a8E X.K C f=true)(hfn:PySem.W.isFn X.K (.ref f)=true)
 (hc:X.calm=true) (hx0:X.ex=[]) (hg:Gl X x) (hm:X.mg x=ξ (.ref C)) (ha:PA X (e₀::rest) t)
 (hxe:∀(pins:List (AA×Obj)) (σ:L2.St) (H:Hp) (s:AC) (a:AA) (dd:Υ AA),Inv X pins σ H s->Ex0 s.heap a C dd->X.s₀.heap.get? a=ζ->H a=ζ->W dd H->X.xe (.ref a) s)
 (he:Ψ e₀ rest X.env:=by rfl) (hplain:Φ₁ cpos rest X.env:=by rfl) (hdb:Δ x:=by decide):
 PS X (.Raise (ξ (.Call (.Name x np) (e₀::rest) [] cpos)) ζ pos) (λ_ σ H=>t σ H λvs H1=>vs.length=fs.length+1/\vs.length<=AN/\∀d,H1 d=ζ->W (ξ d) (A5 H1 d (.xd ((f0::fs).zip vs)))):=by
 intro pins s σ H D I h
 obtain⟨tl,N,nm,q,bs,hdct,sn,sub,ab,col,dd,k0,k1,k2,k3,k5,hC,hN,hni,T⟩:=c1H I.ok.mod.kin hi
 obtain⟨oI,hoI,hfc⟩:=c2H hfn
 have FB:=F.excBase_ValueError
 refine b3h (C:=C) (nm:=nm) (q:=q) (N:=N) (bs:=bs) (bm:=tl) (hdct:=hdct) (sn:=sn) (sub:=sub) (ab:=ab) (col:=col) (dd:=dd) (k0:=k0) (k1:=k1) (k2:=k2) (k3:=k3) (k5:=k5)
  FB (T.hasType FB.hasBase) (I.ok.hd hc) (by rw [he];show(false||(backTo cpos (AI rest X.env)).any (·.1))=false;rw [hplain];rfl) hni hfc (a0p I hg hm ⟨rfl, ?_⟩ hdb)
 have hA:=ha cpos pins s σ H _ I h
 rw [he] at hA ⊢
 refine Calls.evalArgs_plain (M9 hA λus s2 ⟨vs,H2,I2,r2,hlen,hl,q2⟩=>⟨rfl,by rw [<-r2.length];exact hl,I2.bk _ _ hC,hN.keeps I2.bk,T.keeps I2.bk,I2.kIn _ _ hoI,λh' e hmk=> ?_⟩)
 obtain⟨tt,h1,_,_⟩:=hmk.there
 have hn:H2 e=ζ:=by
  cases h:H2 e with
  |none=>rfl
  |some o=>
   obtain⟨ob,z⟩:=a8d (I2.hok e o h);rw [hmk.new] at z;cases z
 have ap:Ap X pins e:=apart I2 hx0 hmk.new
 have I3:Inv X pins σ H2 {s2 with heap:=h'}:=I2.kept (t':=s2.toks) hmk.keeps
 have I4:=I3.track (o:= .ext (XQ e C ζ)) hn ap (XQ.ok ⟨tt,h1⟩)
 have r4:y0 (V.ref e::vs) (Value.ref e::us):= .cons rfl r2
 have sp:c1s C (f0::fs) (V.ref e::vs) (A5 H2 e (.ext (XQ e C ζ))) (λv H3=>v= .non/\∃d,d≠e/\H2 d=ζ/\H3=A5 (A5 (A5 H2 e (.ext (XQ e C ζ))) d (.ext (XD d ((f0::fs).zip vs)))) e (.ext (XQ e C (ξ d)))) (λ_ _ _=>False):=
  ⟨e,vs,rfl,hlen,p9,λd h1 h2=>⟨rfl,d,h1,by rw [l6 h1] at h2;exact h2,rfl⟩⟩
 have hps:(Value.ref e::us).length=ps.length:=by rw [<-r4.length];exact G.len _ _ _ _ sp
 have hb':=hb {s2 with heap:=h'} (Value.ref e::us) I4.kIn (by rw [Al];exact hps)
 rw [Al] at hb'
 refine wpAny_call (codeAny_mono (G.run _ X.stack _ _ ⟨Value.ref e::us,[]⟩ (Value.ref e::us) _ _ (λ_ _ _=>False) (hr.make C us []) (I4.env0.make C us []) hb' r4 sp) λr s' hq'=> ?_)
 cases r with
 |error e=>exact b3f pins σ _ _ e s' I4 hq'
 |ok fl=>
  cases fl with
  |ret u=>
   obtain⟨v,H',I5,rv,ev,d,hde,hd2,eH⟩:=I4.after hq'
   subst ev
   subst eH
   have e5:A5 (A5 (A5 H2 e (.ext (XQ e C ζ))) d (.ext (XD d ((f0::fs).zip vs)))) e (.ext (XQ e C (ξ d))) d=ξ (.ext (XD d ((f0::fs).zip vs))):=by rw [l6 hde,p9]
   obtain⟨t2,h2⟩:=(I5.hok e _ p9).1
   obtain⟨mA,hns,rel,_⟩:=(I5.hok d _ e5).1
   have I6:=I5.write (x:=d) (e:=d) (o:= .xd ((f0::fs).zip vs)) (h':=s'.heap) (t':=s'.toks) (by rw [e5];trivial) (.inl rfl) (λb u hb z=>z) (let ⟨o,_,_,z,_⟩:=hns;⟨o,z⟩) ⟨mA,hns,rel⟩
   have I7:=I6.untrack (a:=e) (φ:=XQ e C (ξ d)) (by rw [l6 (Ne.symm hde),p9])
   have eq:rem (A5 (A5 (A5 (A5 H2 e (.ext (XQ e C ζ))) d (.ext (XD d ((f0::fs).zip vs)))) e (.ext (XQ e C (ξ d)))) d (.xd ((f0::fs).zip vs))) e=A5 H2 d (.xd ((f0::fs).zip vs)):=by
    funext b
    unfold rem A5
    by_cases hb:b=e
    ·rw [if_pos hb,if_neg (by rw [hb];exact Ne.symm hde),hb,hn]
    ·rw [if_neg hb]
     by_cases hb2:b=d
     ·rw [if_pos hb2,if_pos hb2]
     ·rw [if_neg hb2,if_neg hb2,if_neg hb,if_neg hb2,if_neg hb]
   rw [eq] at I7
   refine⟨rv,I5.bk _ _ hC,⟨_,_,h2,rfl,rfl,rfl⟩, ?_⟩
   exact hxe pins σ _ s' e (ξ d) I7 ⟨_,_,h2,rfl,rfl,rfl,rfl⟩ ap.1 (by rw [l6 (Ne.symm hde)];exact hn) (q2 d hd2)
  |next=>exact False.elim hq'
  |brk=>exact False.elim hq'
  |cont=>exact False.elim hq'
end
def b9R(P:AK)(w:AJ)(K:Frag)(mg:Str->Υ AB)(base:Heap)(x:Str)(fs:List Str)(k:Nat):Prop:=
 ∃C f fd ps f0 r,fs=f0::r/\fs.length<=900/\P4 P w K mg base CX0 k f fd ps (c1s C (f0::r))/\mg x=ξ (.ref C)/\V5 K fd ps []/\a8E K C f=true/\PySem.W.isFn K (.ref f)=true
def b0C(x:Str)(fs:List Str)(m:MA):MX:=λρ=>(m ρ).bind λqs=>ξ (.rz ⟨x,c1I fs qs⟩ ρ)
section
variable {X:Cx}
theorem a6S{E1:XK}{k k':Nat}{fs:List Str}{x:Str}{np cpos pos:Pos}{e₀:AF}{rest:List AF}{m:MA}(hc:X.calm=true)(hx0:X.ex=[])(hg:Gl X x)(d:b9R X.prog X.w X.K X.mg X.base x fs k)(hr:G3 k' X.A)(hk:k+1<=k')(hn:∀ρ qs,m ρ=ξ qs->qs.length=fs.length)(ha:EA X (e₀::rest) m)
 (hxe:∀(pins:List (AA×Obj)) (σ:L2.St) (H:Hp) (s:AC) (a C:AA) (dd:Υ AA),Inv X pins σ H s->Ex0 s.heap a C dd->X.s₀.heap.get? a=ζ->H a=ζ->E1 (.ref C) dd H->X.xe (.ref a) s)
 (he:Ψ e₀ rest X.env:=by rfl) (hplain:Φ₁ cpos rest X.env:=by rfl) (hdb:Δ x:=by decide):
 EX X (λ_=>E1) (.Raise (ξ (.Call (.Name x np) (e₀::rest) [] cpos)) ζ pos) (b0C x fs m):=by
 obtain⟨C,f,fd,ps,f0,r,rfl,hl,G,hm,hb,hi,hfn⟩:=d
 refine G6 (b6R (W:=λdd H=>E1 (.ref C) dd H) G (hr.mono hk) hb hi hfn hc hx0 hg hm ha (λpins σ H s a dd I x h0 hn w=>hxe pins σ H s a C dd I x h0 hn w) he hplain hdb) λD σ H h0=>a5R h0 λF0 H0 F ρ fx so e fin=> ?_
 obtain⟨qs,e1,e⟩:=bind_some e
 cases e
 obtain⟨C',h1,h2⟩:=fin
 have h1:X.mg x=ξ (.ref C'):=h1
 rw [hm] at h1
 cases h1
 refine⟨F,ρ,qs,so.e,e1,λvs F1 H1 y rl=> ?_⟩
 have hq:=hn _ _ e1
 have hv:vs.length=r.length+1:=by rw [rl.length,hq];rfl
 have hl':r.length+1<=900:=hl
 refine⟨hv,by rw [hv,sizeLine_eq];lia,λd hd=> ?_⟩
 have x3:Ext F1 H1 (A5 F1 d (.xd ((f0::r).zip vs))) (A5 H1 d (.xd ((f0::r).zip vs))):=Ext.lay y.fh hd
 refine h2 σ (ξ d) _ _ (y.trans x3).f (so.ext (y.trans x3)) (.inr ⟨d,_,rfl,p9, ?_,a3k.mono x3.f _ (a9j rl)⟩)
 cases qs with
 |nil=>cases hq
 |cons q qs=>intro z;cases z
end
def a96(K:Frag)(tab:List Str)(f:Str):Prop:=∀x,tab.contains x=true->∀C,M4 K x C->a9G K C/\G5 K C f
def gFx(tab:List Str)(f:Str)(r:g0):Υ g0:=match r with
 | .v (.dict ((.str x,.int 0)::es))=>if tab.contains x=true then(a7O f es).map .v else ζ
 |_=>ζ
theorem c40{K:Frag}{F:Hp}{x:Str}{es:List (PV×PV)}{v:V}(h:P5 K F (.dict ((.str x,.int 0)::es)) v):∃(a C dx:AA) (φ:Heap->Prop) (fs:List (Str×V)),v= .ref a/\F a=ξ (.ext φ)/\(∀h:Heap,φ h->∃oe vs,h.get? a=ξ oe/\oe.cls= .ref C/\oe.data= .fields vs/\oe.dict=ξ dx)/\F dx=ξ (.xd fs)/\M4 K x C/\a3k K F es fs:=by
 rcases h with⟨a,ys,_,_,kk,w,t,_,z,_⟩|⟨a,ys,_,_,kk,w,t,_,z,_⟩|⟨y,t,e,h⟩|⟨y,m,fs,ho,hf⟩
 ·cases z
 ·cases z
 ·cases e;rcases h with⟨z,_⟩|⟨z,_⟩<;>cases z
 ·obtain⟨g,v',t,e,z,r,rt⟩:=hf;cases e;cases z;rcases ho with⟨rfl,_⟩|⟨rfl,a,C,dx,φ,e,q,k,d,n⟩
  ·cases r
  ·exact⟨a,C,dx,φ,fs,e,q,k,d,n,rt⟩
section
variable {X:Cx}
theorem b7N{tab:List Str}{f:Str}{e:AF}{m:M}{pos:Pos}(T:a96 X.K tab f)(ha:EE X e m)(hb:attributeBase e f X.env (eval e X.env)=eval e X.env:=by rfl):EE X (.Attribute e f pos) (m1 (gFx tab f) m):=by
 have h0:PE X (.Attribute e f pos) (λσ H Q=>tM X.K m σ H λv H1=>∃F1 x es q,u3 F1 H1/\P5 X.K F1 (.dict ((.str x,.int 0)::es)) v/\tab.contains x=true/\a7O f es=ξ q/\∀u,P5 X.K F1 q u->Q u H1):=by
  ext s
  refine b45 hb (M9 (ha pins s σ H _ I h) λu s1 ⟨v,H1,I1,rx,F1,x,es,q,sm,rp,hc,hp,k⟩=> ?_);obtain⟨a,C,dx,φ,fs,rfl,q1,k1,d1,nm,hr⟩:=c40 rp;obtain rfl:u=Value.ref a:=rx;obtain⟨oe,vs,g1,g2,g3,g4⟩:=k1 _ (I1.hok a _ (sm _ _ q1)).1;obtain⟨mA,hns,rel⟩:=I1.hok dx _ (sm _ _ d1);obtain⟨v2,hl,rv⟩:=b1f hr hp;obtain⟨cx,n⟩:=T x hc C nm;obtain⟨u2,hu,ru⟩:=a3j.some_of (v:=v2) (o:=mA f) (by rw [<-hl];exact rel f)
  exact c45 I1.kIn g1 g2 g4 ⟨vs,g3⟩ hns cx.ov n cx.ga cx.gg hu (b0u ru) ⟨v2,H1,I1.tok _,ru,k v2 rv⟩
 exact B1 h0 λσ H Q h0=>z9 h0 λF ρ r en em k=>by
  obtain⟨rx,e1,e2⟩:=bind_some em;refine⟨F,ρ,rx,en,e1,λv F1 H1 o=> ?_⟩;unfold gFx at e2;split at e2
  ·rename_i x es;split at e2
   ·rename_i hc;cases hp:a7O f es with
    |none=>rw [hp] at e2;cases e2
    |some q=>
     rw [hp] at e2;cases e2;exact⟨F1,x,es,q,o.x.fh,o.rep,hc,hp,λu ru=>k u F1 H1 (B5.val o.x ru)⟩
   ·cases e2
  ·cases e2
end
structure KX(K:Frag)(x:Str)(C:AA):Prop where
 cls:a9G K C
 named:M4 K x C
def c21(K:Frag)(C:AA):Bool:=a6R K C && findIn K (.ref C) "__setattr__"==ξ (ξ (.builtin "object.__setattr__"))&& findIn K (.ref C) "__getattribute__"==ξ (ξ (.builtin "BaseException.__getattribute__"))&& findIn K (.ref C) "__getattr__"==ξ ζ && a5t K C
theorem c4q{K:Frag}{x:Str}{C:AA}(e:nsIn K mainGlobals x=ξ (ξ (.ref C)))(q:(V3 K C x && c21 K C)=true):KX K x C:=by
 rw [χ] at q;obtain⟨q1,q2⟩:=q;unfold c21 at q2;simp only [χ,beq_iff_eq] at q2;obtain⟨⟨⟨⟨h1,h2⟩,h3⟩,h4⟩,h5⟩:=q2;refine⟨⟨h1,h2,h3,h4,h5⟩,e, ?_⟩;unfold V3 at q1;split at q1
 ·rename_i oc od cd sl hk;exact⟨oc,od,cd,sl,hk,beq_iff_eq.mp q1⟩
 ·cases q1
theorem b6i{K:Frag}{f:Str}:a96 K [] f:=λ_ h=>nomatch h
theorem b33{K:Frag}{f x:Str}{C:AA}{t:List Str}(c:KX K x C)(n:G5 K C f)(h:a96 K t f):a96 K (x::t) f:=λy q D nm=>by
 rw [List.contains_cons,Bool.or_eq_true] at q;rcases q with q|q
 ·rw [beq_iff_eq.mp q] at nm;cases nm.uniq c.named;exact⟨c.cls,n⟩
 ·exact h y q D nm
section
variable {P:AK}{w:AJ}{K:Frag}{mg:Str->Υ AB}{base:Heap}
theorem b8j{x qual:Str}{st:Stmt}{ps:List Str}{f0:Str}{fs:List Str}{k:Nat}{f C:AA}(D:Dm K "__init__" qual st f)(S:g8 ps ps (d4 st))(hl:ps.length=fs.length+2)(c:KX K x C)(hm:mg x=ξ (.ref C))(hi0:a8E K C f=true)(na:∀f∈f0::fs,G5 K C f)(nd:(f0::fs).Nodup)(hs:fs.length<=800)
 (hi:∀(kV doc pm:AB) (an:Υ AA) (cdv ct:AB) (us:List AB),us.length=ps.length->bindArgs (PySem.W.fnOf "__init__" qual (U3 st) (C4 st) (d4 st) .none kV doc pm an cdv ct) ⟨us,[]⟩=pure (ps.zip us))
 (hb:∀(cdv:AB) (A:AL) (outer:List Env) (s:AC) (H:Hp) (E:XK),G3 k (A.deeper (envOfC qual (d4 st) s.heap.objs.size f cdv))->PSs (a2j CX0 P w K mg base ps qual (d4 st) f cdv A outer s H E).nox (C4 st) (b65 (tXS K (tVs 0 (fs.length+2))) (tXl K 1 (f0::fs)))):
 b9R P w K mg base x (f0::fs) (k+1):=
 let ⟨i,fd,F⟩:=D
 ⟨C,f,fd,ps,f0,fs,rfl,by rw [AO];lia,c0j F S hl c.cls na nd (by lia) hb,hm,F.binds hi,hi0,i⟩
end
theorem c2i{K:Frag}{C:AA}{fs:List Str}(h:fs.all (λg=>findIn K (.ref C) g==ξ ζ)=true):∀g∈fs,G5 K C g:=λg hg=>beq_iff_eq.mp (List.all_eq_true.mp h g hg)
def a3l(body:MX)(tg:PV->b9->Υ b9):List PV->b9->Υ FX
 |[],ρ=>ξ (.fl (.nx ρ))
 |p::ps,ρ=>(tg p ρ).bind λρ1=>(body ρ1).bind λfx=>match fx with
  | .fl (.nx ρ')=>a3l body tg ps ρ'
  | .fl (.ct ρ')=>a3l body tg ps ρ'
  | .fl (.bk ρ')=>ξ (.fl (.nx ρ'))
  | .fl (.rt r)=>ξ (.fl (.rt r))
  | .rz c ρ'=>ξ (.rz c ρ')
def b5H(it:MI)(tg:PV->b9->Υ b9)(body:MX):MX:=λρ=>(it ρ).bind λps=>a3l body tg ps ρ
theorem b6g{body:MX}{tg:PV->b9->Υ b9}{ps:List PV}{p:PV}{ρ:b9}{fl:FX}(h:a3l body tg (p::ps) ρ=ξ fl):∃ρ1 f1,tg p ρ=ξ ρ1/\body ρ1=ξ f1/\(match f1 with
 | .fl (.nx ρ')=>a3l body tg ps ρ'
 | .fl (.ct ρ')=>a3l body tg ps ρ'
 | .fl (.bk ρ')=>ξ (.fl (.nx ρ'))
 | .fl (.rt r)=>ξ (.fl (.rt r))
 | .rz c ρ'=>ξ (.rz c ρ'))=ξ fl:=by
 unfold a3l at h
 obtain⟨ρ1,e1,h⟩:=bind_some h
 obtain⟨f1,e2,h⟩:=bind_some h
 exact⟨ρ1,f1,e1,e2,h⟩
def PvX(K:AE)(F0 H0 F1:Hp)(body:MX)(tg:PV->b9->Υ b9)(ps:List PV)(fl:FX)(k:Nat)(σ:L2.St)(H:Hp):Prop:=
 ∃F ρ,u3 F1 F/\SOk K F0 H0 F H σ ρ/\a3l body tg (ps.drop k) ρ=ξ fl
section
variable {K:AE}{mg:Str->Υ AB}{E:L2.St->XK}{F0 H0 F1:Hp}{body:MX}{tg:PV->b9->Υ b9}{g:TG}{ps:List PV}{fl:FX}{D:U7}{k:Nat}{p:PV}{x:V}{σ σ0:L2.St}{H:Hp}
theorem b7W{F:Hp}{f1:FX}{N:L2.St->Hp->Prop}{rs:List PV}(fin:a6H K mg E F0 H0 F1 σ0 D fl)(up:u3 F1 F)
 (hN:∀σ' F' H' ρ',u3 F F'->SOk K F0 H0 F' H' σ' ρ'->a3l body tg rs ρ'=ξ fl->N σ' H')
 (e3:(match f1 with
 | .fl (.nx ρ')=>a3l body tg rs ρ'
 | .fl (.ct ρ')=>a3l body tg rs ρ'
 | .fl (.bk ρ')=>ξ (.fl (.nx ρ'))
 | .fl (.rt r)=>ξ (.fl (.rt r))
 | .rz c ρ'=>ξ (.rz c ρ'))=ξ fl):a6H K mg E F0 H0 F σ {D with nx:=N,ct:=N,bk:=D.nx} f1:=by
 cases f1 with
 |rz c ρ'=>cases e3;exact a6H.later (σ0:=σ0) (fx:= .rz c ρ') up fin
 |fl f=>
  cases f with
  |nx ρ'=>exact λσ2 F2 H2 s2 so2=>hN σ2 F2 H2 ρ' s2 so2 e3
  |ct ρ'=>exact λσ2 F2 H2 s2 so2=>hN σ2 F2 H2 ρ' s2 so2 e3
  |bk ρ'=>cases e3;exact λσ2 F2 H2 s2 so2=>fin σ2 F2 H2 (up.trans s2) so2
  |rt r=>cases e3;exact λv F' H' o=>a6H.later (fx:= .fl (.rt r)) (σ1:=σ0) up fin v F' H' o
theorem b6v(fin:a6H K mg E F0 H0 F1 σ0 D fl)(hp:PvX K F0 H0 F1 body tg ps fl ps.length σ H):D.nx σ H:=by
 obtain⟨F,ρ,s,so,e⟩:=hp;rw [List.drop_length] at e;cases e;exact fin σ F H s so
theorem b2P{t:AA}(T:a5Z K g tg)(fin:a6H K mg E F0 H0 F1 σ0 D fl)(ep:ps[k]?=ξ p)
 (hp:PvX K F0 H0 F1 body tg (a1c ps) fl k σ H) (hn:H t=ζ) (rx:P5 K F1 p x):
 g (.ref t) σ (A5 H t (.tup [.int k,x])) λσ2 H2=>tMX K mg E body {D with nx:=PvX K F0 H0 F1 body tg (a1c ps) fl (k+1),ct:=PvX K F0 H0 F1 body tg (a1c ps) fl (k+1),bk:=D.nx} σ2 H2:=by
 obtain⟨F,ρ,s,so,e⟩:=hp
 have eq:(a1c ps)[k]?=ξ (.tuple [.int ((k:Nat):Int),p]):=by rw [b6d,ep];rfl
 have hk:k<(a1c ps).length:=(Au.mp eq).1
 have hd:(a1c ps).drop k= .tuple [.int ((k:Nat):Int),p]::(a1c ps).drop (k+1):=by
  rw [List.drop_eq_getElem_cons hk]
  congr 1
  exact(Au.mp eq).2
 rw [hd] at e
 obtain⟨ρ1,f1,e1,e2,e3⟩:=b6g e
 have xl:Ext F H (A5 F t (.tup [.int k,x])) (A5 H t (.tup [.int k,x])):=Ext.lay so.e.fh hn
 have up:u3 F1 (A5 F t (.tup [.int k,x])):=s.trans xl.f
 refine T F0 H0 _ _ σ ρ ρ1 _ (.ref t) _ (so.ext xl) (show P5 K (A5 F t (.tup [.int k,x])) (.tuple [.int ((k:Nat):Int),p]) (.ref t) from⟨t,[.int k,x],rfl,TqT.of p9,⟨_,_,rfl,rfl,⟨_,_,rfl,P5.mono up _ rx,rfl⟩⟩⟩) e1 λσ' so'=>⟨F0,H0,_,ρ1,f1,so',e2, ?_⟩
 exact b7W (σ0:=σ0) fin up (λσ' F' H' ρ' s2 so2 e=>⟨F',ρ',up.trans s2,so2,e⟩) e3
theorem b6h{J:It}(S:b9S K F1 J ps)(T:a5Z K g tg)(fin:a6H K mg E F0 H0 F1 σ0 D fl)(h0:PvX K F0 H0 F1 body tg (a1c ps) fl 0 σ H):
 ∃W:Nat->Nat->L2.St->Hp->Prop,(∃m,W 0 m σ H)/\∀i m σ H,W i m σ H->
  ((Ite J).stop i H/\D.nx σ H)\/((Ite J).go i H/\∃N:L2.St->Hp->Prop,(∀σ' H',N σ' H'->∃m',m'<m/\W (i+1) m' σ' H')/\∀x H',(Ite J).yld i H x H'->g x σ H' λσ2 H2=>tMX K mg E body {D with nx:=N,ct:=N,bk:=D.nx} σ2 H2):=by
 refine⟨λi m σ H=>m=ps.length - i/\i<=ps.length/\PvX K F0 H0 F1 body tg (a1c ps) fl i σ H,⟨ps.length,by simp,Nat.zero_le _,h0⟩, ?_⟩
 rintro i m σ H ⟨rfl,hi,pv⟩
 have sm:u3 F1 H:=by obtain⟨_,_,s,so,_⟩:=pv;exact s.trans so.e.fh
 by_cases hlt:i<ps.length
 ·have ep:ps[i]?=ξ ps[i]:=by simp [hlt]
  refine .inr ⟨S.go i _ H sm ep,PvX K F0 H0 F1 body tg (a1c ps) fl (i+1),λσ' H' p'=>⟨ps.length - (i+1),by lia,rfl,hlt,p'⟩,λv H' y=> ?_⟩
  obtain⟨x,t,yx,hn,rfl,rfl⟩:=y
  exact b2P T fin ep pv hn (S.yd i _ x H H sm ep yx).2
 ·have ei:i=ps.length:=by lia
  refine .inl ⟨S.st i H sm (by lia), ?_⟩
  rw [ei,<-b6e ps] at pv
  exact b6v fin pv
end
section
variable {X:Cx}{E:L2.St->XK}
theorem c0c{a:AF}{body:List Stmt}{m:MA}{g:TG}{t:PV->b9->Υ b9}{b:MX}{p rp pos tpos:Pos}{elts:List AF}{x1}(hp:PassesOwn (model X.prog X.w) X.A X.env X.xe)(hc:X.calm=true)(hgl:Gl X "enumerate")(hm:X.mg "enumerate"=ζ)(ha:EA X [a] m)(hg:PG X (.Tuple elts x1 tpos) g)(T:a5Z X.K g t)(hb:EXs X E body b)
 (hst:AI [a] X.env=[(false,eval a X.env)]:=by rfl) (hs:∀x,foldedSetIterable (.Call (.Name "enumerate" p) [a] [] rp) X.env x=pure x:=by intro _;rfl):EX X E (.For (.Tuple elts x1 tpos) (.Call (.Name "enumerate" p) [a] [] rp) body [] pos) (b5H (b8z m) t b):=
 G6 (a7a hp hc (c08 hgl hm ha hst) hg hb hs) λD σ H h0=>a5R h0 λF0 H0 F ρ fl so e fin=>by
  obtain⟨es,e1,e⟩:=bind_some e;obtain⟨as,e1,e2⟩:=bind_some e1;split at e2
  ·rename_i q;refine⟨F,ρ,_,so.e,e1,λvs F1 H1 x rl=> ?_⟩;obtain⟨v,r,rfl,rq,rr⟩:=rl;cases rr;have fin1:=a6H.later (σ1:=σ) x.f fin;cases hi:b8o q with
   |none=>rw [hi] at e2;cases e2
   |some ps=>
    rw [hi] at e2;cases e2;have core:∀J,b9S X.K F1 J ps->_:=λJ S=>b6h (g:=g) (σ:=σ) (H:=H1) S T fin1 ⟨F1,ρ,PU.u3.refl F1,so.ext x,e⟩;cases q with
    |list qs=>
     cases hi;obtain⟨a,xs,rfl,hq,rl⟩:=rq;exact⟨a,xs,rfl,B8 x.fh hq,core _ (b9z hq rl)⟩
    |_=>cases hi
  ·cases e2
end
def b0F(x y:Str):List Str:=match Builtin.Str.occurrences x y 0 x.length 1 with
 |i::_=>[Builtin.Str.strSub x 0 i,y,Builtin.Str.strSub x (i+y.length) x.length]
 |[]=>[x,Str.empty,Str.empty]
def a3e(x y:g0):Υ g0:=match x,y with
 | .v (.str z),.v (.str y)=>if(y.length==0)=false/\z.length<=AN then ξ (.v (.tuple ((b0F z y).map .str))) else ζ
 |_,_=>ζ
section
variable {X:Cx}
theorem c0N:MtR X "str.partition" (λx xs H Q=>∃F y rx ry rz,xs=[y]/\u3 F H/\R0 X.K F H x rx/\R0 X.K F H y ry/\a3e rx ry=ξ rz/\∀v F' H',B5 X.K F H F' H' v rz->Q v H'):=by
 ext w
 unfold a3e at h3;split at h3
 ·rename_i z y;split at h3
  ·rename_i c
   ext x
   obtain⟨t,rfl⟩:=rx;obtain⟨t2,rfl⟩:=ru;have hf:=I.hok.fresh (AV s.heap.objs.size);refine call_meets PySem.F.slot_str_partition (typeIs_str _ _ _) PySem.F.entry_str_partition (PySem.F.args_str_partition_2 _ _) (PySem.meets_str_partition z y t t2 c.1 c.2) ?_;have fin:∀(zs:List Str) (its:List AB) (k':Nat),b0F z y=zs->y0 (zs.map V.str) its->zs.length=3->wants (EP X pins σ Q) X.xe (.ok (.ret (.ref s.heap.objs.size))) {s with toks:=k',heap:=s.heap.push {cls:= .type "tuple",data:= .seq its.toArray}}:=λzs its k' e hv hl=>by
    rw [e] at k;exact⟨.ref s.heap.objs.size,_,I.laid (t':=k') (o:= .tup (zs.map V.str)) (λb ob q=>AS _ q) (AV _) ⟨by rw [AY,hl,sizeLine_eq];decide,its,hv,IsTup.new _ _⟩,rfl,k _ _ _ (B5.tup s0 hf (a7b _))⟩
   unfold b0F at fin;cases ho:Builtin.Str.occurrences z y 0 z.length 1 with
   |nil=>
    rw [ho] at fin;exact fin _ _ _ rfl (.cons ⟨_,rfl⟩ (.cons ⟨_,rfl⟩ (.cons ⟨_,rfl⟩ .nil))) rfl
   |cons i r=>
    rw [ho] at fin;exact fin _ _ _ rfl (.cons ⟨_,rfl⟩ (.cons ⟨_,rfl⟩ (.cons ⟨_,rfl⟩ .nil))) rfl
  ·cases h3
 ·cases h3
theorem b5a{o e:AF}{m n:M}{apos cpos:Pos}(ho:EE X o m)(ha:EE X e n)
 (hbase:attributeBase o "partition" X.env (eval o X.env)=eval o X.env:=by rfl)
 (hfew:((backTo cpos (AI [e] X.env)).all (λx=> !x.1)&&(backToKw cpos (keywordEach [] X.env)).all (λx=>x.1.isSome)
  && decide ([e].length+([]:List Keyword).length+(if([]:List Keyword).isEmpty then 0 else 1)<30))=true:=by rfl)
 (hline:(apos.endLine==cpos.line)=true:=by rfl) (hs:AI [e] X.env=(false,eval e X.env)::AI [] X.env:=by rfl) (hplain:(backTo cpos (AI [] X.env)).any (·.1)=false:=by rfl):
 EE X (.Call (.Attribute o "partition" apos) [e] [] cpos) (m2 a3e m n):=
 B1 (b0G PySem.F.plainAttrs_str PySem.F.slot_str_partition PySem.F.type_str_partition c0N ho (z7 ha S5 hs) hbase hfew hline hs hplain) λσ H Q h0=>z9 h0 λF ρ r he hm k=>by
  ext e
  unfold a3e at hm;split at hm
  ·cases o1.rep;rfl
  ·cases hm
end
open PySem.W (Looks InstAt looks_findIn looks_find looks_subIn looks_mroIn)
theorem b4y{K:AE}{prog:AK}{w:AJ}{A:AL}{E:AB->AC->Prop}{s:AC}{x D tp:AA}{o ob:Obj}{od:Υ Obj}{its:Array AB}{n:Nat}{vs:List Bool}{tk:Tok}{Q:PySem.Fin->AC->Prop}
 (kin:K.In s.heap) (I:InstAt s.heap x o D od) (htp:s.heap.get? tp=ξ ob) (hc:ob.cls= .type "tuple") (hd:ob.data= .seq its n)
 (hne:(Value.ref D==Value.ref tp)=false) (ha:AnswersAll (λs=>K.In s.heap/\∃o od,InstAt s.heap x o D od) (.ref x) its.toList vs)
 (hq:∀tk',Q (.done (.ret (.bool (vs.any id)))) {s with toks:=tk'}):AH (model prog w) A (Builtin.«isinstance.nested» ⟨[.ref x,.ref tp,.int 0 tk],[]⟩) Q E s:=by
 obtain⟨h,g,d,t,os⟩:=s
 obtain⟨cls,dct,dat,slo⟩:=ob
 cases hc
 cases hd
 have hT2:(⟨h,g,d,t,os⟩:AC).TypeIs (.ref tp) "tuple":=⟨_,htp,rfl⟩
 have f1:=F.isi_sub_tuple
 have L0:=I.type (M:=model prog w)
 repeat (any_goals (first|assumption|with_reducible refine L0.at ?_|wp_step))
 refine wpAny_arrayLoop ?_
 simp only [Option.getD_some]
 refine isinstance_items (dep:=0) (P:=λs=>K.In s.heap/\∃o od,InstAt s.heap x o D od) (λ_ _ h=>h) its.toList vs _ _ ha ⟨kin,o,od,I⟩ λtk'=> ?_
 cases hv:vs.any id with
 |true=>
  simp only [if_true]
  repeat (any_goals (first|assumption|wp_step))
  exact hv▸hq tk'
 |false=>
  simp only [BD,if_false]
  repeat (any_goals (first|assumption|wp_step))
  exact hv▸hq tk'
theorem b44{K:AE}{x D:AA}(F:XcF K D):∀cs:List AB,(∀c∈cs,PySem.W.kitOne K (.ref D) c=ξ false)->AnswersAll (λs=>K.In s.heap/\∃o od,InstAt s.heap x o D od) (.ref x) cs (cs.map λ_=>false)
 |[],_=>trivial
 |c::cs,h=>⟨a99 F (h c AZ),b44 F cs λd hd=>h d (Af _ hd)⟩
theorem b7t:∀cs:List AB,(cs.map λ_=>false).any id=false
 |[]=>rfl
 |_::cs=>b7t cs
theorem b7q{P:AA->Prop}:∀d∈([]:List AA),P d:=λ_ h=>nomatch h
theorem a2i{P:AA->Prop}{a:AA}{l:List AA}(h:P a)(t:∀d∈l,P d):∀d∈a::l,P d:=List.forall_mem_cons.mpr ⟨h,t⟩
def b9U(K:AE)(cs:List AA)(tab:List (Str×Bool)):Prop:=∀c b,tab.lookup c=ξ b->b=false/\∃C,M4 K c C/\XcF K C/\∀d∈cs,PySem.W.kitOne K (.ref C) (.ref d)=ξ false
theorem b9D{K:AE}{cs:List AA}:b9U K cs []:=λ_ _ h=>nomatch h
theorem b66{K:AE}{mg:Str->Υ AB}{cs:List AA}{c:Str}{C:AA}{t:List (Str×Bool)}(x:XC K mg c C)(f:b3w K C=true)(e:∀d∈cs,PySem.W.kitOne K (.ref C) (.ref d)=ξ false)(h:b9U K cs t):b9U K cs ((c,false)::t):=λc1 b1 q=>by
 rw [List.lookup_cons] at q;split at q
 ·rename_i z;cases q;rw [beq_iff_eq.mp z];exact⟨rfl,C,x.named,b5Y f,e⟩
 ·exact h c1 b1 q
theorem b0X:∀{cs:List AA} {us:List AB},y0 (cs.map V.ref) us->us=cs.map Value.ref
 |[],_,h=>by cases h;rfl
 |c::cs,_,h=>by
  rw [AT] at h;cases h with
  |cons p q=>rw [b0X q,AT,show _=Value.ref c from p]
section
variable {X:Cx}
theorem b97{tab:List (Str×Bool)}{cs:List AA}{e:AF}{es:List AF}{x1}{m:M}{tA:TA}{p p2 pos:Pos}(T:b9U X.K cs tab)(hz:cs.length<=AN)(hg:Gl X "isinstance")(hm:X.mg "isinstance"=ζ)(ha:EE X e m)(hT:PA X es tA)(hA:∀σ H Q,Q (cs.map V.ref) H->tA σ H Q)
 (he:AI [e,.Tuple es x1 p2] X.env=(false,eval e X.env)::AI [.Tuple es x1 p2] X.env:=by rfl) (he2:AI [.Tuple es x1 p2] X.env=(false,eval (.Tuple es x1 p2) X.env)::AI [] X.env:=by rfl) (hpl:(backTo pos (AI [.Tuple es x1 p2] X.env)).any (·.1)=false:=by rfl)
 (hv:bootBuiltins "isinstance"=ξ (.builtin "isinstance"):=by rfl):
 EE X (.Call (.Name "isinstance" p) [e,.Tuple es x1 p2] [] pos) (m1 (b2C tab) m):=by
 have hc:R7 X (.builtin "isinstance") (λxs H Q=>∃F x c tp,xs=[x,.ref tp]/\u3 F H/\b3O X.K F c x/\H tp=ξ (.tup (cs.map V.ref))/\tab.lookup c=ξ false/\Q (.bl false) H):=by
  intro pins s σ H xs us Q I rv0 h;obtain⟨F,x,c,tp,rfl,s0,h1,ht,hl,q⟩:=h;obtain⟨u,u2,rfl,ru,ru2⟩:∃u1 u2,us=[u1,u2]/\y4 x u1/\y4 (.ref tp) u2:=by
   cases rv0 with
   |cons p q=>
    cases q with
    |cons p' q'=>
     cases q';exact⟨_,_,rfl,p,p'⟩
  cases(show u2=Value.ref tp from ru2);obtain⟨_,C,nm,fc,k1⟩:=T c false hl;have fin:∀tk,EP X pins σ Q (.bool false) {s with toks:=tk}:=λtk=>⟨.bl _,H,I.tok tk,rfl,q⟩
  obtain⟨a,C',o,od,rfl,g4,J⟩:=b51 I (h1.mono s0);cases g4.uniq nm;cases(show u=Value.ref a from ru);obtain⟨z,its,r,ob,e1,e2,n,e3⟩:=I.hok _ _ ht;have kin:=I.kIn;have hne:(Value.ref C==Value.ref tp)=false:=by
   cases hq:(Value.ref C==Value.ref tp) with
   |false=>rfl
   |true=>
    have hq:Value.ref C=Value.ref tp:=eq_of_beq hq;injection hq with hq
    obtain⟨cdD,hcD⟩:=Option.isSome_iff_exists.mp fc.cl;unfold PySem.W.clsIn at hcD;split at hcD
    ·rename_i c' d' cd' sl' ho;have:=kin _ _ ho;rw [hq,e1] at this;cases this;cases e3
    ·cases hcD
  have eits:=b0X r;refine call_isinstance (S:=λ_ R s=>((X.K.In s.heap/\∃o od,InstAt s.heap a o C od)/\s.heap.get? tp=ξ ob)/\∀tk,R (.ok (.ret (.bool false))) {s with toks:=tk}) (λprog w A R s hs=> ?_) ⟨⟨⟨kin,o,od,J⟩,e1⟩,fin⟩
  obtain⟨⟨⟨kin,o,od,J⟩,e1⟩,fin⟩:=hs;refine isinstance_outer ?_ (λz=>nomatch z);refine b4y (vs:=its.map λ_=>false) kin J e1 e2 e3 hne ?_ λtk=> ?_
  ·rw [List.toList_toArray];exact b44 fc its λd hd=>by
    rw [eits] at hd;obtain⟨d',hd',rfl⟩:=BA.mp hd;exact k1 d' hd'
  ·rw [b7t];exact fin tk
 exact B1 (a2u hc hg hm hv (z7 ha (z7 (b88 hT) S5 he2) he) (by decide) (by decide) he hpl) λσ H Q h0=>z9 h0 λF ρ r h1 h2 k=>by
  ext aj
  obtain⟨c,hc,h2⟩:=bind_some h2;refine hA _ _ _ ⟨by rw [AY];exact hz,λtp hp=> ?_⟩
  cases hl:tab.lookup c with
  |none=>rw [hl] at h2;cases h2
  |some b=>
   rw [hl] at h2;cases h2;cases(T c b hl).1;exact⟨H1,v,c,tp,rfl,a0M hp,b5Z (o.rep.rd o.x.fh) hc,p9,hl,k _ (A5 F1 tp (.tup (cs.map V.ref))) _ (B5.val (o.x.trans (Ext.lay o.x.fh hp)) rfl)⟩
end
end PU
namespace ZK
open L2 PU ZT
abbrev lIt(l:AA):Obj:={cls:= .type "list_iterator",data:= .fields #[.ref l,.int 0 0]}
abbrev tH2(h:Heap)(x y:AA):Heap:=(h.push (lIt x)).push (lIt y)
abbrev tH3(h:Heap)(x y:AA):Heap:=(tH2 h x y).push {cls:= .type "tuple",data:= .seq #[.ref h.objs.size,.ref (h.push (lIt x)).objs.size]}
abbrev tH4(h:Heap)(x y:AA):Heap:=(tH3 h x y).push {cls:= .type "tuple",data:= .seq #[.none,.none]}
abbrev tH5(h:Heap)(x y:AA):Heap:=(tH4 h x y).push {cls:= .type "zip",data:= .fields #[.none,.bool false,.bool false,.ref (tH2 h x y).objs.size,.ref (tH3 h x y).objs.size]}
theorem a8V(x y:AA)(p q:Array AB):
 Meets (Builtin.«zip.__new__» ⟨[.type "zip",.ref x,.ref y],[]⟩) (λ_ R s=>(s.heap.IsList x p/\s.heap.IsList y q)/\R (.ok (.ret (.ref (tH4 s.heap x y).objs.size))) {s with heap:=tH5 s.heap x y}):=
 .of_wp λprog w A R s h=>by
  obtain⟨hp,g,d,tk,os⟩:=s;obtain⟨⟨hx,hy⟩,h⟩:=h;have hy2:=hy.push (lIt x);have hsub:=sub_zip
  wp_walk using wpAny_pyIter_list hx,wpAny_pyIter_list hy2
  exact⟨_,rfl,h⟩
theorem b2m{prog:AK}{w:AJ}{A:AL}{E:AB->AC->Prop}{s:AC}{x y:AA}{p q:Array AB}{Q:AB->AC->Prop}(hx:s.heap.IsList x p)(hy:s.heap.IsList y q)
 (h:∀h',IsZip h' (s.heap.objs.size+4) (s.heap.objs.size+2) (s.heap.objs.size+3) .none->IsPair h' (s.heap.objs.size+2) (.ref s.heap.objs.size) (.ref (s.heap.objs.size+1))->
  IsPair h' (s.heap.objs.size+3) .none .none->h'.IsListIter s.heap.objs.size x 0->h'.IsListIter (s.heap.objs.size+1) y 0->h'.objs.size=s.heap.objs.size+5->
  (∀c o,s.heap.get? c=ξ o->h'.get? c=ξ o)->Q (.ref (s.heap.objs.size+4)) {s with heap:=h'}):
 AH (model prog w) A (call (.type "zip") [.ref x,.ref y]) Q E s:=by
 refine callType_new F.called_zip (by decide) (F.typeCall_zip_2 _ _) (F.newCall_zip_2 _ _) (λobj=>F.args_object_init_3 obj _ _) F.entry_zip_new
  (a8V x y p q) ?_
 have z1:(s.heap.push (lIt x)).objs.size=s.heap.objs.size+1:=Heap.size_push ..
 have z2:(tH2 s.heap x y).objs.size=s.heap.objs.size+2:=by rw [Heap.size_push,z1]
 have z3:(tH3 s.heap x y).objs.size=s.heap.objs.size+3:=by rw [Heap.size_push,z2]
 have z4:(tH4 s.heap x y).objs.size=s.heap.objs.size+4:=by rw [Heap.size_push,z3]
 have z5:(tH5 s.heap x y).objs.size=s.heap.objs.size+5:=by rw [Heap.size_push,z4]
 have g5:(tH5 s.heap x y).get? (tH4 s.heap x y).objs.size=ξ _:=Am _ rfl
 have g4:(tH5 s.heap x y).get? (tH3 s.heap x y).objs.size=ξ _:=AS _ (Am _ rfl)
 have g3:(tH5 s.heap x y).get? (tH2 s.heap x y).objs.size=ξ _:=AS _ (AS _ (Am _ rfl))
 have g2:(tH5 s.heap x y).get? (s.heap.push (lIt x)).objs.size=ξ _:=AS _ (AS _ (AS _ (Am _ rfl)))
 have g1:(tH5 s.heap x y).get? s.heap.objs.size=ξ _:=AS _ (AS _ (AS _ (AS _ (Am _ rfl))))
 refine⟨⟨hx,hy⟩, ?_⟩
 show _/\_
 rw [z2,z3,z4] at g5
 rw [z1,z2] at g3
 rw [z3] at g4
 rw [z1] at g2
 rw [z4]
 exact⟨⟨_,g5,rfl⟩,h _ g5 g3 g4 ⟨_,g1,rfl,rfl⟩ ⟨_,g2,rfl,rfl⟩ z5 λc o x=>
  AS _ (AS _ (AS _ (AS _ (AS _ x))))⟩
def Ikl(K:AE)(a b:AA)(xs ys:List V):It:=⟨λi H=>(Y7 K H a xs/\Y7 K H b ys)/\i<xs.length/\i<ys.length,λi H v H'=>∃x y t,xs[i]?=ξ x/\ys[i]?=ξ y/\H t=ζ/\v= .ref t/\H'=A5 H t (.tup [x,y]),λi H=>(Y7 K H a xs/\Y7 K H b ys)/\i<=xs.length/\i<=ys.length/\(i=xs.length\/i=ys.length)⟩
def tnK(z TI TO i1 i2 l1 l2:AA)(i:Nat)(h:Heap):Prop:=
 IsZip h z TI TO .none/\IsPair h TI (.ref i1) (.ref i2)/\(∃a b,IsPair h TO a b)/\h.IsListIter i1 l1 i/\h.IsListIter i2 l2 i
theorem b69{P:AK}{w:AJ}{K:AE}{z TI TO i1 i2 l1 l2:AA}{xs ys:List V}{elts:List AF}{x1}{pos:Pos}(D:ZT.ZA z TI TO i1 i2)(A1:LA z TO i1 i2 l1)(A2:LA z TO i1 i2 l2):
 b01 P w K (.Tuple elts x1 pos) (Ikl K l1 l2 xs ys) [z,TI,TO,i1,i2] z (tnK z TI TO i1 i2 l1 l2) where
 mem:=by simp
 obj:=λi h ⟨hz,hI,⟨a,b,hO⟩,⟨o1,e1,c1,d1⟩,⟨o2,e2,c2,d2⟩⟩ b' hb=>by
  ext ab
  rcases hb with rfl|rfl|rfl|rfl|rfl
  ·exact⟨_,hz,λv z=>by cases z⟩
  ·exact⟨_,hI,λv z=>by cases z⟩
  ·exact⟨_,hO,λv z=>by cases z⟩
  ·exact⟨_,e1,λv z=>by rw [d1] at z;cases z⟩
  ·exact⟨_,e2,λv z=>by rw [d2] at z;cases z⟩
 keep:=λi h h' ⟨hz,hI,⟨a,b,hO⟩,⟨o1,e1,r1⟩,⟨o2,e2,r2⟩⟩ k=>
  ⟨k z (by simp) _ hz,k TI (by simp) _ hI,⟨a,b,k TO (by simp) _ hO⟩,⟨o1,k i1 (by simp) _ e1,r1⟩,⟨o2,k i2 (by simp) _ e2,r2⟩⟩
 item:=by
  ext i
  obtain⟨⟨q1,q2⟩,m1,m2⟩:=hg;obtain⟨its1,rv1,pl1,_⟩:=I.list q1;have pt1:=pl1.isList
  ext k
  refine ZT.pyNext_zip_itemD D (λA' hh=>Draws.list hh _ _ A1.2.2.1 its1.toArray) (λA' hh=>Draws.list hh _ _ A2.2.2.2 its2.toArray) hd A1 A2 hz hI hO ⟨s1,pt1⟩ ⟨s2,pt2⟩ (by simp;lia) (by simp;lia) λv1 v2 h' tk p1 p2 a1 a2 a3 a4 a5 a6 a7=>⟨_,rfl, ?_⟩
  have g1:xs[i]?=ξ xs[i]:=by simp [m1]
  have g2:ys[i]?=ξ ys[i]:=by simp [m2]
  obtain⟨u1,f1,r1⟩:=rv1.get g1;obtain⟨u2,f2,r2⟩:=rv2.get g2;have w1:v1=u1:=by
   have:its1[i]?=ξ v1:=by simpa using p1
   rw [f1] at this;exact(Option.some.inj this).symm
  have w2:v2=u2:=by
   have:its2[i]?=ξ v2:=by simpa using p2
   rw [f2] at this;exact(Option.some.inj this).symm
  ext u
  have up:∀c o,c∉[z,TI,TO,i1,i2]->s.heap.get? c=ξ o->h2.get? c=ξ o:=λc o hc q=>by
   ext av
   exact(hs2.2 c hc.1).trans (a7 c o hc.1 hc.2.2.1 hc.2.2.2.1 hc.2.2.2.2 q)
  have I2:Inv X pins σ (A5 H s.heap.objs.size (.tup [xs[i],ys[i]])) {s with heap:=h2,toks:=tk}:=
   ZT.Inv.turnedTupN I hf up ⟨by rw [sizeLine_eq];simp,[v1,v2],.cons r1 (.cons r2 .nil),⟨_,htup,rfl,0,rfl⟩⟩
  refine⟨.ref s.heap.objs.size,_,I2,rfl,⟨xs[i],ys[i],s.heap.objs.size,g1,g2,I.hok.fresh (AV _),rfl,rfl⟩,
   ⟨hz2,(hs2.2 _ D.TIz).trans (a7 _ _ D.TIz D.TITO D.TIi1 D.TIi2 hI),⟨_,_,(hs2.2 _ D.TOz).trans a2⟩,let ⟨o,e,r⟩:=a3.1;⟨o,(hs2.2 _ D.i1z).trans e,r⟩,let ⟨o,e,r⟩:=a4.1;⟨o,(hs2.2 _ D.i2z).trans e,r⟩⟩,λb hb=> ?_⟩
  have hlt:b<s.heap.objs.size:=by
   obtain⟨o1,e1,r1⟩:=s1;obtain⟨o2,e2,r2⟩:=s2
   ext ab
   rcases hb with rfl|rfl|rfl|rfl|rfl
   ·exact zlt
   ·exact AW hI
   ·exact AW hO
   ·exact AW e1
   ·exact AW e2
  rw [l6 (Ak hlt)];exact(hf b hb).1
 done:=by
   ext i
   obtain⟨⟨q1,q2⟩,m1,m2,m3⟩:=hg;obtain⟨its1,rv1,pl1,_⟩:=I.list q1;have pt1:=pl1.isList
   ext k
   refine ZT.pyNext_zip_endD D (λA' hh=>Draws.list hh _ _ A1.2.2.1 its1.toArray) (λA' hh=>Draws.list hh _ _ A2.2.2.2 its2.toArray) hd A1 A2 hz hI hO ⟨s1,pt1⟩ ⟨s2,pt2⟩ (by simp;lia) (by simp;lia) (by simp;lia) λh' tk k=>⟨rfl,ZT.Inv.turnedN I hf λc o hc q=> ?_⟩
   ext av
   exact k c o hc.1 hc.2.2.1 hc.2.2.2.1 hc.2.2.2.2 q
 self:=λ_ _ _ _ _ st h=>wpAny_pyIter_zip st.1 h
section
variable {X:Cx}
def iZk(K:AE)(ta:TA):TI:=λσ H R=>ta σ H λvs H1=>∃a b xs ys,vs=[.ref a,.ref b]/\Y7 K H1 a xs/\Y7 K H1 b ys/\R (Ikl K a b xs ys) H1
theorem pi_zipK{a b:AF}{ta:TA}{p pos tpos:Pos}{elts:List AF}{x1}(hg:Gl X "zip")(hm:X.mg "zip"=ζ)(ha:PA X [a,b] ta)(hs:AI [a,b] X.env=[(false,eval a X.env),(false,eval b X.env)]:=by rfl)
 (hs2:AI [b] X.env=[(false,eval b X.env)]:=by rfl):PI X (.Tuple elts x1 tpos) (.Call (.Name "zip" p) [a,b] [] pos) (iZk X.K ta):=by
 intro pins s σ H R I h
 refine Call_ (a3X I hg hm ZT.boot_zip (PyProof.Rows.callWith_type1 (M9 (ha pos pins s σ H _ I h) λus s1 h0=>w8 h0 λvs H1 I1 r1 q1=> ?_) (by rw [hs,hs2]) (by rw [hs2];rfl)))
 obtain⟨x,y,xs,ys,rfl,h1,h2,q⟩:=q1
 cases r1 with
 |cons r rr=>
  cases rr with
  |cons r' rr=>
   cases rr
   cases r
   cases r'
   obtain⟨its1,rv1,pl1,_⟩:=I1.list h1
   have pt1:=pl1.isList
   obtain⟨its2,rv2,pl2,_⟩:=I1.list h2
   have pt2:=pl2.isList
   have l1:x<s1.heap.objs.size:=by obtain⟨o,e,_⟩:=pt1;exact AW e
   have l2:y<s1.heap.objs.size:=by obtain⟨o,e,_⟩:=pt2;exact AW e
   refine b2m pt1 pt2 λh' hz hI hO hi1 hi2 hsz hk=> ?_
   refine wpAny_pyIter_zip (s:={s1 with heap:=h'}) hz ?_
   refine⟨s1.heap.objs.size+4,_,_,_,H1,rfl,I1.kept (t':=s1.toks) hk,b69 (ZT.za_new _) (ZT.la_new l1) (ZT.la_new l2),⟨hz,hI,⟨_,_,hO⟩,hi1,hi2⟩,λb hb=> ?_,q⟩
   have hle:s1.heap.objs.size<=b:=by
    ext ab
    rcases hb with rfl|rfl|rfl|rfl|rfl<;>lia
   exact I1.fpOk hle (I1.hok.fresh hle)
end
end ZK
namespace PU
open L2
def b8F(m:MA):MI:=λρ=>(m ρ).bind λas=>match as with
 |[.list ps,.list qs]=>ξ (Q7 ps qs)
 |_=>ζ
theorem b73{K:AE}{F0 H0 F1:Hp}{body:MS}{tg:PV->b9->Υ b9}{g:TG}{ps qs:List PV}{xs ys:List V}{a b:AA}{fl:Fl}{D:U7}{σ:L2.St}{H:Hp}(T:a5Z K g tg)(fin:Fin K F0 H0 F1 D fl)(rp:u5 K F1 ps xs)(rq:u5 K F1 qs ys)(ha:Y7 K F1 a xs)(hb:Y7 K F1 b ys)(h0:PvL K F0 H0 F1 body tg (Q7 ps qs) fl 0 σ H):
 ∃W:Nat->Nat->L2.St->Hp->Prop,(∃m,W 0 m σ H)/\∀i m σ H,W i m σ H->
  ((ZK.Ikl K a b xs ys).stop i H/\D.nx σ H)\/((ZK.Ikl K a b xs ys).go i H/\∃N:L2.St->Hp->Prop,(∀σ' H',N σ' H'->∃m',m'<m/\W (i+1) m' σ' H')/\∀v H',(ZK.Ikl K a b xs ys).yld i H v H'->g v σ H' λσ2 H2=>tMS K body {D with nx:=N,ct:=N,bk:=D.nx} σ2 H2):=by
 have hl:=b3x ps qs
 have l1:=rp.length
 have l2:=rq.length
 refine⟨λi m σ H=>m=(Q7 ps qs).length - i/\i<=(Q7 ps qs).length/\PvL K F0 H0 F1 body tg (Q7 ps qs) fl i σ H,⟨(Q7 ps qs).length,by simp,Nat.zero_le _,h0⟩, ?_⟩
 rintro i m σ H ⟨rfl,hi,pv⟩
 have sq:Y7 K H a xs/\Y7 K H b ys:=by
  obtain⟨F,ρ,s,so,e⟩:=pv;have s2:=s.trans so.e.fh;exact⟨B8 s2 ha,B8 s2 hb⟩
 by_cases hlt:i<(Q7 ps qs).length
 ·refine .inr ⟨⟨sq,by lia,by lia⟩,PvL K F0 H0 F1 body tg (Q7 ps qs) fl (i+1),λσ' H' p'=>⟨(Q7 ps qs).length - (i+1),by lia,rfl,hlt,p'⟩,λv H' yl=> ?_⟩
  obtain⟨x,y,t,ex,ey,hn,rfl,rfl⟩:=yl
  exact a8R T fin rp rq ex ey pv hn
 ·refine .inl ⟨⟨sq,by lia,by lia,by lia⟩, ?_⟩
  have ei:i=(Q7 ps qs).length:=by lia
  rw [ei] at pv
  exact a2r fin pv
section
variable {X:Cx}
theorem b7S{a b:AF}{body:List Stmt}{m:MA}{g:TG}{t:PV->b9->Υ b9}{bd:MS}{p rp pos tpos:Pos}{elts:List AF}{x1}(hp:PassesOwn (model X.prog X.w) X.A X.env X.xe)(hc:X.calm=true)(hgl:Gl X "zip")(hm:X.mg "zip"=ζ)(ha:EA X [a,b] m)(hg:PG X (.Tuple elts x1 tpos) g)(T:a5Z X.K g t)(hb:ESs X body bd)
 (hst:AI [a,b] X.env=[(false,eval a X.env),(false,eval b X.env)]:=by rfl) (hst2:AI [b] X.env=[(false,eval b X.env)]:=by rfl) (hs:∀x,foldedSetIterable (.Call (.Name "zip" p) [a,b] [] rp) X.env x=pure x:=by intro _;rfl):ES X (.For (.Tuple elts x1 tpos) (.Call (.Name "zip" p) [a,b] [] rp) body [] pos) (a2s (b8F m) t bd):=
 G6 (a7a hp hc (ZK.pi_zipK hgl hm ha hst hst2) hg hb hs) λD σ H h0=>Q6 h0 λF0 H0 F ρ fl so e fin=>by
  obtain⟨es,e1,e⟩:=bind_some e;obtain⟨as,e3,e2⟩:=bind_some e1;split at e2
  ·ext p
   exact⟨a1,b1,xs,ys,rfl,B8 xx.fh h1,B8 xx.fh h2,b73 (g:=g) (σ:=σ) (H:=H1) T (fin.later xx.f) r1 r2 h1 h2 ⟨F1,ρ,PU.u3.refl F1,so.ext xx,e⟩⟩
  ·cases e2
end
def b1q(a b:M):M:=λρ=>match a ρ with
 |some r=>ξ r
 |none=>b ρ
theorem c2t{X:Cx}{x:AF}{a b:M}(h1:EE X x a)(h2:EE X x b):EE X x (b1q a b):=λpins s σ H Q I ⟨F,ρ,r,en,e,k⟩=>by
 unfold b1q at e;split at e
 ·rename_i r' e';cases e;exact h1 pins s σ H Q I ⟨F,ρ,_,en,e',k⟩
 ·exact h2 pins s σ H Q I ⟨F,ρ,r,en,e,k⟩
section
variable {X:Cx}
end
def b2z(x y:g0):Υ g0:=match x,y.mine with
 | .v (.list qs),ξ ps=>if qs.length+ps.length<=AN then ξ (.own (qs++ps)) else ζ
 |_,_=>ζ
section
variable {X:Cx}
theorem b8X(nl:c0Q X.K=true):OpM X (binaryOp .Add) b2z:=by
 ext d
 unfold b2z at h3;split at h3
 case h_2=>cases h3
 rename_i qs ps e1;split at h3
 case isFalse=>cases h3
 ext bh
 obtain⟨a,xs,rfl,_,hq,r⟩:=a8Y h2 e1;obtain⟨b,ys,rfl,hq',r'⟩:=(show P5 X.K F (.list qs) x from h1);cases rx;cases ry;obtain⟨z,its,n,rv,hl,e⟩:=I.lstM hq;have hz:ys.length<=AN/\∃(its2:List AB) (n2:Nat),y0 ys its2/\s.heap.get? b=ξ {cls:= .type "list",data:= .seq its2.toArray n2}:=by
  rcases B8 s0 hq' with h|⟨w,_,_,h1,h2,_⟩
  ·obtain⟨z,its,n,r,e⟩:=h.ok I.hok;exact⟨z,its,n,r,e⟩
  ·exact(b8Q nl h1 h2).elim
 obtain⟨z2,its2,n2,rv2,e2⟩:=hz;have hl2:=rv2.length;have hs:ys.length+xs.length<=AN:=by rw [r.length,r'.length];exact c
 refine PySem.P.add_list e2 e ?_ (by rw [Ar,Ar];lia)
 have ea:its2.toArray++its.toArray=(its2++its).toArray:=by simp
 rw [ea];exact⟨.ref _,_,I.lnew (t':=s.toks) (rv2.append rv) (by rw [AQ];lia),rfl,k _ _ _ (B5.lst s0 I.fresh (r'.append r))⟩
end
end PU
namespace LW
open L2 PU
abbrev φ(p:PV):Υ g0:=ξ (.v p)
def a03:PV:=(.int 24)
def a1x:PV:=(.int 4)
def a1w:PV:=(.int 8)
def b1X:PV:=(.tuple [(.str "beside"),(.str "above"),(.str "across"),(.str "down"),(.str "turn"),(.str "half"),(.str "back"),(.str "side"),(.str "flip"),(.str "cross"),(.str "other"),(.str "dye")])
def a0g:PV:=(.tuple [(.str "turn"),(.str "half"),(.str "back"),(.str "side"),(.str "flip"),(.str "cross"),(.str "other")])
def a4O:PV:=(.int 8)
def Y6:PV:=(.int 6)
def N9:PV:=(.int 24)
def W7:PV:=(.int 40)
def U2:PV:=(.int 400)
def a51:MS:=
 (j4 (m2 l8 (m2 t8 (m2 Θ (b0 0) (m2 (G7 b53 λi j=> .int (i ^ j.toNat)) (mC (.int 10)) (mC (.int 18)))) (m2 l8 (m2 t8 (mC (.int 2)) (b0 1)) (mC (.int 3)))) (m2 t8 (b0 1) (b0 1))))
def E7:Λ:=m8 0 a51
def Y2:MS:=
 (g7 (u4 7 (m2 Θ (m2 t8 (b0 0) (m2 l8 (m2 l8 (m2 t8 (mC (.int 2)) (b0 4)) (m2 t8 (mC (.int 3)) (b0 6))) (mC (.int 69621)))) (mC (.int 1000003))))
 (u4 5 (m2 l8 (b0 5) (m2 o9 (b0 2) (m2 Θ (b0 7) (m1 x8 (b0 2)))))))
def Y3:MS:=
 (g7 (u4 5 (mC (.str "")))
 (g7 (a2s (a34 (a8 (b0 3) b8)) (u8 6) Y2)
 (U5 1 (b0 5))))
def a3A:MS:=
 (g7 (u4 1 (B4 b8))
 (g7 (u4 2 (E3 (mC (.str "abcdefghijklmnopqrstuvwxyz")) N5 (C0 (m2 o9 (B4 (a8 (mC (.int 2)) (a8 (mC (.int 4)) (a8 (mC (.int 26)) b8)))) (m2 Θ (b0 0) (mC (.int 3)))))))
 (g7 (u4 3 (m2 l8 (mC (.int 1)) (m2 Θ (m2 Θ (m2 t8 (b0 0) (mC (.int 16807))) (mC (.int 999979))) (mC (.int 3)))))
 (g7 (a2s (a34 (a8 (m2 l8 (mC (.int 1)) (m2 Θ (m2 Θ (m2 t8 (b0 0) (mC (.int 48271))) (mC (.int 999983))) (mC (.int 3)))) b8)) (u8 4) Y3)
 (j4 (C3 (a8 (mC (.str "plain")) (a8 (m1 a3Q (b0 1)) b8))))))))
def a1J:Λ:=m8 7 a3A
def a06:MS:=
 (g7 (n5 (Y9 (x9 (m2 gNe (b0 1) (B4 b8))) (x9 (m2 a4R (m2 Θ (m2 Θ (m2 t8 (b0 0) (mC (.int 40692))) (mC (.int 999961))) (mC (.int 5))) (mC (.int 3))))) (j4 (C3 (a8 (mC (.str "name")) (a8 (m2 o9 (b0 1) (m2 Θ (m2 Θ (m2 t8 (b0 0) (mC (.int 39373))) (mC (.int 999953))) (m1 x8 (b0 1)))) b8)))) j1)
 (j4 (i7 a1J (a8 (b0 0) b8))))
def a1d:Λ:=m8 0 a06
def a8r:MS:=
 (g7 (u4 3 (m2 Θ (m2 Θ (m2 t8 (b0 0) (mC (.int 62089911))) (mC (.int 999931))) (mC (.int 9))))
 (g7 (u4 4 (m2 l8 (mC (.int 1)) (m2 Θ (m2 Θ (m2 t8 (b0 0) (mC (.int 742938285))) (mC (.int 999959))) (m2 o9 (B4 (a8 (mC (.int 4)) (a8 (mC (.int 24)) b8))) (m1 b2A (m2 B7 (m2 Θ (b0 0) (mC (.int 7))) (mC (.int 1))))))))
 (g7 (u4 5 (mC (.str "abcdefghijklmnopqrstuvwxyz")))
 (g7 (n5 (x9 (m2 B7 (b0 3) (mC (.int 0)))) (g7 (u4 6 (B4 (a8 (mC (.str "turn")) (a8 (mC (.str "half")) (a8 (mC (.str "back")) (a8 (mC (.str "side")) (a8 (mC (.str "flip")) (a8 (mC (.str "cross")) (a8 (mC (.str "other")) b8)))))))))
 (j4 (C3 (a8 (mC (.str "turned")) (a8 (m2 o9 (b0 6) (m2 Θ (b0 0) (mC (.int 7)))) (a8 (b0 1) b8)))))) j1)
 (g7 (n5 (x9 (m2 B7 (b0 3) (mC (.int 1)))) (j4 (C3 (a8 (mC (.str "dye")) (a8 (m2 o9 (b0 5) (m2 Θ (b0 0) (mC (.int 4)))) (a8 (m2 o9 (b0 5) (m2 Θ (m2 Ω (b0 0) (mC (.int 4))) (mC (.int 26)))) (a8 (b0 1) b8)))))) j1)
 (g7 (n5 (x9 (m2 B7 (b0 3) (mC (.int 2)))) (j4 (C3 (a8 (mC (.str "across")) (a8 (b0 4) (a8 (b0 1) b8))))) j1)
 (g7 (n5 (x9 (m2 B7 (b0 3) (mC (.int 3)))) (j4 (C3 (a8 (mC (.str "down")) (a8 (b0 4) (a8 (b0 1) b8))))) j1)
 (g7 (n5 (x9 (m2 B7 (b0 3) (mC (.int 4)))) (j4 (C3 (a8 (mC (.str "beside")) (a8 (B4 (a8 (b0 1) (a8 (b0 2) b8))) b8)))) j1)
 (g7 (n5 (x9 (m2 B7 (b0 3) (mC (.int 5)))) (j4 (C3 (a8 (mC (.str "above")) (a8 (B4 (a8 (b0 1) (a8 (b0 2) b8))) b8)))) j1)
 (g7 (n5 (x9 (m2 B7 (b0 3) (mC (.int 6)))) (j4 (C3 (a8 (mC (.str "beside")) (a8 (B4 (a8 (b0 1) (a8 (C3 (a8 (mC (.str "turned")) (a8 (mC (.str "side")) (a8 (b0 1) b8)))) b8))) b8)))) j1)
 (g7 (n5 (x9 (m2 B7 (b0 3) (mC (.int 7)))) (j4 (C3 (a8 (mC (.str "above")) (a8 (B4 (a8 (b0 1) (a8 (C3 (a8 (mC (.str "turned")) (a8 (mC (.str "flip")) (a8 (b0 1) b8)))) (a8 (b0 1) b8)))) b8)))) j1)
 (j4 (C3 (a8 (mC (.str "beside")) (a8 (E3 (m2 t8 (B4 (a8 (b0 2) (a8 (b0 1) b8))) (mC (.int 3))) N5 (C0 (m2 l8 (mC (.int 2)) (m2 Θ (b0 0) (mC (.int 5)))))) b8)))))))))))))))
def a0a:Λ:=m8 4 a8r
def D5:MS:=
 (g7 (n5 (x9 (m2 B7 (b0 0) (mC (.str "beside")))) (g7 (n5 (x9 (m2 gNe (m2 o9 (b0 3) (mC (.int 0))) (m2 o9 (b0 2) (mC (.int 0))))) (j4 (C3 (a8 (mC (.str "misfit")) (a8 (mC (.str "")) b8)))) j1)
 (u4 2 (C3 (a8 (m2 o9 (b0 2) (mC (.int 0))) (a8 (m2 l8 (m2 o9 (b0 2) (mC (.int 1))) (m2 o9 (b0 3) (mC (.int 1)))) b8))))) (g7 (n5 (x9 (m2 gNe (m2 o9 (b0 3) (mC (.int 1))) (m2 o9 (b0 2) (mC (.int 1))))) (j4 (C3 (a8 (mC (.str "misfit")) (a8 (mC (.str "")) b8)))) j1)
 (u4 2 (C3 (a8 (m2 l8 (m2 o9 (b0 2) (mC (.int 0))) (m2 o9 (b0 3) (mC (.int 0)))) (a8 (m2 o9 (b0 2) (mC (.int 1))) b8))))))
 (n5 (x9 (m2 (gI λi j=> .bool (decide (j<i))) (m1 a3O (b0 2)) (mC (.int 24)))) (j4 (C3 (a8 (mC (.str "wide")) (a8 (mC (.str "")) b8)))) j1))
def a5j:MS:=
 (g7 (u4 2 (m2 o9 (b0 1) (mC (.int 0))))
 (g7 (a2s (b1s (E3 (b0 1) (C0 (mC (.int 1))) N5)) (u8 3) D5)
 (Y4 2)))
def a2O:Λ:=m8 2 a5j
def a0q(N1:Λ):M:=
 (i7 N1 (a8 (b0 6) (a8 (b0 1) b8)))
def a17(N1:Λ):M:=
 (b0 6)
def a07(N1:Λ):MS:=
 (g7 (u4 2 (m2 o9 (b0 0) (mC (.int 0))))
 (g7 (n5 (x9 (m2 B7 (b0 2) (mC (.str "plain")))) (j4 (C3 (a8 (m1 x8 (m2 o9 (b0 0) (mC (.int 1)))) (a8 (m1 x8 (m2 o9 (m2 o9 (b0 0) (mC (.int 1))) (mC (.int 0)))) b8)))) j1)
 (g7 (n5 (x9 (m2 B7 (b0 2) (mC (.str "name")))) (j4 (b5B 1 (m2 o9 (b0 0) (mC (.int 1))) (C3 (a8 (mC (.str "name")) (a8 (m2 o9 (b0 0) (mC (.int 1))) b8))))) j1)
 (g7 (n5 (K5 (x9 (m2 B7 (b0 2) (mC (.str "beside")))) (x9 (m2 B7 (b0 2) (mC (.str "above"))))) (g7 (u4 3 (O3 1 (A3 (m2 o9 (b0 0) (mC (.int 1)))) (u8 6) W3 (a0q N1)))
 (g7 (u4 4 (O3 1 (A3 (b0 3)) (u8 6) (V2 (m1 (F8 "str") (m2 o9 (b0 6) (mC (.int 0))))) (a17 N1)))
 (g7 (n5 (x9 (m2 gNe (b0 4) (B4 b8))) (j4 (m2 o9 (b0 4) (mC (.int 0)))) j1)
 (a2t 3 (j4 (i7 a2O (a8 (b0 2) (a8 (b0 3) b8)))))))) j1)
 (g7 (u4 5 (i7 N1 (a8 (m2 o9 (b0 0) (a63 (mC (.int 1)))) (a8 (b0 1) b8))))
 (g7 (n5 (K5 (V2 (m1 (F8 "str") (m2 o9 (b0 5) (mC (.int 0))))) (x9 (m2 B7 (b0 2) (mC (.str "dye"))))) (Y4 5) j1)
 (g7 (n5 (x9 (m2 B7 (b0 2) (mC (.str "turned")))) (g7 (n5 (x9 (m2 (a7P false) (m2 o9 (b0 0) (mC (.int 1))) (B4 (a8 (mC (.str "turn")) (a8 (mC (.str "back")) (a8 (mC (.str "cross")) (a8 (mC (.str "other")) b8))))))) (j4 (C3 (a8 (m2 o9 (b0 5) (mC (.int 1))) (a8 (m2 o9 (b0 5) (mC (.int 0))) b8)))) j1)
 (Y4 5)) j1)
 (g7 (n5 (x9 (m2 B7 (b0 2) (mC (.str "across")))) (u4 5 (C3 (a8 (m2 o9 (b0 5) (mC (.int 0))) (a8 (m2 t8 (m2 o9 (b0 5) (mC (.int 1))) (m2 o9 (b0 0) (mC (.int 1)))) b8)))) (u4 5 (C3 (a8 (m2 t8 (m2 o9 (b0 5) (mC (.int 0))) (m2 o9 (b0 0) (mC (.int 1)))) (a8 (m2 o9 (b0 5) (mC (.int 1))) b8)))))
 (g7 (n5 (x9 (m2 (gI λi j=> .bool (decide (j<i))) (m1 a3O (b0 5)) (mC (.int 24)))) (j4 (C3 (a8 (mC (.str "wide")) (a8 (mC (.str "")) b8)))) j1)
 (Y4 5))))))))))
def a7y:Nat->(Λ)
 |0=>(m8 4 (λ_=>ζ))
 |n+1=>(m8 4 (a07 ((a7y n))))
def a3U(n:Nat):Λ:=(a7y n)
def a2P:Λ:=a3U 12
def a0r(N2:Λ):M:=
 (i7 N2 (a8 (b0 2) b8))
def a08(N2:Λ):MS:=
 (g7 (u4 1 (m2 o9 (b0 0) (mC (.int 0))))
 (g7 (n5 (x9 (m2 B7 (b0 1) (mC (.str "plain")))) (j4 (m2 l8 (m2 l8 (mC (.str "[")) (m2 M5 (mC (.str "/")) (m2 o9 (b0 0) (mC (.int 1))))) (mC (.str "]")))) j1)
 (g7 (n5 (x9 (m2 B7 (b0 1) (mC (.str "name")))) (j4 (m2 o9 (b0 0) (mC (.int 1)))) j1)
 (g7 (n5 (K5 (x9 (m2 B7 (b0 1) (mC (.str "beside")))) (x9 (m2 B7 (b0 1) (mC (.str "above"))))) (j4 (m2 l8 (m2 l8 (m2 l8 (b0 1) (mC (.str "("))) (m2 M5 (mC (.str ", ")) (O3 1 (A3 (m2 o9 (b0 0) (mC (.int 1)))) (u8 2) W3 (a0r N2)))) (mC (.str ")")))) j1)
 (g7 (n5 (K5 (x9 (m2 B7 (b0 1) (mC (.str "across")))) (x9 (m2 B7 (b0 1) (mC (.str "down"))))) (j4 (m2 l8 (m2 l8 (m2 l8 (m2 l8 (m2 l8 (b0 1) (mC (.str "("))) (m1 a7Q (m2 o9 (b0 0) (mC (.int 1))))) (mC (.str ", "))) (i7 N2 (a8 (m2 o9 (b0 0) (mC (.int 2))) b8))) (mC (.str ")")))) j1)
 (g7 (n5 (x9 (m2 B7 (b0 1) (mC (.str "turned")))) (j4 (m2 l8 (m2 l8 (m2 l8 (m2 o9 (b0 0) (mC (.int 1))) (mC (.str "("))) (i7 N2 (a8 (m2 o9 (b0 0) (mC (.int 2))) b8))) (mC (.str ")")))) j1)
 (j4 (m2 l8 (m2 l8 (m2 l8 (m2 l8 (m2 l8 (m2 l8 (mC (.str "dye(")) (m2 o9 (b0 0) (mC (.int 1)))) (mC (.str ", "))) (m2 o9 (b0 0) (mC (.int 2)))) (mC (.str ", "))) (i7 N2 (a8 (m2 o9 (b0 0) (mC (.int 3))) b8))) (mC (.str ")"))))))))))
def a7z:Nat->(Λ)
 |0=>(m8 1 (λ_=>ζ))
 |n+1=>(m8 1 (a08 ((a7z n))))
def a3V(n:Nat):Λ:=(a7z n)
def E2:Λ:=a3V 12
def Q2:MS:=
 (g7 (u4 6 (m2 Θ (m2 t8 (b0 0) (m2 l8 (m2 t8 (mC (.int 2)) (b0 5)) (mC (.int 39373)))) (mC (.int 2147483629))))
 (g7 (u4 7 (i7 a0a (a8 (b0 6) (a8 (b0 4) (a8 (i7 a1d (a8 (m2 l8 (m2 t8 (b0 6) (mC (.int 7))) (mC (.int 1))) (a8 (b0 2) b8))) b8)))))
 (g7 (u4 8 (i7 a2P (a8 (b0 7) (a8 (b0 1) b8))))
 (g7 (u4 9 (a61 (b8C (m1 (F8 "str") (m2 o9 (b0 8) (mC (.int 0))))) (m2 X6 (m1 a3O (b0 8)) (b0 3))))
 (n5 (Y9 (K5 (V2 (b0 9)) (x9 (m2 B7 (b0 3) (mC (.int 0))))) (x9 (m2 a4R (m1 x8 (i7 E2 (a8 (b0 7) b8))) (mC (.int 381))))) (u4 4 (b0 7)) j1)))))
def a3y:MS:=
 (g7 (u4 4 (i7 a1d (a8 (b0 0) (a8 (b0 2) b8))))
 (g7 (n5 (Y9 (x9 (m2 (gI λi j=> .bool (decide (j<i))) (b0 3) (mC (.int 0)))) (V2 (m1 (F8 "str") (m2 o9 (i7 a2P (a8 (b0 4) (a8 (b0 1) b8))) (mC (.int 0)))))) (u4 4 (i7 a1J (a8 (b0 0) b8))) j1)
 (g7 (a2s (a34 (a8 (m2 Θ (m2 Θ (m2 t8 (b0 0) (mC (.int 69621))) (mC (.int 1000003))) (mC (.int 4))) b8)) (u8 5) Q2)
 (Y4 4))))
def V9:Λ:=m8 6 a3y
def a9N:MS:=
 (g7 (n5 (x9 (m2 a4R (b0 1) (m1 x8 (b0 0)))) (j4 (m2 o9 (b0 0) (b0 1))) j1)
 (j4 (mC (.int 0))))
def a0m:Λ:=m8 0 a9N
def b2h:MS:=
 (j4 (B4 (a8 (mC (.str "k")) (a8 (mC (.str "stay")) (a8 (mC (.str "let")) (a8 (mC (.str "knots")) (a8 (mC (.str "zz")) b8)))))))
def M6:Λ:=m8 0 b2h
def a0n:MS:=
 (g7 (u4 3 (i7 E7 (a8 (m2 o9 (b0 0) (b0 2)) (a8 (b0 2) b8))))
 (g7 (u4 4 (m2 o9 (λ_=>M6 []) (m2 Θ (m2 Θ (m2 t8 (b0 3) (mC (.int 950706376))) (mC (.int 999917))) (mC (.int 5)))))
 (g7 (u4 5 (i7 V9 (a8 (b0 3) (a8 a62 (a8 (λ_=>M6 []) (a8 (mC (.int 0)) b8))))))
 (n5 (x9 (m2 B7 (m2 Θ (b0 3) (mC (.int 4))) (mC (.int 1)))) (U5 1 (C3 (a8 (mC (.str "again")) (a8 (m2 l8 (mC (.int 1)) (m2 Θ (m2 Θ (m2 t8 (b0 3) (mC (.int 742938285))) (mC (.int 999959))) (mC (.int 24)))) (a8 (b0 4) (a8 (b0 5) b8)))))) (U5 1 (C3 (a8 (mC (.str "let")) (a8 (b0 4) (a8 (b0 5) b8)))))))))
def a5l:MS:=
 (g7 (u4 1 (B4 b8))
 (g7 (a2s (b5A (a8 (mC (.int 1)) (a8 (m2 (gI λi j=> .int (if j<i then j else i)) (m1 x8 (b0 0)) (mC (.int 40))) b8))) (u8 2) a0n)
 (g7 (u4 3 (i7 E7 (a8 (i7 a0m (a8 (b0 0) (a8 (mC (.int 0)) b8))) (a8 (mC (.int 5)) b8))))
 (j4 (m2 l8 (b0 1) (B4 (a8 (C3 (a8 (mC (.str "knot")) (a8 (i7 V9 (a8 (b0 3) (a8 a62 (a8 (λ_=>M6 []) (a8 (mC (.int 0)) b8))))) b8))) b8)))))))
def a5v:Λ:=m8 5 a5l
def a0Y:MS:=
 (c0H 4 (gI λi j=> .int (i+j)) (mC (.int 1)))
def a6M:MS:=
 (g7 (u4 4 (b0 1))
 (g7 (V4 (Y9 (x9 (m2 a4R (b0 4) (m1 x8 (b0 0)))) (x9 (V1 X6 X6 (b0 2) (m2 o9 (b0 0) (b0 4)) (b0 3)))) a0Y 500)
 (Y4 4)))
def a2p:Λ:=m8 1 a6M
def a42:MS:=
 (j4 (i7 a2p (a8 (b0 0) (a8 (b0 1) (a8 (mC (.str "a")) (a8 (mC (.str "z")) b8))))))
def K2:Λ:=m8 0 a42
def a7N:MS:=
 (j4 (a61 (V1 X6 X6 (mC (.int 1)) (m1 x8 (b0 0)) (mC a1w)) (m2 B7 (i7 K2 (a8 (b0 0) (a8 (mC (.int 0)) b8))) (m1 x8 (b0 0)))))
def a3f:Λ:=m8 0 a7N
def b56:MS:=
 (j4 (a61 (i7 a3f (a8 (b0 0) b8)) (m2 (a7P true) (b0 0) (mC b1X))))
def a02:Λ:=m8 0 b56
def a3Y:M:=
 (V1 X6 X6 (mC (.str "a")) (b0 1) (mC (.str "z")))
def b2g:MS:=
 (g7 (n5 (K5 (A4 (V2 (m1 (F8 "str") (b0 0)))) (A4 (x9 (V1 X6 X6 (mC (.int 1)) (m1 x8 (b0 0)) (mC a03))))) (j4 (mC (.bool false))) j1)
 (j4 (m1 b34 (O3 1 (a8U (b0 0)) (u8 1) W3 a3Y))))
def a6a:Λ:=m8 0 b2g
def a15:M:=
 (i7 a6a (a8 (b0 1) b8))
def a16:M:=
 (m2 B7 (m1 x8 (b0 1)) (m1 x8 (m2 o9 (b0 0) (mC (.int 0)))))
def a8o:MS:=
 (g7 (n5 (K5 (A4 (V2 (m1 (F8 "tuple") (b0 0)))) (A4 (x9 (V1 X6 X6 (mC (.int 1)) (m1 x8 (b0 0)) (mC a03))))) (j4 (mC (.bool false))) j1)
 (g7 (n5 (A4 (V2 (m1 b34 (O3 1 (A3 (b0 0)) (u8 1) W3 a15)))) (j4 (mC (.bool false))) j1)
 (j4 (m1 b34 (O3 1 (A3 (b0 0)) (u8 1) W3 a16)))))
def a2M:Λ:=m8 0 a8o
def a52:MX:=
 (a1l (a7S (A4 (V2 (m1 (F8 "str") (b0 0)))) (c28 "NoCloth" (a8 (mC (.str "what is no text writes no cloth")) b8)) (a0Z j1))
 (a1l (a0Z (u4 1 (m1 a3Q (m2 a13 (b0 0) (mC (.str "/"))))))
 (a1l (a7S (A4 (V2 (i7 a2M (a8 (b0 1) b8)))) (c28 "NoCloth" (a8 (mC (.str "the text writes no cloth")) b8)) (a0Z j1))
 (a0Z (Y4 1)))))
def X8:List PV->Υ (g0 ⊕ XT):=b6X 1 a52
def a8s:MS:=
 (g7 (u4 2 (m3 b0q (b0 0) (mC (.str "]")) (b0 1)))
 (g7 (n5 (x9 (m2 a4R (b0 2) (mC (.int 0)))) (j4 (mC .none)) j1)
 (g7 (b8E (b0B 3 X8 (a8 (E3 (b0 0) (C0 (m2 l8 (b0 1) (mC (.int 1)))) (C0 (b0 2))) b8)) (inL ["NoCloth"]) (j4 (mC .none)))
 (j4 (C3 (a8 (a33 "Plain" ["rows"] (a8 (b0 3) b8)) (a8 (m2 l8 (b0 2) (mC (.int 1))) b8)))))))
def a2Q:Λ:=m8 2 a8s
def a40:MS:=
 (j4 (i7 a2p (a8 (b0 0) (a8 (b0 1) (a8 (mC (.str "0")) (a8 (mC (.str "9")) b8))))))
def T9:Λ:=m8 0 a40
def b2k:MS:=
 (g7 (n5 (K5 (A4 (x9 (V1 X6 X6 (mC (.int 1)) (m1 x8 (b0 0)) (mC a1x)))) (x9 (m2 gNe (i7 T9 (a8 (b0 0) (a8 (mC (.int 0)) b8))) (m1 x8 (b0 0))))) (j4 (mC .none)) j1)
 (g7 (n5 (Y9 (x9 (m2 B7 (m2 o9 (b0 0) (mC (.int 0))) (mC (.str "0")))) (x9 (m2 (gI λi j=> .bool (decide (j<i))) (m1 x8 (b0 0)) (mC (.int 1))))) (j4 (mC .none)) j1)
 (j4 (m1 b0r (b0 0)))))
def a7u:Λ:=m8 0 b2k
def a6L:MS:=
 (g7 (u4 3 (i7 a7u (a8 (b0 0) b8)))
 (g7 (n5 (K5 (x9 (m2 (a1A false) (b0 3) (mC .none))) (A4 (x9 (V1 X6 X6 (b0 1) (b0 3) (b0 2))))) (j4 (mC .none)) j1)
 (Y4 3)))
def L6:Λ:=m8 1 a6L
def a7o:MS:=
 (g7 (u4 2 (i7 T9 (a8 (b0 0) (a8 (b0 1) b8))))
 (g7 (n5 (K5 (x9 (m2 (a1A false) (i7 L6 (a8 (E3 (b0 0) (C0 (b0 1)) (C0 (b0 2))) (a8 (mC (.int 1)) (a8 (mC N9) b8)))) (mC .none))) (A4 (V2 (m3 G2 (b0 0) (mC (.str ", ")) (b0 2))))) (j4 (mC .none)) j1)
 (Y4 2)))
def a1K:Λ:=m8 1 a7o
def a3w:MS:=
 (j4 (a61 (m2 B7 (i7 K2 (a8 (b0 0) (a8 (b0 1) b8))) (m2 l8 (b0 1) (mC (.int 1)))) (m3 G2 (b0 0) (mC (.str ", ")) (m2 l8 (b0 1) (mC (.int 1))))))
def L5:Λ:=m8 0 a3w
def a4w(Zah Zai Zab Zaa k9 Zag Zad Zaf:Λ):MS:=
 (g7 (n5 (K5 (A4 (V2 (i7 L5 (a8 (b0 0) (a8 (b0 1) b8))))) (A4 (V2 (i7 L5 (a8 (b0 0) (a8 (m2 l8 (b0 1) (mC (.int 3))) b8)))))) (j4 (mC .none)) j1)
 (g7 (u4 3 (i7 Zab (a8 (b0 0) (a8 (m2 l8 (b0 1) (mC (.int 6))) (a8 (b0 2) b8)))))
 (g7 (n5 (x9 (m2 (a1A false) (b0 3) (mC .none))) (j4 (mC .none)) j1)
 (j4 (C3 (a8 (a33 "Dyed" ["one","other","part"] (a8 (m2 o9 (b0 0) (b0 1)) (a8 (m2 o9 (b0 0) (m2 l8 (b0 1) (mC (.int 3)))) (a8 (m2 o9 (b0 3) (mC (.int 0))) b8)))) (a8 (m2 o9 (b0 3) (mC (.int 1))) b8)))))))
def a4x(Zah Zai Zab Zaa k9 Zag Zad Zaf:Λ):MS:=
 (g7 (u4 4 (i7 Zag (a8 (b0 0) (a8 (b0 2) (a8 (b0 3) b8)))))
 (g7 (n5 (K5 (x9 (m2 (a1A false) (b0 4) (mC .none))) (A4 (V2 (m3 G2 (b0 0) (mC (.str ")")) (m2 o9 (b0 4) (mC (.int 1))))))) (j4 (mC .none)) j1)
 (g7 (n5 (A4 (x9 (V1 X6 X6 (mC (.int 2)) (m1 x8 (m2 o9 (b0 4) (mC (.int 0)))) (mC Y6)))) (j4 (mC .none)) j1)
 (g7 (n5 (x9 (m2 B7 (b0 1) (mC (.str "beside")))) (j4 (C3 (a8 (a33 "Beside" ["parts"] (a8 (m2 o9 (b0 4) (mC (.int 0))) b8)) (a8 (m2 l8 (m2 o9 (b0 4) (mC (.int 1))) (mC (.int 1))) b8)))) j1)
 (j4 (C3 (a8 (a33 "Above" ["parts"] (a8 (m2 o9 (b0 4) (mC (.int 0))) b8)) (a8 (m2 l8 (m2 o9 (b0 4) (mC (.int 1))) (mC (.int 1))) b8))))))))
def X1(Zah Zai Zab Zaa k9 Zag Zad Zaf:Λ):MS:=
 (g7 (u4 3 (i7 k9 (a8 (b0 0) (a8 (b0 1) (a8 (b0 2) b8)))))
 (g7 (n5 (K5 (x9 (m2 (a1A false) (b0 3) (mC .none))) (A4 (V2 (m3 G2 (b0 0) (mC (.str ")")) (m2 o9 (b0 3) (mC (.int 1))))))) (j4 (mC .none)) j1)
 (j4 (C3 (a8 (m2 o9 (b0 3) (mC (.int 0))) (a8 (m2 l8 (m2 o9 (b0 3) (mC (.int 1))) (mC (.int 1))) b8))))))
def t6(Zah Zai Zab Zaa k9 Zag Zad Zaf:Λ):MS:=
 (g7 (n5 (K5 (x9 (m2 B7 (b0 1) (mC (.str "beside")))) (x9 (m2 B7 (b0 1) (mC (.str "above"))))) (j4 (i7 Zai (a8 (b0 0) (a8 (b0 1) (a8 (b0 2) (a8 (b0 3) b8)))))) j1)
 (g7 (n5 (K5 (x9 (m2 B7 (b0 1) (mC (.str "across")))) (x9 (m2 B7 (b0 1) (mC (.str "down"))))) (j4 (i7 Zad (a8 (b0 0) (a8 (b0 1) (a8 (b0 2) (a8 (b0 3) b8)))))) j1)
 (g7 (n5 (x9 (m2 (a7P false) (b0 1) (mC a0g))) (j4 (i7 Zaf (a8 (b0 0) (a8 (b0 1) (a8 (b0 2) (a8 (b0 3) b8)))))) j1)
 (g7 (n5 (x9 (m2 B7 (b0 1) (mC (.str "dye")))) (j4 (i7 Zah (a8 (b0 0) (a8 (b0 2) (a8 (b0 3) b8))))) j1)
 (j4 (mC .none))))))
def N3(Zah Zai Zab Zaa k9 Zag Zad Zaf:Λ):MS:=
 (g7 (n5 (x9 (m2 B7 (b0 2) (mC (.int 0)))) (j4 (mC .none)) j1)
 (g7 (n5 (V2 (m3 G2 (b0 0) (mC (.str "[")) (b0 1))) (j4 (i7 a2Q (a8 (b0 0) (a8 (b0 1) b8)))) j1)
 (g7 (u4 3 (i7 K2 (a8 (b0 0) (a8 (b0 1) b8))))
 (g7 (u4 4 (E3 (b0 0) (C0 (b0 1)) (C0 (b0 3))))
 (g7 (n5 (V2 (m3 G2 (b0 0) (mC (.str "(")) (b0 3))) (a2t 4 (j4 (i7 Zaa (a8 (b0 0) (a8 (b0 4) (a8 (m2 l8 (b0 3) (mC (.int 1))) (a8 (m2 (gI λi j=> .int (i - j)) (b0 2) (mC (.int 1))) b8))))))) j1)
 (g7 (a2t 4 (n5 (V2 (i7 a02 (a8 (b0 4) b8))) (j4 (C3 (a8 (a33 "Named" ["name"] (a8 (b0 4) b8)) (a8 (b0 3) b8)))) j1))
 (j4 (mC .none))))))))
def K3(Zah Zai Zab Zaa k9 Zag Zad Zaf:Λ):MS:=
 (g7 (u4 4 (i7 k9 (a8 (b0 0) (a8 (b0 1) (a8 (b0 2) b8)))))
 (g7 (n5 (x9 (m2 (a1A false) (b0 4) (mC .none))) (j4 (mC .none)) j1)
 (g7 (U5 3 (m2 o9 (b0 4) (mC (.int 0))))
 (g7 (n5 (A4 (V2 (m3 G2 (b0 0) (mC (.str ", ")) (m2 o9 (b0 4) (mC (.int 1)))))) (j4 (C3 (a8 (m1 a3Q (b0 3)) (a8 (m2 o9 (b0 4) (mC (.int 1))) b8)))) j1)
 (u4 1 (m2 l8 (m2 o9 (b0 4) (mC (.int 1))) (mC (.int 2))))))))
def a2F(Zah Zai Zab Zaa k9 Zag Zad Zaf:Λ):MS:=
 (g7 (u4 3 (B4 b8))
 (V4 (V2 (mC (.bool true))) (K3 Zah Zai Zab Zaa k9 Zag Zad Zaf) 500))
def a0k(Zah Zai Zab Zaa k9 Zag Zad Zaf:Λ):MS:=
 (g7 (u4 4 (i7 a1K (a8 (b0 0) (a8 (b0 2) b8))))
 (g7 (n5 (x9 (m2 (a1A false) (b0 4) (mC .none))) (j4 (mC .none)) j1)
 (g7 (u4 5 (i7 Zab (a8 (b0 0) (a8 (m2 l8 (b0 4) (mC (.int 2))) (a8 (b0 3) b8)))))
 (g7 (n5 (x9 (m2 (a1A false) (b0 5) (mC .none))) (j4 (mC .none)) j1)
 (g7 (u4 6 (m1 b0r (E3 (b0 0) (C0 (b0 2)) (C0 (b0 4)))))
 (g7 (n5 (x9 (m2 B7 (b0 1) (mC (.str "across")))) (j4 (C3 (a8 (a33 "Across" ["many","part"] (a8 (b0 6) (a8 (m2 o9 (b0 5) (mC (.int 0))) b8))) (a8 (m2 o9 (b0 5) (mC (.int 1))) b8)))) j1)
 (j4 (C3 (a8 (a33 "Down" ["many","part"] (a8 (b0 6) (a8 (m2 o9 (b0 5) (mC (.int 0))) b8))) (a8 (m2 o9 (b0 5) (mC (.int 1))) b8))))))))))
def a1D(Zah Zai Zab Zaa k9 Zag Zad Zaf:Λ):MS:=
 (g7 (u4 4 (i7 Zab (a8 (b0 0) (a8 (b0 2) (a8 (b0 3) b8)))))
 (g7 (n5 (x9 (m2 (a1A false) (b0 4) (mC .none))) (j4 (mC .none)) j1)
 (j4 (C3 (a8 (a33 "Turned" ["way","part"] (a8 (b0 1) (a8 (m2 o9 (b0 4) (mC (.int 0))) b8))) (a8 (m2 o9 (b0 4) (mC (.int 1))) b8))))))
def d8:Nat->(Λ)×(Λ)×(Λ)×(Λ)×(Λ)×(Λ)×(Λ)×(Λ)
 |0=>(m8 1 (λ_=>ζ),m8 1 (λ_=>ζ),m8 1 (λ_=>ζ),m8 0 (λ_=>ζ),m8 2 (λ_=>ζ),m8 2 (λ_=>ζ),m8 3 (λ_=>ζ),m8 1 (λ_=>ζ))
 |n+1=>(m8 1 (a4w ((d8 n).1) ((d8 n).2.1) ((d8 n).2.2.1) ((d8 n).2.2.2.1) ((d8 n).2.2.2.2.1) ((d8 n).2.2.2.2.2.1) ((d8 n).2.2.2.2.2.2.1) ((d8 n).2.2.2.2.2.2.2)),m8 1 (a4x ((d8 n).1) ((d8 n).2.1) ((d8 n).2.2.1) ((d8 n).2.2.2.1) ((d8 n).2.2.2.2.1) ((d8 n).2.2.2.2.2.1) ((d8 n).2.2.2.2.2.2.1) ((d8 n).2.2.2.2.2.2.2)),m8 1 (X1 ((d8 n).1) ((d8 n).2.1) ((d8 n).2.2.1) ((d8 n).2.2.2.1) ((d8 n).2.2.2.2.1) ((d8 n).2.2.2.2.2.1) ((d8 n).2.2.2.2.2.2.1) ((d8 n).2.2.2.2.2.2.2)),m8 0 (t6 ((d8 n).1) ((d8 n).2.1) ((d8 n).2.2.1) ((d8 n).2.2.2.1) ((d8 n).2.2.2.2.1) ((d8 n).2.2.2.2.2.1) ((d8 n).2.2.2.2.2.2.1) ((d8 n).2.2.2.2.2.2.2)),m8 2 (N3 ((d8 n).1) ((d8 n).2.1) ((d8 n).2.2.1) ((d8 n).2.2.2.1) ((d8 n).2.2.2.2.1) ((d8 n).2.2.2.2.2.1) ((d8 n).2.2.2.2.2.2.1) ((d8 n).2.2.2.2.2.2.2)),m8 2 (a2F ((d8 n).1) ((d8 n).2.1) ((d8 n).2.2.1) ((d8 n).2.2.2.1) ((d8 n).2.2.2.2.1) ((d8 n).2.2.2.2.2.1) ((d8 n).2.2.2.2.2.2.1) ((d8 n).2.2.2.2.2.2.2)),m8 3 (a0k ((d8 n).1) ((d8 n).2.1) ((d8 n).2.2.1) ((d8 n).2.2.2.1) ((d8 n).2.2.2.2.1) ((d8 n).2.2.2.2.2.1) ((d8 n).2.2.2.2.2.2.1) ((d8 n).2.2.2.2.2.2.2)),m8 1 (a1D ((d8 n).1) ((d8 n).2.1) ((d8 n).2.2.1) ((d8 n).2.2.2.1) ((d8 n).2.2.2.2.1) ((d8 n).2.2.2.2.2.1) ((d8 n).2.2.2.2.2.2.1) ((d8 n).2.2.2.2.2.2.2)))
def a1h(n:Nat):Λ:=(d8 n).1
def a1i(n:Nat):Λ:=(d8 n).2.1
def G8(n:Nat):Λ:=(d8 n).2.2.1
def C2(n:Nat):Λ:=(d8 n).2.2.2.1
def M7(n:Nat):Λ:=(d8 n).2.2.2.2.1
def a5w:Λ:=M7 40
def a0I(n:Nat):Λ:=(d8 n).2.2.2.2.2.1
def Q1(n:Nat):Λ:=(d8 n).2.2.2.2.2.2.1
def Y1(n:Nat):Λ:=(d8 n).2.2.2.2.2.2.2
def a53:MS:=
 (g7 (n5 (A4 (V2 (m1 (F8 "str") (b0 0)))) (j4 (mC .none)) j1)
 (g7 (u4 1 (i7 a5w (a8 (b0 0) (a8 (mC (.int 0)) (a8 (mC a4O) b8)))))
 (g7 (n5 (K5 (x9 (m2 (a1A false) (b0 1) (mC .none))) (x9 (m2 gNe (m2 o9 (b0 1) (mC (.int 1))) (m1 x8 (b0 0))))) (j4 (mC .none)) j1)
 (j4 (m2 o9 (b0 1) (mC (.int 0)))))))
def J5:Λ:=m8 1 a53
def a8n:MS:=
 (g7 (u4 2 (m2 a13 (b0 0) (mC (.str " "))))
 (g7 (n5 (K5 (x9 (m2 gNe (m1 x8 (b0 2)) (mC (.int 2)))) (A4 (V2 (i7 a02 (a8 (m2 o9 (b0 2) (mC (.int 1))) b8))))) (j4 (mC .none)) j1)
 (g7 (u4 3 (i7 L6 (a8 (m2 o9 (b0 2) (mC (.int 0))) (a8 (mC (.int 1)) (a8 (mC N9) b8)))))
 (g7 (n5 (x9 (m2 (a1A false) (b0 3) (mC .none))) (j4 (mC .none)) j1)
 (j4 (C3 (a8 (mC (.str "again")) (a8 (b0 3) (a8 (m2 o9 (b0 2) (mC (.int 1))) (a8 (b0 1) b8))))))))))
def a2L:Λ:=m8 2 a8n
def b2j:MS:=
 (g7 (n5 (A4 (V2 (i7 a02 (a8 (b0 0) b8)))) (j4 (mC .none)) j1)
 (j4 (C3 (a8 (mC (.str "let")) (a8 (b0 0) (a8 (b0 1) b8))))))
def a6b:Λ:=m8 0 b2j
def a1W:MS:=
 (g7 (u4 2 (m2 a3e (b0 1) (mC (.str " = "))))
 (g7 (u4 3 (i7 J5 (a8 (m2 o9 (b0 2) (mC (.int 2))) b8)))
 (g7 (n5 (x9 (m2 (a1A false) (b0 3) (mC .none))) (j4 (mC .none)) j1)
 (g7 (n5 (x9 (m2 B7 (b0 0) (mC (.str "let")))) (j4 (i7 a6b (a8 (m2 o9 (b0 2) (mC (.int 0))) (a8 (b0 3) b8)))) j1)
 (j4 (i7 a2L (a8 (m2 o9 (b0 2) (mC (.int 0))) (a8 (b0 3) b8))))))))
def O6:Λ:=m8 2 a1W
def a8p:MS:=
 (g7 (u4 1 (i7 J5 (a8 (b0 0) b8)))
 (g7 (n5 (x9 (m2 (a1A false) (b0 1) (mC .none))) (j4 (mC .none)) j1)
 (j4 (C3 (a8 (mC (.str "knot")) (a8 (b0 1) b8))))))
def a2N:Λ:=m8 1 a8p
def a8t:MS:=
 (g7 (n5 (x9 (m2 (gI λi j=> .bool (decide (j<i))) (m1 x8 (b0 0)) (mC U2))) (j4 (mC .none)) j1)
 (g7 (u4 1 (m2 a3e (b0 0) (mC (.str " "))))
 (g7 (n5 (K5 (x9 (m2 B7 (m2 o9 (b0 1) (mC (.int 0))) (mC (.str "let")))) (x9 (m2 B7 (m2 o9 (b0 1) (mC (.int 0))) (mC (.str "again"))))) (j4 (i7 O6 (a8 (m2 o9 (b0 1) (mC (.int 0))) (a8 (m2 o9 (b0 1) (mC (.int 2))) b8)))) j1)
 (g7 (n5 (x9 (m2 B7 (m2 o9 (b0 1) (mC (.int 0))) (mC (.str "knot")))) (j4 (i7 a2N (a8 (m2 o9 (b0 1) (mC (.int 2))) b8))) j1)
 (j4 (mC .none))))))
def Q0:Λ:=m8 1 a8t
def b3T:MX:=
 (a1l (a7S (A4 (V2 (m1 (F8 "str") (b0 0)))) (b0C "NoText" ["row"] (a8 (mC (.int 0)) b8)) (a0Z j1))
 (a1l (a0Z (u4 1 (m2 a13 (b0 0) (mC (.str "\n")))))
 (a1l (a0Z (a2t 1 (u4 2 (B4 b8))))
 (a1l (b5H (b8z (a8 (b0 1) b8)) (a1u [3,4]) (a1l (a0Z (u4 5 (i7 Q0 (a8 (b0 4) b8))))
 (a1l (a7S (K5 (x9 (m2 (gI λi j=> .bool (decide (j≤i))) (b0 3) (mC W7))) (x9 (m2 (a1A false) (b0 5) (mC .none)))) (b0C "NoText" ["row"] (a8 (b0 3) b8)) (a0Z j1))
 (a1l (a7S (x9 (m2 gNe (m2 B7 (m2 o9 (b0 5) (mC (.int 0))) (mC (.str "knot"))) (m2 B7 (b0 3) (m2 (gI λi j=> .int (i - j)) (m1 x8 (b0 1)) (mC (.int 1)))))) (b0C "NoText" ["row"] (a8 (b0 3) b8)) (a0Z j1))
 (a0Z (U5 2 (b0 5)))))))
 (a0Z (Y4 2))))))
def P9:List PV→Υ (g0 ⊕ XT):=b6X 5 b3T
def W1(X0:List PV→Υ g0):MS:=
 (n5 (A4 (V2 (i7 X0 (a8 (b0 4) (a8 (b0 5) b8))))) (j4 (mC (.bool false))) j1)
def a3z(X0:List PV→Υ g0):MS:=
 (g7 (u4 2 (m2 o9 (b0 1) (mC (.int 0))))
 (g7 (n5 (A4 (V2 (m1 (a58 [("Plain",true),("Named",true),("Beside",true),("Above",true),("Across",true),("Down",true),("Turned",true),("Dyed",true)]) (b0 0)))) (j4 (mC (.bool false))) j1)
 (g7 (n5 (x9 (m2 B7 (b0 2) (mC (.str "plain")))) (g7 (n5 (K5 (A4 (V2 (m1 (a58 [("Plain",true),("Named",false),("Beside",false),("Above",false),("Across",false),("Down",false),("Turned",false),("Dyed",false)]) (b0 0)))) (A4 (V2 (m1 (F8 "tuple") (m1 (D0 ["Plain"] "rows") (b0 0)))))) (j4 (mC (.bool false))) j1)
 (j4 (m2 B7 (m1 (D0 ["Plain"] "rows") (b0 0)) (m2 o9 (b0 1) (mC (.int 1)))))) j1)
 (g7 (n5 (x9 (m2 B7 (b0 2) (mC (.str "name")))) (j4 (a61 (m1 (a58 [("Plain",false),("Named",true),("Beside",false),("Above",false),("Across",false),("Down",false),("Turned",false),("Dyed",false)]) (b0 0)) (m2 B7 (m1 (D0 ["Named"] "name") (b0 0)) (m2 o9 (b0 1) (mC (.int 1)))))) j1)
 (g7 (n5 (K5 (x9 (m2 B7 (b0 2) (mC (.str "beside")))) (x9 (m2 B7 (b0 2) (mC (.str "above"))))) (g7 (u4 3 (B4 (a8 (m1 (a58 [("Plain",false),("Named",false),("Beside",true),("Above",false),("Across",false),("Down",false),("Turned",false),("Dyed",false)]) (b0 0)) (a8 (m1 (a58 [("Plain",false),("Named",false),("Beside",false),("Above",true),("Across",false),("Down",false),("Turned",false),("Dyed",false)]) (b0 0)) b8))))
 (g7 (n5 (x9 (m2 gNe (b0 3) (B4 (a8 (m2 B7 (b0 2) (mC (.str "beside"))) (a8 (m2 B7 (b0 2) (mC (.str "above"))) b8))))) (j4 (mC (.bool false))) j1)
 (g7 (n5 (K5 (A4 (V2 (m1 (F8 "tuple") (m1 (D0 ["Beside","Above"] "parts") (b0 0))))) (x9 (m2 gNe (m1 x8 (m1 (D0 ["Beside","Above"] "parts") (b0 0))) (m1 x8 (m2 o9 (b0 1) (mC (.int 1))))))) (j4 (mC (.bool false))) j1)
 (g7 (a2s (b5D (a8 (m1 (D0 ["Beside","Above"] "parts") (b0 0)) (a8 (m2 o9 (b0 1) (mC (.int 1))) b8))) (a1u [4,5]) (W1 X0))
 (j4 (mC (.bool true))))))) j1)
 (g7 (n5 (x9 (m2 B7 (b0 2) (mC (.str "turned")))) (g7 (n5 (K5 (A4 (V2 (m1 (a58 [("Plain",false),("Named",false),("Beside",false),("Above",false),("Across",false),("Down",false),("Turned",true),("Dyed",false)]) (b0 0)))) (x9 (m2 gNe (m1 (D0 ["Turned"] "way") (b0 0)) (m2 o9 (b0 1) (mC (.int 1)))))) (j4 (mC (.bool false))) j1)
 (j4 (i7 X0 (a8 (m1 (D0 ["Across","Down","Turned","Dyed"] "part") (b0 0)) (a8 (m2 o9 (b0 1) (mC (.int 2))) b8))))) j1)
 (g7 (n5 (x9 (m2 B7 (b0 2) (mC (.str "dye")))) (g7 (n5 (A4 (V2 (m1 (a58 [("Plain",false),("Named",false),("Beside",false),("Above",false),("Across",false),("Down",false),("Turned",false),("Dyed",true)]) (b0 0)))) (j4 (mC (.bool false))) j1)
 (g7 (n5 (K5 (x9 (m2 gNe (m1 (D0 ["Dyed"] "one") (b0 0)) (m2 o9 (b0 1) (mC (.int 1))))) (x9 (m2 gNe (m1 (D0 ["Dyed"] "other") (b0 0)) (m2 o9 (b0 1) (mC (.int 2)))))) (j4 (mC (.bool false))) j1)
 (j4 (i7 X0 (a8 (m1 (D0 ["Across","Down","Turned","Dyed"] "part") (b0 0)) (a8 (m2 o9 (b0 1) (mC (.int 3))) b8)))))) j1)
 (g7 (u4 3 (B4 (a8 (m1 (a58 [("Plain",false),("Named",false),("Beside",false),("Above",false),("Across",true),("Down",false),("Turned",false),("Dyed",false)]) (b0 0)) (a8 (m1 (a58 [("Plain",false),("Named",false),("Beside",false),("Above",false),("Across",false),("Down",true),("Turned",false),("Dyed",false)]) (b0 0)) b8))))
 (g7 (n5 (K5 (x9 (m2 gNe (b0 3) (B4 (a8 (m2 B7 (b0 2) (mC (.str "across"))) (a8 (m2 B7 (b0 2) (mC (.str "down"))) b8))))) (V2 (m1 (F8 "bool") (m1 (D0 ["Across","Down"] "many") (b0 0))))) (j4 (mC (.bool false))) j1)
 (j4 (a61 (m2 B7 (m1 (D0 ["Across","Down"] "many") (b0 0)) (m2 o9 (b0 1) (mC (.int 1)))) (i7 X0 (a8 (m1 (D0 ["Across","Down","Turned","Dyed"] "part") (b0 0)) (a8 (m2 o9 (b0 1) (mC (.int 2))) b8))))))))))))))
def b0H:Nat→(List PV→Υ g0)
 |0=>(m8 4 (λ_=>ζ))
 |n+1=>(m8 4 (a3z ((b0H n))))
def a6V(n:Nat):List PV→Υ g0:=(b0H n)
def a8I:List PV→Υ g0:=a6V 12
def a0o:MS:=
 (g7 (n5 (K5 (A4 (V2 (m1 (F8 "tuple") (b0 2)))) (K5 (x9 (m2 gNe (m1 x8 (b0 2)) (m1 x8 (b0 3)))) (x9 (m2 gNe (E3 (b0 2) N5 (C0 (a63 (mC (.int 1))))) (E3 (b0 3) N5 (C0 (a63 (mC (.int 1))))))))) (j4 (mC (.bool false))) j1)
 (n5 (K5 (V2 (b1q (m1 (F8 "bool") (m2 o9 (b0 2) (mC (.int 1)))) (m1 (a58 [("Plain",false),("Named",false),("Beside",false),("Above",false),("Across",false),("Down",false),("Turned",false),("Dyed",false)]) (m2 o9 (b0 2) (mC (.int 1)))))) (A4 (V2 (i7 a8I (a8 (m2 o9 (b0 2) (a63 (mC (.int 1)))) (a8 (m2 o9 (b0 3) (a63 (mC (.int 1)))) b8)))))) (j4 (mC (.bool false))) j1))
def a8q:MS:=
 (g7 (n5 (K5 (A4 (V2 (m1 (F8 "list") (b0 0)))) (x9 (m2 gNe (m1 x8 (b0 0)) (m1 x8 (b0 1))))) (j4 (mC (.bool false))) j1)
 (g7 (a2s (b8F (a8 (b0 0) (a8 (b0 1) b8))) (a1u [2,3]) a0o)
 (j4 (mC (.bool true)))))
def Z9:List PV→Υ g0:=m8 2 a8q
def a5k:MS:=
 (g7 (n5 (x9 (m2 B7 (m2 o9 (b0 0) (mC (.int 0))) (mC (.str "let")))) (j4 (m2 l8 (m2 l8 (m2 l8 (mC (.str "let ")) (m2 o9 (b0 0) (mC (.int 1)))) (mC (.str " = "))) (i7 E2 (a8 (m2 o9 (b0 0) (mC (.int 2))) b8)))) j1)
 (g7 (n5 (x9 (m2 B7 (m2 o9 (b0 0) (mC (.int 0))) (mC (.str "again")))) (j4 (m2 l8 (m2 l8 (m2 l8 (m2 l8 (m2 l8 (mC (.str "again ")) (m1 a7Q (m2 o9 (b0 0) (mC (.int 1))))) (mC (.str " "))) (m2 o9 (b0 0) (mC (.int 2)))) (mC (.str " = "))) (i7 E2 (a8 (m2 o9 (b0 0) (mC (.int 3))) b8)))) j1)
 (j4 (m2 l8 (mC (.str "knot ")) (i7 E2 (a8 (m2 o9 (b0 0) (mC (.int 1))) b8))))))
def a5u:List PV→Υ g0:=m8 0 a5k
def a41:MS:=
 (g7 (u4 2 (mC .none))
 (g7 (a64 (a7S (V2 (m1 (F8 "list") (b0 0))) (a48 P9 (a8 (m2 M5 (mC (.str "\n")) (b0 0)) b8)) (a48 P9 (a8 (b0 0) b8))) 3 (inL ["NoCloth","NoText"]) (u4 2 (b0 3)))
 (g7 (n5 (K5 (A4 (V2 (m1 (b2C [("NoCloth",false),("NoText",true)]) (b0 2)))) (A4 (V2 (m1 (b2C [("NoCloth",true),("NoText",true)]) (b0 2))))) (j4 (mC (.bool false))) j1)
 (g7 (n5 (V2 (m1 (b2C [("NoText",false)]) (b0 2))) (j4 (mC (.bool false))) j1)
 (g7 (n5 (K5 (A4 (V2 (m1 (F8 "int") (m1 (gFx ["NoText"] "row") (b0 2))))) (V2 (m1 (F8 "bool") (m1 (gFx ["NoText"] "row") (b0 2))))) (j4 (mC (.bool false))) j1)
 (j4 (m2 B7 (m1 (gFx ["NoText"] "row") (b0 2)) (b0 1))))))))
def u6:List PV→Υ g0:=m8 2 a41
def a43:MS:=
 (j4 (m2 M5 (mC (.str "/")) (b0 0)))
def U0:List PV→Υ g0:=m8 0 a43
def b04:MS:=
 (j4 (m2 l8 (m2 l8 (mC (.str "[")) (i7 U0 (a8 (m1 (D0 ["Plain"] "rows") (b0 0)) b8))) (mC (.str "]"))))
def t5:List PV→Υ g0:=m8 0 b04
def b03:MS:=
 (j4 (m1 (D0 ["Named"] "name") (b0 0)))
def t4:List PV→Υ g0:=m8 0 b03
def a2E(i9 g9 i4 j5 j6 i5 Zac:List PV→Υ g0):MS:=
 (j4 (m2 l8 (m2 l8 (mC (.str "above(")) (i7 Zac (a8 (m1 (D0 ["Beside","Above"] "parts") (b0 0)) b8))) (mC (.str ")"))))
def a1T(i9 g9 i4 j5 j6 i5 Zac:List PV→Υ g0):MS:=
 (j4 (m2 l8 (m2 l8 (m2 l8 (m2 l8 (mC (.str "across(")) (m1 a7Q (m1 (D0 ["Across","Down"] "many") (b0 0)))) (mC (.str ", "))) (a1k [("Plain",t5),("Named",t4),("Beside",i4),("Above",i9),("Across",g9),("Down",j5),("Turned",i5),("Dyed",j6)] "text" (m1 (D0 ["Across","Down","Turned","Dyed"] "part") (b0 0)) b8)) (mC (.str ")"))))
def a1U(i9 g9 i4 j5 j6 i5 Zac:List PV→Υ g0):MS:=
 (j4 (m2 l8 (m2 l8 (mC (.str "beside(")) (i7 Zac (a8 (m1 (D0 ["Beside","Above"] "parts") (b0 0)) b8))) (mC (.str ")"))))
def a3u(i9 g9 i4 j5 j6 i5 Zac:List PV→Υ g0):MS:=
 (j4 (m2 l8 (m2 l8 (m2 l8 (m2 l8 (mC (.str "down(")) (m1 a7Q (m1 (D0 ["Across","Down"] "many") (b0 0)))) (mC (.str ", "))) (a1k [("Plain",t5),("Named",t4),("Beside",i4),("Above",i9),("Across",g9),("Down",j5),("Turned",i5),("Dyed",j6)] "text" (m1 (D0 ["Across","Down","Turned","Dyed"] "part") (b0 0)) b8)) (mC (.str ")"))))
def a3v(i9 g9 i4 j5 j6 i5 Zac:List PV→Υ g0):MS:=
 (j4 (m2 l8 (m2 l8 (m2 l8 (m2 l8 (m2 l8 (m2 l8 (mC (.str "dye(")) (m1 (D0 ["Dyed"] "one") (b0 0))) (mC (.str ", "))) (m1 (D0 ["Dyed"] "other") (b0 0))) (mC (.str ", "))) (a1k [("Plain",t5),("Named",t4),("Beside",i4),("Above",i9),("Across",g9),("Down",j5),("Turned",i5),("Dyed",j6)] "text" (m1 (D0 ["Across","Down","Turned","Dyed"] "part") (b0 0)) b8)) (mC (.str ")"))))
def a1V(i9 g9 i4 j5 j6 i5 Zac:List PV→Υ g0):MS:=
 (j4 (m2 l8 (m2 l8 (m2 l8 (m1 (D0 ["Turned"] "way") (b0 0)) (mC (.str "("))) (a1k [("Plain",t5),("Named",t4),("Beside",i4),("Above",i9),("Across",g9),("Down",j5),("Turned",i5),("Dyed",j6)] "text" (m1 (D0 ["Across","Down","Turned","Dyed"] "part") (b0 0)) b8)) (mC (.str ")"))))
def N4(i9 g9 i4 j5 j6 i5 Zac:List PV→Υ g0):M:=
 (a1k [("Plain",t5),("Named",t4),("Beside",i4),("Above",i9),("Across",g9),("Down",j5),("Turned",i5),("Dyed",j6)] "text" (b0 1) b8)
def a0O(i9 g9 i4 j5 j6 i5 Zac:List PV→Υ g0):MS:=
 (j4 (m2 M5 (mC (.str ", ")) (O3 1 (A3 (b0 0)) (u8 1) W3 (N4 i9 g9 i4 j5 j6 i5 Zac))))
def d6:Nat→(List PV→Υ g0)×(List PV→Υ g0)×(List PV→Υ g0)×(List PV→Υ g0)×(List PV→Υ g0)×(List PV→Υ g0)×(List PV→Υ g0)
 |0=>(m8 0 (λ_=>ζ),m8 0 (λ_=>ζ),m8 0 (λ_=>ζ),m8 0 (λ_=>ζ),m8 0 (λ_=>ζ),m8 0 (λ_=>ζ),m8 0 (λ_=>ζ))
 |n+1=>(m8 0 (a2E ((d6 n).1) ((d6 n).2.1) ((d6 n).2.2.1) ((d6 n).2.2.2.1) ((d6 n).2.2.2.2.1) ((d6 n).2.2.2.2.2.1) ((d6 n).2.2.2.2.2.2)),m8 0 (a1T ((d6 n).1) ((d6 n).2.1) ((d6 n).2.2.1) ((d6 n).2.2.2.1) ((d6 n).2.2.2.2.1) ((d6 n).2.2.2.2.2.1) ((d6 n).2.2.2.2.2.2)),m8 0 (a1U ((d6 n).1) ((d6 n).2.1) ((d6 n).2.2.1) ((d6 n).2.2.2.1) ((d6 n).2.2.2.2.1) ((d6 n).2.2.2.2.2.1) ((d6 n).2.2.2.2.2.2)),m8 0 (a3u ((d6 n).1) ((d6 n).2.1) ((d6 n).2.2.1) ((d6 n).2.2.2.1) ((d6 n).2.2.2.2.1) ((d6 n).2.2.2.2.2.1) ((d6 n).2.2.2.2.2.2)),m8 0 (a3v ((d6 n).1) ((d6 n).2.1) ((d6 n).2.2.1) ((d6 n).2.2.2.1) ((d6 n).2.2.2.2.1) ((d6 n).2.2.2.2.2.1) ((d6 n).2.2.2.2.2.2)),m8 0 (a1V ((d6 n).1) ((d6 n).2.1) ((d6 n).2.2.1) ((d6 n).2.2.2.1) ((d6 n).2.2.2.2.1) ((d6 n).2.2.2.2.2.1) ((d6 n).2.2.2.2.2.2)),m8 0 (a0O ((d6 n).1) ((d6 n).2.1) ((d6 n).2.2.1) ((d6 n).2.2.2.1) ((d6 n).2.2.2.2.1) ((d6 n).2.2.2.2.2.1) ((d6 n).2.2.2.2.2.2)))
def a14(n:Nat):List PV→Υ g0:=(d6 n).1
def X7:List PV→Υ g0:=a14 20
def a1e(n:Nat):List PV→Υ g0:=(d6 n).2.1
def T6:List PV→Υ g0:=a1e 20
def a1f(n:Nat):List PV→Υ g0:=(d6 n).2.2.1
def T7:List PV→Υ g0:=a1f 20
def a2R(n:Nat):List PV→Υ g0:=(d6 n).2.2.2.1
def a0G:List PV→Υ g0:=a2R 20
def a2S(n:Nat):List PV→Υ g0:=(d6 n).2.2.2.2.1
def a0H:List PV→Υ g0:=a2S 20
def a1g(n:Nat):List PV→Υ g0:=(d6 n).2.2.2.2.2.1
def T8:List PV→Υ g0:=a1g 20
def a0b(n:Nat):List PV→Υ g0:=(d6 n).2.2.2.2.2.2
def a3B:MS:=
 (g7 (n5 (x9 (m2 B7 (m2 o9 (b0 0) (mC (.int 0))) (mC (.str "let")))) (j4 (m2 l8 (m2 l8 (m2 l8 (mC (.str "let ")) (m2 o9 (b0 0) (mC (.int 1)))) (mC (.str " = "))) (a1k [("Plain",t5),("Named",t4),("Beside",T7),("Above",X7),("Across",T6),("Down",a0G),("Turned",T8),("Dyed",a0H)] "text" (m2 o9 (b0 0) (mC (.int 2))) b8))) j1)
 (g7 (n5 (x9 (m2 B7 (m2 o9 (b0 0) (mC (.int 0))) (mC (.str "again")))) (j4 (m2 l8 (m2 l8 (m2 l8 (m2 l8 (m2 l8 (mC (.str "again ")) (m1 a7Q (m2 o9 (b0 0) (mC (.int 1))))) (mC (.str " "))) (m2 o9 (b0 0) (mC (.int 2)))) (mC (.str " = "))) (a1k [("Plain",t5),("Named",t4),("Beside",T7),("Above",X7),("Across",T6),("Down",a0G),("Turned",T8),("Dyed",a0H)] "text" (m2 o9 (b0 0) (mC (.int 3))) b8))) j1)
 (j4 (m2 l8 (mC (.str "knot ")) (a1k [("Plain",t5),("Named",t4),("Beside",T7),("Above",X7),("Across",T6),("Down",a0G),("Turned",T8),("Dyed",a0H)] "text" (m2 o9 (b0 0) (mC (.int 1))) b8)))))
def a3S:List PV→Υ g0:=m8 0 a3B
def a2U:M:=
 (i7 a3S (a8 (b0 1) b8))
def b9X:MS:=
 (j4 (m2 M5 (mC (.str "\n")) (O3 1 (A3 (b0 0)) (u8 1) W3 a2U)))
def a6c:List PV→Υ g0:=m8 0 b9X
def a6K:MS:=
 (g7 (u4 1 (B4 (a8 (mC (.str "")) (a8 (mC (.str " ")) (a8 (mC (.str "let")) (a8 (mC (.str "let k")) (a8 (mC (.str "let k =")) (a8 (mC (.str "let k = ")) (a8 (mC (.str "let k= k")) (a8 (mC (.str "let k =k")) (a8 (mC (.str "let  k = k")) (a8 (mC (.str "let K = k")) b8))))))))))))
 (g7 (u4 1 (m2 l8 (b0 1) (B4 (a8 (mC (.str "let turn = k")) (a8 (mC (.str "let k k = k")) (a8 (mC (.str "let = k")) (a8 (mC (.str "let abcdefghi = k")) (a8 (mC (.str "Let k = k")) (a8 (mC (.str "let k = turn")) b8)))))))))
 (g7 (u4 1 (m2 l8 (b0 1) (B4 (a8 (mC (.str "let k = [a")) (a8 (mC (.str "let k = k ")) (a8 (mC (.str " let k = k")) (a8 (mC (.str "again k = k")) (a8 (mC (.str "again 0 k = k")) (a8 (mC (.str "again 25 k = k")) b8)))))))))
 (g7 (u4 1 (m2 l8 (b0 1) (B4 (a8 (mC (.str "again 02 k = k")) (a8 (mC (.str "again 2 = k")) (a8 (mC (.str "again 2 k k = k")) (a8 (mC (.str "again 2  k = k")) (a8 (mC (.str "again two k = k")) b8))))))))
 (g7 (u4 1 (m2 l8 (b0 1) (B4 (a8 (mC (.str "again -2 k = k")) (a8 (mC (.str "again 2 dye = k")) (a8 (mC (.str "again 2 k")) (a8 (mC (.str "knot")) (a8 (mC (.str "knot ")) (a8 (mC (.str "knot turn")) (a8 (mC (.str "knots k")) b8))))))))))
 (g7 (u4 1 (m2 l8 (b0 1) (B4 (a8 (mC (.str "k")) (a8 (mC (.str "k = k")) (a8 (mC (.str "let k = turn(")) (a8 (mC (.str "let 2 k = k")) (a8 (mC (.str "again 2 k = [A]")) (a8 (mC (.str "let k == k")) b8)))))))))
 (j4 (m2 o9 (b0 1) (m2 Θ (b0 0) (mC (.int 40)))))))))))
def a4E:List PV→Υ g0:=m8 1 a6K
def b3S:MS:=
 (j4 (m2 l8 (m2 l8 (m2 l8 (m2 l8 (mC (.str "let ")) (b0 0)) (mC (.str " = ["))) (m2 M5 (mC (.str "/")) (m2 t8 (B4 (a8 (m2 t8 (mC (.str "a")) (mC (.int 22))) b8)) (mC (.int 17))))) (mC (.str "]"))))
def Z8:List PV→Υ g0:=m8 0 b3S
def a3x:MS:=
 (g7 (u4 2 (m2 Θ (m2 Θ (m2 t8 (b0 1) (mC (.int 39373))) (mC (.int 999953))) (mC (.int 6))))
 (g7 (u4 3 (m2 Θ (m2 Θ (m2 t8 (b0 1) (mC (.int 48271))) (mC (.int 1000003))) (m1 x8 (b0 0))))
 (g7 (u4 4 (E3 (b0 0) N5 (C0 (b0 3))))
 (g7 (n5 (x9 (m2 B7 (b0 2) (mC (.int 0)))) (j4 (i7 u6 (a8 (m2 l8 (m2 l8 (b0 4) (B4 (a8 (i7 a4E (a8 (b0 1) b8)) b8))) (E3 (b0 0) (C0 (m2 l8 (b0 3) (mC (.int 1)))) N5)) (a8 (b0 3) b8)))) j1)
 (g7 (n5 (x9 (m2 B7 (b0 2) (mC (.int 1)))) (j4 (i7 u6 (a8 (m2 l8 (m2 l8 (b0 4) (B4 (a8 (m2 o9 (b0 0) (a63 (mC (.int 1)))) b8))) (E3 (b0 0) (C0 (b0 3)) N5)) (a8 (b0 3) b8)))) j1)
 (g7 (n5 (Y9 (x9 (m2 B7 (b0 2) (mC (.int 2)))) (x9 (m2 (gI λi j=> .bool (decide (j<i))) (m1 x8 (b0 0)) (mC (.int 1))))) (j4 (i7 u6 (a8 (E3 (b0 0) N5 (C0 (a63 (mC (.int 1))))) (a8 (m2 (gI λi j=> .int (i - j)) (m1 x8 (b0 0)) (mC (.int 2))) b8)))) j1)
 (g7 (n5 (x9 (m2 B7 (b0 2) (mC (.int 3)))) (j4 (i7 u6 (a8 (m2 l8 (m2 l8 (b0 4) (B4 (a8 (i7 Z8 (a8 (mC (.str "kk")) b8)) b8))) (E3 (b0 0) (C0 (b0 3)) N5)) (a8 (b0 3) b8)))) j1)
 (g7 (n5 (x9 (m2 B7 (b0 2) (mC (.int 4)))) (g7 (u4 5 (m2 o9 (B4 (a8 (m2 o9 (b0 0) (mC (.int 0))) (a8 (mC (.str "let k = k")) b8))) (m1 b2A (m2 B7 (m1 x8 (b0 0)) (mC (.int 1))))))
 (j4 (i7 u6 (a8 (m2 l8 (m2 t8 (B4 (a8 (b0 5) b8)) (mC (.int 40))) (B4 (a8 (m2 o9 (b0 0) (a63 (mC (.int 1)))) b8))) (a8 (mC (.int 40)) b8))))) j1)
 (j4 (i7 u6 (a8 (m2 l8 (m2 l8 (b0 4) (B4 (a8 (i7 a4E (a8 (m2 Ω (b0 1) (mC (.int 7))) b8)) b8))) (E3 (b0 0) (C0 (b0 3)) N5)) (a8 (b0 3) b8))))))))))))
def a3R:List PV→Υ g0:=m8 4 a3x
def a6i:M:=
 (i7 a5u (a8 (b0 7) b8))
def a6g:MS:=
 (a2t 2 (n5 (A4 (V2 (i7 a3R (a8 (b0 2) (a8 (m2 l8 (m2 l8 (m2 t8 (i7 E7 (a8 (m2 o9 (b0 0) (b0 5)) (a8 (b0 5) b8))) (mC (.int 5))) (m2 t8 (mC (.int 3)) (b0 5))) (mC (.int 1))) b8))))) (j4 (mC (.bool false))) j1))
def a6h:MS:=
 (n5 (A4 (V2 (i7 u6 (a8 (b0 6) (a8 (mC (.int 0)) b8))))) (j4 (mC (.bool false))) j1)
def b7z:MS:=
 (g7 (u4 1 (i7 a5v (a8 (b0 0) b8)))
 (g7 (u4 2 (O3 1 (A3 (b0 1)) (u8 7) W3 a6i))
 (g7 (u4 3 (m2 M5 (mC (.str "\n")) (b0 2)))
 (g7 (u4 4 (i7 (left P9) (a8 (b0 3) b8)))
 (g7 (a2t 1 (a2t 4 (n5 (K5 (A4 (V2 (i7 Z9 (a8 (b0 4) (a8 (b0 1) b8))))) (x9 (m2 gNe (i7 a6c (a8 (b0 4) b8)) (b0 3)))) (j4 (mC (.bool false))) j1)))
 (g7 (a2s (a34 (a8 (m2 (gI λi j=> .int (if j<i then j else i)) (m1 x8 (b0 0)) (mC (.int 8))) b8)) (u8 5) a6g)
 (g7 (a2s (b1s (B4 (a8 (mC .none) (a8 (mC (.int 1)) (a8 (mC (.bool true)) (a8 (C3 (a8 (mC (.str "knot k")) b8)) (a8 a62 b8))))))) (u8 6) a6h)
 (g7 (a2t 2 (n5 (A4 (V2 (i7 u6 (a8 (m2 b2z (b0 2) (B4 (a8 (mC (.str "")) b8))) (a8 (m2 (gI λi j=> .int (i - j)) (m1 x8 (b0 2)) (mC (.int 1))) b8))))) (j4 (mC (.bool false))) j1))
 (g7 (n5 (x9 (m2 gNe (i7 a6c (a8 (i7 (left P9) (a8 (m2 l8 (i7 Z8 (a8 (mC (.str "k")) b8)) (mC (.str "\nknot k"))) b8)) b8)) (m2 l8 (i7 Z8 (a8 (mC (.str "k")) b8)) (mC (.str "\nknot k"))))) (j4 (mC (.bool false))) j1)
 (a2t 1 (j4 (i7 Z9 (a8 (i7 (left P9) (a8 (b0 3) b8)) (a8 (b0 1) b8))))))))))))))
def c1V:List PV→Υ g0:=m8 6 b7z
theorem c0m{l:List Nat}{m:Nat}(hl:l.length=m)(hm:m≤10000){j:Int}(h0:0≤j)(h1:j<m):o9 (.v (row l)) (.v (.int j))=φ (row [l.getD j.toNat 0]):=by
 have hk:j.toNat<l.length:=by lia
 refine b79 (by lia) ?_
 rw [b7x h0,BF hk];simp [List.getD,hk]
theorem c3Y:a03= .int 24:=rfl
theorem a_S:AD "a"=S [97]:=by decide+kernel
theorem z_S:AD "z"=S [122]:=by decide+kernel
theorem b5r(z:Str):a6W "str" (.str z)=true:=rfl
theorem b37{l:List Nat}(h:l.length≤16777216):x8 (.v (row l))=φ (.int l.length):=by
 show(if(S l).length≤AN then ξ (g0.v (.int (S l).length)) else ζ)=_
 rw [if_pos (by rw [O0,sizeLine_eq];exact h),O0]
def lt1(c:Nat):Bool:=decide (97≤c)&& decide (c≤122)
def rOk(l:List Nat):Bool:=decide (1≤l.length)&&(decide (l.length≤24)&& l.all lt1)
theorem c25(a b:Nat):decide ([a]<[b])=decide (a<b):=by
 rw [decide_eq_decide,List.cons_lt_cons_iff];simp
theorem c1L{α:Type}(l:List α):b34 (.own (l.map λ_=>PyData.bool true))=φ (.bool true):=by
 have e:(l.map λ_=>PyData.bool true)=(l.map λ_=>true).map .bool:=by rw [BC];rfl
 rw [e,b35]
 congr 3
 rw [List.all_map,List.all_eq_true];exact λ_ _=>rfl
theorem b6m{l:List Nat}(h1:1≤l.length)(h2:l.length≤24)(h:∀c∈l,lt1 c=true):a6a [row l]=φ (.bool true):=by
 have hc:O3 1 (a8U (b0 0)) (u8 1) W3 a3Y [φ (row l)]=ξ (.own (l.map λ_=> .bool true)):=by
  refine W2 (ι:=λc=> .str (S [c])) l (b8D rfl) (by lia) λc hc=>⟨_,rfl, ?_⟩
  have:=h c hc;unfold lt1 at this;simp only [χ,decide_eq_true_eq] at this;unfold a3Y;simp! [K4,a8v,r9,k7,p8,j8,AM,Ag,Ab,Ac,Aa,Ai,Aj,Bool.not_false,a_S,z_S,c2M,c25,decide_eq_false (show ¬c<97 by lia),decide_eq_false (show ¬122<c by lia)]
  try rfl
 unfold a6a b2g;simp! [b1i,K4,a8v,D3,r9,k7,p0,A7,n8,u9,p7,E9,m9,o8,v7,C5,r6,w4,S4,A8,x6,S2,b2B,AM,An,AT,Ae,Ab,Al,Bool.not_true,b2I,c1O,b5r,b37,c3Y,decide_eq_true (show(1:Int)≤(l.length:Int) by lia),decide_eq_true (show(l.length:Int)≤24 by lia),hc,c1L]
 try rfl
theorem b2r{c:Nat}:∀{a b u v:List Nat},c∉a→c∉b→a++c::u=b++c::v→a=b∧u=v
 |[],[],u,v,_,_,h=>by simpa using h
 |[],y::b,u,v,_,hb,h=>by
  simp only [Aa,Ac,List.cons.injEq] at h;exact absurd (by rw [h.1];exact AZ) hb
 |x::a,[],u,v,ha,_,h=>by
  simp only [Aa,Ac,List.cons.injEq] at h;exact absurd (by rw [h.1];exact AZ) ha
 |x::a,y::b,u,v,ha,hb,h=>by
  simp only [Ac,List.cons.injEq] at h;obtain⟨e1,e2⟩:=b2r (λz=>ha (Af _ z)) (λz=>hb (Af _ z)) h.2;exact⟨by rw [h.1,e1],e2⟩
theorem Y0(c:Nat)(a b:List Nat)(r:List (List Nat)):m6 [c] (a::b::r)=a++c::m6 [c] (b::r):=by
 show a++[c]++m6 [c] (b::r)=_;simp
theorem b2G{c:Nat}:∀{A B:List (List Nat)},A≠[]→B≠[]→(∀p∈A,c∉p)→(∀p∈B,c∉p)→m6 [c] A=m6 [c] B→A=B
 |[],_,h,_,_,_,_=>absurd rfl h
 |_,[],_,h,_,_,_=>absurd rfl h
 |[a],[b],_,_,_,_,h=>by
  have h:a=b:=h;rw [h]
 |[a],b::b'::r,_,_,ha,_,h=>by
  rw [Y0] at h;have h:a=b++c::m6 [c] (b'::r):=h;exact absurd (by rw [h];simp) (ha a AZ)
 |a::a'::r,[b],_,_,_,hb,h=>by
  rw [Y0] at h;have h:a++c::m6 [c] (a'::r)=b:=h;exact absurd (by rw [←h];simp) (hb b AZ)
 |a::a'::r,b::b'::t,_,_,ha,hb,h=>by
  rw [Y0,Y0] at h;obtain⟨e1,e2⟩:=b2r (ha a AZ) (hb b AZ) h;have:=b2G (A:=a'::r) (B:=b'::t) (by simp) (by simp) (λp hp=>ha p (Af _ hp)) (λp hp=>hb p (Af _ hp)) e2
  rw [e1,this]
theorem a5P{l:List Nat}{c:Nat}{R:List (List Nat)}(h0:R≠[])(h1:∀p∈R,c∉p)(h2:m6 [c] R=l):Txt.split (S l) (S [c])=R.map S:=by
 have f:=StrLaws.split_free (S l) c;have j:=StrLaws.join_split (S l) (S [c]);rw [show(⟨#[c]⟩:Str)=S [c] from rfl] at f;generalize hT:Txt.split (S l) (S [c])=T at f j;have e:T=(T.map λz=>z.cps.toList).map S:=by
  rw [BC]
  conv=>lhs;rw [←List.map_id T]
  refine List.map_congr_left λz _=> ?_;exact(c1J z).symm
 have hT0:T≠[]:=by
  intro z;rw [←hT] at z;unfold Txt.split at z;split at z
  ·cases z
  ·split at z
   ·cases z
   ·rw [StrLaws.partsBetween_eq] at z;obtain⟨p,r,q⟩:=StrLaws.partsFrom_ne (S l) (S [c]).length 0 (Builtin.Str.occurrences (S l) (S [c]) 0 (S l).length ((S l).length+1));rw [q] at z;cases z
 rw [e] at j;have j2:S (m6 [c] (T.map λz=>z.cps.toList))=S l:=by
  rw [←b8p];show Builtin.Str.glued _ _=_;rw [StrLaws.glued_eq_join];exact j
 have j3:=c1K j2;rw [←h2] at j3;have:=b2G (c:=c) (A:=T.map λz=>z.cps.toList) (B:=R) (by simpa using hT0) h0 (λp hp=>by
  obtain⟨z,hz,rfl⟩:=BA.mp hp;exact f z hz) h1 j3
 rw [e,this]
theorem a79:AD "/"=S [47]:=by decide+kernel
theorem a3T(c:Nat):∀R:List (List Nat),R≠[]→(m6 [c] R).length+1=(R.map (·.length)).sum+R.length
 |[],h=>absurd rfl h
 |[a],_=>by simp [m6]
 |a::b::r,_=>by
  have:=a3T c (b::r) (by simp)
  rw [Y0];simp only [AQ,AO,AT,List.sum_cons] at this ⊢
  lia
def okR(r0 l:List Nat):Bool:=(l.length==r0.length)&& l.all lt1
def a6l:List (List Nat)→Bool
 |[]=>false
 |r0::R=>decide ((r0::R).length≤24)&&(rOk r0 &&(r0::R).all (okR r0))
theorem c3c{R:List (List Nat)}(h:a6l R=true):R≠[]:=by intro z;rw [z] at h;cases h
theorem a6m{R:List (List Nat)}(h:a6l R=true):∀r∈R,∀x∈r,lt1 x=true:=by
 cases R with
 |nil=>cases h
 |cons r0 R=>
  unfold a6l at h;simp only [χ,List.all_eq_true] at h;intro r hr x hx;have:=h.2.2 r hr;unfold okR at this;simp only [χ,List.all_eq_true] at this;exact this.2 x hx
theorem b2F{p:Nat→Prop}{c:Nat}(hc:p c):∀{R:List (List Nat)},(∀r∈R,∀x∈r,p x)→∀x∈m6 [c] R,p x
 |[],_,x,h=>by cases h
 |[r],hR,x,h=>hR r AZ x (by simpa [m6] using h)
 |r::q::R,hR,x,h=>by
  rw [Y0] at h;rcases Av.mp h with h|h
  ·exact hR r AZ x h
  ·rcases Ah.mp h with rfl|h
   ·exact hc
   ·exact b2F hc (λy hy=>hR y (Af _ hy)) x h
def b9O(n:MX):FX→Υ FX
 | .fl (.nx ρ)=>n ρ
 |f=>ξ f
def c3V(m n:MX)(ρ:b9)(b:Bool):Υ FX:=if b=true then m ρ else n ρ
def b5M:FX→Υ (g0 ⊕ XT)
 | .fl (.rt r)=>ξ (.inl r)
 | .fl (.nx _)=>ξ (.inl (.v .none))
 | .rz c _=>ξ (.inr c)
 |_=>ζ
theorem W4(m n:MX)(ρ:b9):a1l m n ρ=(m ρ).bind (b9O n):=ω
theorem a1y(n:MX)(ρ:b9):b9O n (.fl (.nx ρ))=n ρ:=ω
theorem U1(c:MT)(m n:MX)(ρ:b9):a7S c m n ρ=(c ρ).bind (c3V m n ρ):=ω
theorem a7h(m n:MX)(ρ:b9):c3V m n ρ true=m ρ:=ω
theorem a9E(m n:MX)(ρ:b9):c3V m n ρ false=n ρ:=ω
theorem a1m(m:MS)(ρ:b9):a0Z m ρ=(m ρ).map .fl:=ω
theorem a9o(n:Nat)(b:MX)(ps:List PV):b6X n b ps=(b (ps.map (λp=>ξ (g0.v p))++AU n ζ)).bind b5M:=ω
theorem b9r(r:g0):b5M (.fl (.rt r))=ξ (.inl r):=ω
theorem c0O{i:Nat}{g:List PV→Υ (g0 ⊕ XT)}{m:MA}{ρ:b9}{ps:List PV}{p:PV}(h1:m ρ=ξ ps)(h2:g ps=ξ (.inl (.v p))):b0B i g m ρ=ξ (.fl (.nx (ρ.set i (φ p)))):=by
 unfold b0B b2l;rw [h1,AM,h2]
 rfl
theorem b5G{g:List PV→Υ (g0 ⊕ XT)}{m:MA}{ρ:b9}{ps:List PV}{c:XT}(h1:m ρ=ξ ps)(h2:g ps=ξ (.inr c)):a48 g m ρ=ξ (.rz c ρ):=by
 unfold a48 b2l;rw [h1,AM,h2]
 rfl
theorem b6z{b:MX}{i:Nat}{inm:Str→Bool}{hd:MS}{ρ ρ':b9}{c:XT}(h:b ρ=ξ (.rz c ρ'))(hc:inm c.cls=true):a64 b i inm hd ρ=(hd (ρ'.set i (φ (xcV c)))).map (b1e i):=by
 unfold a64;rw [h,AM];exact if_pos hc
theorem c0U{r0:List Nat}{R:List (List Nat)}(h:a6l (r0::R)=true):(r0::R).length≤24∧(1≤r0.length∧r0.length≤24)∧∀r∈r0::R,r.length=r0.length:=by
 unfold a6l rOk okR at h;simp only [χ,decide_eq_true_eq,List.all_eq_true,beq_iff_eq] at h;exact⟨h.1,⟨h.2.1.1,h.2.1.2.1⟩,λr hr=>(h.2.2 r hr).1⟩
theorem b2J{R:List (List Nat)}(h:a6l R=true):a2M [.tuple (R.map row)]=φ (.bool true):=by
 have hr:=a6m h;cases R with
 |nil=>cases h
 |cons r0 R=>
  obtain⟨h24,h0,hl⟩:=c0U h;have it:A3 (b0 0) [φ (.tuple ((r0::R).map row))]=ξ ((r0::R).map row):=a32 (r:= .v (.tuple ((r0::R).map row))) rfl rfl;have hc:O3 1 (A3 (b0 0)) (u8 1) W3 a15 [φ (.tuple ((r0::R).map row))]=ξ (.own ((r0::R).map λ_=> .bool true)):=by
   refine W2 (ι:=row) (r0::R) it (by lia) λr hm=>⟨_,rfl, ?_⟩
   have e:=hl r hm;have:=b6m (l:=r) (by lia) (by lia) (hr r hm)
   unfold a15;simp! [k7,p8,j7,j0,j8,l9,AM,AT,Ag,Ab,Ac,Aa,Ai,Aj,this]
  have hix:o9 (.v (.tuple ((r0::R).map row))) (.v (.int 0))=φ (row r0):=E4 _ _;have hc2:O3 1 (A3 (b0 0)) (u8 1) W3 a16 [φ (.tuple ((r0::R).map row))]=ξ (.own ((r0::R).map λ_=> .bool true)):=by
   refine W2 (ι:=row) (r0::R) it (by lia) λr hm=>⟨_,rfl, ?_⟩
   have e:=hl r hm;have ee:B7 (.v (.int (r0.length:Int))) (.v (.int (r0.length:Int)))=φ (.bool true):=a2o rfl;have g1:=b37 (l:=r) (by lia)
   rw [e] at g1;have g2:=b37 (l:=r0) (by lia)
   unfold a16;simp! [E4,t7,D3,r9,k7,p8,j8,AM,AT,Ag,Ab,Ac,Aa,Ai,Aj,g1,hix,g2,ee]
  have gl:x8 (.v (.tuple ((r0::R).map row)))=φ (.int ((r0::R).length:Nat)):=by rw [b2D,AY]
  have d1:decide ((1:Int)≤((r0::R).length:Nat))=true:=decide_eq_true (by rw [AO];lia)
  have d2:decide ((((r0::R).length:Nat):Int)≤24)=true:=decide_eq_true (by lia)
  have it:F8 "tuple" (.v (.tuple ((r0::R).map row)))=φ (.bool true):=rfl;unfold a2M a8o;generalize hP:r0::R=P at*;rw [c3Y];simp! [b1i,K4,a8v,D3,r9,k7,p0,A7,n8,u9,p7,E9,m9,o8,v7,C5,r6,w4,S4,A8,x6,S2,AM,An,AT,Ae,Ab,Al,Bool.not_true,it,gl,d1,d2,hc,c1L,hc2]
  try rfl
theorem b9p{R:List (List Nat)}(ok:a6l R=true)(hl:(m6 [47] R).length≤10000):X8 [row (m6 [47] R)]=ξ (.inl (.v (.tuple (R.map row)))):=by
 have h0:=c3c ok;have hlen:=a3T 47 R h0;have hs:a13 (.v (row (m6 [47] R))) (.v (.str (S [47])))=ξ (.own (R.map row)):=by
  show(if(((S [47]).length==0)=false∧(S (m6 [47] R)).length≤AN∧(Txt.split (S (m6 [47] R)) (S [47])).length≤AN) then ξ (g0.own ((Txt.split (S (m6 [47] R)) (S [47])).map .str)) else ζ)=_
  rw [a5P h0 (λp hp z=>by have:=a6m ok p hp 47 z;cases this) rfl,if_pos ⟨rfl,by rw [O0,sizeLine_eq];lia,by rw [AY,sizeLine_eq];lia⟩,BC]
  rfl
 have hc:=b2J ok;unfold X8 a52;simp! [t7,D3,r9,k7,p8,j7,j0,j8,l9,u0,B9,m9,C5,S4,A8,b2B,AM,An,AT,Ae,Ag,Ab,Ac,Aa,Ai,Aj,Bool.not_true,b4a,a74,a75,b2I,c1O,a9o,W4,U1,b5r,a9E,a1m,a1y,a79,hs,hc,b9r]
 try rfl
theorem b9x{R:List (List Nat)}(hl:(m6 [47] R).length≤10000)(h0:R≠[]):U0 [.tuple (R.map row)]=φ (row (m6 [47] R)):=by
 have hlen:=a3T 47 R h0;unfold U0 a43;simp! [t7,r9,k7,p0,A7,o8,v7,AM,AT,Ae,Ab,Al,AO,AX,a79,Z7 (sep:=[47]) (rows:=R) (y:= .v (.tuple (R.map row))) rfl (by simp only [AO,AX];lia)]
theorem c22(a b:Nat):X6 (.v (row [a])) (.v (row [b]))=φ (.bool (decide (a≤b))):=by
 show ξ (g0.v (.bool (!decide ((S [b]).cps.toList<(S [a]).cps.toList))))=_;rw [a3q,a3q]
 congr 3
 have:([b]<[a])↔b<a:=by rw [List.cons_lt_cons_iff];simp
 by_cases h:a≤b
 ·rw [decide_eq_true h,decide_eq_false (λz=>by have:=this.mp z;lia)];rfl
 ·rw [decide_eq_false h,decide_eq_true (this.mpr (by lia))];rfl
theorem a78{pre r:List Nat}{x:Nat}(hl:(pre++x::r).length≤10000):o9 (.v (row (pre++x::r))) (.v (.int (pre.length:Nat)))=φ (row [x]):=by
 refine b79 (by lia) ?_
 rw [b2f,List.getElem?_append_right (AV _),Nat.sub_self]
 rfl
theorem a0F{l:List Nat}(h:l.length≤10000):x8 (.v (row l))=φ (.int (l.length:Nat)):=by
 show(if(S l).length≤AN then ξ (g0.v (.int ((S l).length:Nat))) else ζ)=_
 rw [O0,if_pos (by rw [sizeLine_eq];lia)]
theorem a1I(a b:List Nat):B7 (.v (row a)) (.v (row b))=φ (.bool (a==b)):=by
 have h:=c0s a b;rw [b38 (x:= .v (row a)) (y:= .v (row b)) ⟨rfl,rfl⟩] at h;rw [b36 (x:= .v (row a)) (y:= .v (row b)) ⟨rfl,rfl⟩];have h:=Option.some.inj h;injection h with h
 injection h with h
 rw [Bool.not_inj h]
theorem b93{pre ds post:List Nat}:cut (pre++(ds++post)) (ξ (pre.length:Nat)) (ξ ((pre.length+ds.length:Nat):Int))=ds:=by
 unfold cut;have h1:HT.sIx (pre++(ds++post)).length 0 (ξ (pre.length:Nat))=pre.length:=by rw [HT.sIx_nat];simp
 have h2:HT.sIx (pre++(ds++post)).length (pre++(ds++post)).length (ξ ((pre.length+ds.length:Nat):Int))=pre.length+ds.length:=by
  rw [HT.sIx_nat];simp
 rw [h1,h2,List.drop_left,Nat.add_sub_cancel_left,List.take_left]
theorem a9w{pre ds post:List Nat}(hT:(pre++(ds++post)).length≤10000):gSl (.v (row (pre++(ds++post)))) (ξ (pre.length:Nat)) (ξ ((pre.length+ds.length:Nat):Int))=φ (row ds):=by
 show(if(S (pre++(ds++post))).length≤AN then ξ (g0.v (.str ⟨(cut (S (pre++(ds++post))).cps.toList (ξ (pre.length:Nat)) (ξ ((pre.length+ds.length:Nat):Int))).toArray⟩)) else ζ)=_
 rw [O0,if_pos (by rw [sizeLine_eq];lia),a3q,b93]
 rfl
theorem a1t{pre s y:List Nat}:G2 (.v (row (pre++s))) (.v (row y)) (.v (.int (pre.length:Nat)))=φ (.bool (y.isPrefixOf s)):=by
 show ξ (g0.v (.bool _))=_
 congr 3
 have f:fromIndex (S (pre++s)).length (pre.length:Nat)=pre.length:=by
  unfold fromIndex;rw [if_neg (by lia)]
  lia
 rw [f,O0,O0];unfold Builtin.Str.subAt;rw [O0];have e:(S (pre++s)).cps.extract pre.length (pre.length+y.length)=(s.take y.length).toArray:=by
  apply Array.ext';rw [Array.toList_extract,a3q];simp [List.extract]
 rw [e];have e2:((s.take y.length).toArray==(S y).cps)=(s.take y.length==y):=by
  show((s.take y.length).toArray==y.toArray)=_;simp
 rw [e2];cases h:y.isPrefixOf s with
 |true=>
  have h:=List.isPrefixOf_iff_prefix.mp h;obtain⟨t,rfl⟩:=h;simp
 |false=>
  have h:¬y<+:s:=λz=>by rw [List.isPrefixOf_iff_prefix.mpr z] at h;cases h
  by_cases hl:pre.length+y.length≤(pre++s).length
  ·rw [decide_eq_true hl,Bool.true_and];have:s.take y.length≠y:=λz=>h (z▸List.take_prefix _ _)
   simpa using this
  ·rw [decide_eq_false hl,Bool.false_and]
theorem a9p{lo hi:Nat}{post:List Nat}(hp:∀y r,post=y::r→¬(lo≤y∧y≤hi)){T:List Nat}(hT:T.length≤10000){q1:Υ g0}:∀(ds pre:List Nat) (fuel:Nat),T=pre++(ds++post)→(∀x∈ds,lo≤x∧x≤hi)→ds.length<fuel→
 V4 (Y9 (x9 (m2 a4R (b0 4) (m1 x8 (b0 0)))) (x9 (V1 X6 X6 (b0 2) (m2 o9 (b0 0) (b0 4)) (b0 3)))) a0Y fuel [φ (row T),q1,φ (row [lo]),φ (row [hi]),φ (.int (pre.length:Nat))]
  =ξ (.nx [φ (row T),q1,φ (row [lo]),φ (row [hi]),φ (.int ((pre.length+ds.length:Nat):Int))])
 |[],pre,fuel,e,_,hf=>by
  obtain⟨fuel,rfl⟩:∃k,fuel=k+1:=⟨fuel - 1,by have:([]:List Nat).length=0:=rfl;lia⟩
  have gl:=a0F hT;have c:Y9 (x9 (m2 a4R (b0 4) (m1 x8 (b0 0)))) (x9 (V1 X6 X6 (b0 2) (m2 o9 (b0 0) (b0 4)) (b0 3))) [φ (row T),q1,φ (row [lo]),φ (row [hi]),φ (.int (pre.length:Nat))]=ξ false:=by
   cases post with
   |nil=>
    have hlt:decide ((pre.length:Int)<(T.length:Nat))=false:=decide_eq_false (by rw [e];simp)
    simp! [a8H,t7,D3,k7,p8,r6,w4,a4J,c2k,AM,gl,hlt]
   |cons y r=>
    have hlt:decide ((pre.length:Int)<(T.length:Nat))=true:=decide_eq_true (by rw [e];simp;lia)
    have sa:o9 (.v (row T)) (.v (.int (pre.length:Nat)))=φ (row [y]):=by rw [e];exact a78 (by rw [e] at hT;exact hT)
    have hy:=hp y r rfl
    by_cases h1:lo≤y
    ·have h2:decide (y≤hi)=false:=decide_eq_false λz=>hy ⟨h1,z⟩;simp! [a8H,K4,a8v,t7,D3,k7,p8,r6,w4,a4J,b3Q,AM,gl,hlt,sa,c22,decide_eq_true h1,h2]
    ·simp! [a8H,K4,c38,t7,D3,k7,p8,r6,w4,a4J,b3Q,AM,gl,hlt,sa,c22,decide_eq_false h1]
  rw [V4,c,AM,if_neg Ao]
  rfl
 |d::ds,pre,fuel,e,hd,hf=>by
  obtain⟨fuel,rfl⟩:∃k,fuel=k+1:=⟨fuel - 1,by rw [AO] at hf;lia⟩
  rw [AO] at hf;have gl:=a0F hT;have e':T=pre++d::(ds++post):=e;have hlt:decide ((pre.length:Int)<(T.length:Nat))=true:=decide_eq_true (by rw [e'];simp;lia)
  have sa:o9 (.v (row T)) (.v (.int (pre.length:Nat)))=φ (row [d]):=by rw [e'];exact a78 (by rw [e'] at hT;exact hT)
  have hd1:=hd d AZ;have c:Y9 (x9 (m2 a4R (b0 4) (m1 x8 (b0 0)))) (x9 (V1 X6 X6 (b0 2) (m2 o9 (b0 0) (b0 4)) (b0 3))) [φ (row T),q1,φ (row [lo]),φ (row [hi]),φ (.int (pre.length:Nat))]=ξ true:=by
   simp! [a8H,K4,a8v,t7,D3,k7,p8,r6,w4,a4J,b3Q,AM,gl,hlt,sa,c22,decide_eq_true hd1.1,decide_eq_true hd1.2]
  have b:a0Y [φ (row T),q1,φ (row [lo]),φ (row [hi]),φ (.int (pre.length:Nat))]=ξ (.nx [φ (row T),q1,φ (row [lo]),φ (row [hi]),φ (.int ((pre++[d]).length:Nat))]):=by
   unfold a0Y c0H;show ξ _=_;rw [AQ,List.length_singleton,Int.natCast_add]
   rfl
  have ih:=a9p hp hT (q1:=q1) ds (pre++[d]) fuel (by rw [e];simp) (λx hx=>hd x (Af _ hx)) (by lia)
  rw [V4,c,AM,if_pos rfl,b,AM];show V4 _ _ fuel _=_;rw [ih,AQ,List.length_singleton,AO,show pre.length+1+ds.length=pre.length+(ds.length+1) by lia]
def isF(x:Nat):Bool:=decide (48≤x)&& decide (x≤57)
theorem a6j{x:Nat}:lt1 x=true↔97≤x∧x≤122:=by unfold lt1;simp
theorem b5n{x:Nat}:isF x=true↔48≤x∧x≤57:=by unfold isF;simp
theorem b1o{pre w post:List Nat}(hT:(pre++(w++post)).length≤450)(hw:∀x∈w,lt1 x=true)(hp:∀y r,post=y::r→lt1 y=false):K2 [row (pre++(w++post)),.int (pre.length:Nat)]=φ (.int ((pre.length+w.length:Nat):Int)):=by
 rw [AQ,AQ] at hT;have e:=a9p (lo:=97) (hi:=122) (post:=post) (λy r h z=>by have:=hp y r h;rw [a6j.mpr z] at this;cases this) (T:=pre++(w++post)) (by rw [AQ,AQ];lia) (q1:=φ (.int (pre.length:Nat))) w pre 500 rfl (λx hx=>a6j.mp (hw x hx)) (by lia)
 have s0:AD "a"=S [97]:=rfl;have s9:AD "z"=S [122]:=rfl;unfold K2 a42 a2p a6M
 ext bb
theorem c0d{pre w post:List Nat}(hT:(pre++(w++post)).length≤450)(hw:∀x∈w,isF x=true)(hp:∀y r,post=y::r→isF y=false):T9 [row (pre++(w++post)),.int (pre.length:Nat)]=φ (.int ((pre.length+w.length:Nat):Int)):=by
 rw [AQ,AQ] at hT;have e:=a9p (lo:=48) (hi:=57) (post:=post) (λy r h z=>by have:=hp y r h;rw [b5n.mpr z] at this;cases this) (T:=pre++(w++post)) (by rw [AQ,AQ];lia) (q1:=φ (.int (pre.length:Nat))) w pre 500 rfl (λx hx=>b5n.mp (hw x hx)) (by lia)
 have s0:AD "0"=S [48]:=rfl;have s9:AD "9"=S [57]:=rfl;unfold T9 a40 a2p a6M
 ext bb
inductive Mo where
 |plain (rows:List (List Nat))|named (w:List Nat)|beside (ps:List Mo)|above (ps:List Mo)|across (k:Nat) (p:Mo)|down (k:Nat) (p:Mo)|turned (w:List Nat) (p:Mo)|dyed (a b:Nat) (p:Mo)
mutual
def A6:Mo→PV
 | .plain rows=>obV (AD "Plain") [(.str (AD "rows"),.tuple (rows.map row))]
 | .named w=>obV (AD "Named") [(.str (AD "name"),row w)]
 | .beside ps=>obV (AD "Beside") [(.str (AD "parts"),.tuple (b6S ps))]
 | .above ps=>obV (AD "Above") [(.str (AD "parts"),.tuple (b6S ps))]
 | .across k p=>obV (AD "Across") [(.str (AD "many"),.int (k:Nat)),(.str (AD "part"),A6 p)]
 | .down k p=>obV (AD "Down") [(.str (AD "many"),.int (k:Nat)),(.str (AD "part"),A6 p)]
 | .turned w p=>obV (AD "Turned") [(.str (AD "way"),row w),(.str (AD "part"),A6 p)]
 | .dyed a b p=>obV (AD "Dyed") [(.str (AD "one"),row [a]),(.str (AD "other"),row [b]),(.str (AD "part"),A6 p)]
def b6S:List Mo→List PV
 |[]=>[]
 |p::ps=>A6 p::b6S ps
end
theorem a37:∀ps:List Mo,b6S ps=ps.map A6
 |[]=>by rw [b6S];rfl
 |p::ps=>by rw [b6S,a37 ps];rfl
def C7:List Nat:=[98,101,115,105,100,101]
def L9:List Nat:=[97,98,111,118,101]
def D8:List Nat:=[97,99,114,111,115,115]
def Z0:List Nat:=[100,111,119,110]
def a7Y:List Nat:=[100,121,101]
def a3h:List (List Nat):=[[116,117,114,110],[104,97,108,102],[98,97,99,107],[115,105,100,101],[102,108,105,112],[99,114,111,115,115],[111,116,104,101,114]]
abbrev a0E:List (List Nat):=[[107],[115,116,97,121],[108,101,116],[107,110,111,116,115],[122,122]]
abbrev RF:=List PV→Υ g0
theorem c4l:a1A false (.v .none) (.v .none)=φ (.bool true):=ω
theorem b5o(i:Int):a1A false (.v (.int i)) (.v .none)=φ (.bool false):=ω
theorem a45(ps:List PV):a1A false (.v (.tuple ps)) (.v .none)=φ (.bool false):=ω
theorem O9:AD ", "=S [44,32]:=by decide+kernel
theorem a6u:AD ")"=S [41]:=by decide+kernel
theorem b2Q:AD "("=S [40]:=by decide+kernel
theorem b8t:AD "["=S [91]:=by decide+kernel
theorem b07:AD "]"=S [93]:=by decide+kernel
theorem c0I{b:MX}{inm:Str→Bool}{hd:MS}{ρ:b9}{f:Fl}(h:b ρ=ξ (.fl f)):b8E b inm hd ρ=ξ f:=by
 unfold b8E;rw [h]
 rfl
theorem c0e{pre a post:List Nat}{c:Nat}(ha:∀x∈a,x≠c):b5d (S (pre++(a++c::post))) (S [c]) (pre.length:Nat)=((pre.length+a.length:Nat):Int):=by
 have sp:=PySem.StrLaws.find3_spec (S (pre++(a++c::post))) c (pre.length:Nat);have f:fromIndex (S (pre++(a++c::post))).length (pre.length:Nat)=pre.length:=by
  unfold fromIndex;rw [if_neg (by lia)]
  lia
 have gd:∀v,(S (pre++(a++c::post))).cps.getD v 0=(pre++(a++c::post)).getD v 0:=λv=>by simp [S,Array.getD,List.getD_eq_getElem?_getD];split<;>simp_all
 rw [f,O0] at sp;simp only [gd] at sp;have show_:b5d (S (pre++(a++c::post))) (S [c]) (pre.length:Nat)=Txt.find3 (S (pre++(a++c::post))) ⟨#[c]⟩ (pre.length:Nat):=rfl;rw [show_];have inA:∀v,pre.length≤v→v<pre.length+a.length→(pre++(a++c::post)).getD v 0≠c:=λv h1 h2=>by
  rw [List.getD_eq_getElem?_getD,List.getElem?_append_right h1,BB (by lia),BF (by lia)]
  exact ha _ (List.getElem_mem (l:=a) (n:=v - pre.length) (by lia))
 have aty:(pre++(a++c::post)).getD (pre.length+a.length) 0=c:=by
  rw [List.getD_eq_getElem?_getD,List.getElem?_append_right (by lia),List.getElem?_append_right (by lia),show pre.length+a.length - pre.length - a.length=0 by lia]
  rfl
 rcases sp with⟨_,h⟩|⟨k,h1,h2,h3,h4,h5⟩
 ·exact absurd aty (h _ (by lia) (by simp))
 ·rw [h1];have hk1:¬k<pre.length+a.length:=λz=>inA k h2 z h4;have hk2:¬pre.length+a.length<k:=λz=>h5 _ (by lia) z aty
  have:k=pre.length+a.length:=by lia
  rw [this]
def dg(k:Nat):List Nat:=if k<10 then [48+k] else [48+k / 10,48+k % 10]
theorem b1U{k:Nat}(hk:k<25):a7Q (.v (.int (k:Nat)))=φ (row (dg k)):=by
 match k,hk with
 |0,_=>rfl
 |1,_=>rfl
 |2,_=>rfl
 |3,_=>rfl
 |4,_=>rfl
 |5,_=>rfl
 |6,_=>rfl
 |7,_=>rfl
 |8,_=>rfl
 |9,_=>rfl
 |10,_=>rfl
 |11,_=>rfl
 |12,_=>rfl
 |13,_=>rfl
 |14,_=>rfl
 |15,_=>rfl
 |16,_=>rfl
 |17,_=>rfl
 |18,_=>rfl
 |19,_=>rfl
 |20,_=>rfl
 |21,_=>rfl
 |22,_=>rfl
 |23,_=>rfl
 |24,_=>rfl
 |k+25,h=>lia
theorem b7K(k:Nat):1≤(dg k).length∧(dg k).length≤2:=by unfold dg;split<;>simp
mutual
def m5:Mo→List Nat
 | .plain rows=>[91]++m6 [47] rows++[93]
 | .named w=>w
 | .beside ps=>[98,101,115,105,100,101,40]++m6 [44,32] (a4r ps)++[41]
 | .above ps=>[97,98,111,118,101,40]++m6 [44,32] (a4r ps)++[41]
 | .across k p=>[97,99,114,111,115,115,40]++dg k++[44,32]++m5 p++[41]
 | .down k p=>[100,111,119,110,40]++dg k++[44,32]++m5 p++[41]
 | .turned w p=>w++[40]++m5 p++[41]
 | .dyed a b p=>[100,121,101,40]++[a]++[44,32]++[b]++[44,32]++m5 p++[41]
def a4r:List Mo→List (List Nat)
 |[]=>[]
 |p::ps=>m5 p::a4r ps
end
mutual
def B2:Mo→Nat
 | .plain _=>1
 | .named _=>1
 | .beside ps=>1+a5s ps
 | .above ps=>1+a5s ps
 | .across _ p=>1+B2 p
 | .down _ p=>1+B2 p
 | .turned _ p=>1+B2 p
 | .dyed _ _ p=>1+B2 p
def a5s:List Mo→Nat
 |[]=>0
 |p::ps=>max (B2 p) (a5s ps)
end
mutual
def G9:Mo→Prop
 | .plain rows=>a6l rows=true
 | .named w=>w∈a0E
 | .beside ps=>2≤ps.length∧ps.length≤6∧b1v ps
 | .above ps=>2≤ps.length∧ps.length≤6∧b1v ps
 | .across k p=>1≤k∧k≤24∧G9 p
 | .down k p=>1≤k∧k≤24∧G9 p
 | .turned w p=>w∈a3h∧G9 p
 | .dyed a b p=>lt1 a=true∧lt1 b=true∧G9 p
def b1v:List Mo→Prop
 |[]=>True
 |p::ps=>G9 p∧b1v ps
end
theorem K0:∀ps:List Mo,a4r ps=ps.map m5
 |[]=>by rw [a4r];rfl
 |p::ps=>by rw [a4r,K0 ps];rfl
theorem O4:∀{ps:List Mo} {p:Mo},b1v ps→p∈ps→G9 p
 |[],_,_,h=>by cases h
 |q::ps,p,h,hp=>by
  rw [b1v] at h;rcases Ah.mp hp with rfl|hp
  ·exact h.1
  ·exact O4 h.2 hp
theorem O1:∀{ps:List Mo} {p:Mo},p∈ps→B2 p≤a5s ps
 |[],_,h=>by cases h
 |q::ps,p,hp=>by
  rw [a5s];rcases Ah.mp hp with rfl|hp
  ·lia
  ·have:=O1 hp;lia
theorem a4A(m:Mo):1≤B2 m:=by cases m<;>rw [B2]<;>lia
theorem X9{sep:List Nat}:∀{ls:List (List Nat)} {l:List Nat},l∈ls→l.length≤(m6 sep ls).length
 |[],_,h=>by cases h
 |[x],l,h=>by rw [List.mem_singleton.mp h];simp [m6]
 |x::y::r,l,h=>by
  rcases Ah.mp h with rfl|h
  ·simp [m6]
  ·have:=X9 (sep:=sep) h;simp [m6];lia
theorem a6d{sep:List Nat}:∀{ls:List (List Nat)},(ls.map (·.length)).sum+ls.length*sep.length≤(m6 sep ls).length+sep.length
 |[]=>by simp [m6]
 |[x]=>by simp [m6]
 |x::y::r=>by
  have:=a6d (sep:=sep) (ls:=y::r);simp only [m6,AT,List.sum_cons,AO,AQ,Nat.add_mul,Nat.one_mul] at this ⊢
  lia
def a7x(f1 f2 f3 f4 f5 f6 f7 f8:RF):Mo→RF
 | .plain _=>f1
 | .named _=>f2
 | .beside _=>f3
 | .above _=>f4
 | .across _ _=>f5
 | .down _ _=>f6
 | .turned _ _=>f7
 | .dyed _ _ _=>f8
abbrev c4S(f1 f2 f3 f4 f5 f6 f7 f8:RF):List (Str×RF):=[(AD "Plain",f1),(AD "Named",f2),(AD "Beside",f3),(AD "Above",f4),(AD "Across",f5),(AD "Down",f6),(AD "Turned",f7),(AD "Dyed",f8)]
theorem b1t{f1 f2 f3 f4 f5 f6 f7 f8:RF}{mo:M}{ρ:b9}{m:Mo}{x:Str}(hx:x=AD "text"∨x=AD "deep"∨x=AD "inner")(h:mo ρ=φ (A6 m)):
 a1k (c4S f1 f2 f3 f4 f5 f6 f7 f8) x mo b8 ρ=a7x f1 f2 f3 f4 f5 f6 f7 f8 m [A6 m]:=by
 unfold a1k
 rw [h]
 cases m<;>rw [A6]<;>rcases hx with rfl|rfl|rfl<;>rfl
theorem c0i(R:List (List Nat)):D0 [AD "Plain"] (AD "rows") (.v (A6 (.plain R)))=φ (.tuple (R.map row)):=by rw [A6];rfl
theorem c0g(w:List Nat):D0 [AD "Named"] (AD "name") (.v (A6 (.named w)))=φ (row w):=by rw [A6];rfl
theorem b0m(ps:List Mo):D0 [AD "Beside",AD "Above"] (AD "parts") (.v (A6 (.beside ps)))=φ (.tuple (ps.map A6)):=by rw [A6,a37];rfl
theorem b0l(ps:List Mo):D0 [AD "Beside",AD "Above"] (AD "parts") (.v (A6 (.above ps)))=φ (.tuple (ps.map A6)):=by rw [A6,a37];rfl
theorem b7Z(k:Nat)(p:Mo):D0 [AD "Across",AD "Down"] (AD "many") (.v (A6 (.across k p)))=φ (.int (k:Nat)):=by rw [A6];rfl
theorem b7Y(k:Nat)(p:Mo):D0 [AD "Across",AD "Down"] (AD "many") (.v (A6 (.down k p)))=φ (.int (k:Nat)):=by rw [A6];rfl
theorem c2F(w:List Nat)(p:Mo):D0 [AD "Turned"] (AD "way") (.v (A6 (.turned w p)))=φ (row w):=by rw [A6];rfl
theorem c2E(a b:Nat)(p:Mo):D0 [AD "Dyed"] (AD "one") (.v (A6 (.dyed a b p)))=φ (row [a]):=by rw [A6];rfl
theorem b70(a b:Nat)(p:Mo):D0 [AD "Dyed"] (AD "other") (.v (A6 (.dyed a b p)))=φ (row [b]):=by rw [A6];rfl
abbrev c12:List Str:=[AD "Across",AD "Down",AD "Turned",AD "Dyed"]
theorem c0h{m p:Mo}(h:(∃k,m= .across k p)∨(∃k,m= .down k p)∨(∃w,m= .turned w p)∨∃a b,m= .dyed a b p):D0 c12 (AD "part") (.v (A6 m))=φ (A6 p):=by
 rcases h with⟨k,rfl⟩|⟨k,rfl⟩|⟨w,rfl⟩|⟨a,b,rfl⟩<;>rw [A6]<;>rfl
theorem b9V{l k:List Nat}(h:l.length+k.length≤10000):l8 (.v (row l)) (.v (row k))=φ (row (l++k)):=c2K (by lia)
theorem ad{x y:M}{ρ:b9}{a b:List Nat}(hx:x ρ=φ (row a))(hy:y ρ=φ (row b))(h:a.length+b.length≤10000):m2 l8 x y ρ=φ (row (a++b)):=by
 unfold m2;rw [hx,hy];exact b9V h
theorem T1{z:String}{l:List Nat}(h:AD z=S l)(ρ:b9):mC (.str (AD z)) ρ=φ (row l):=by
 unfold mC;rw [h]
theorem a9n{x:M}{ps:List PV}{p:PV}(h:x (ps.map λq=>φ q)=φ p):m8 0 (j4 x) ps=φ p:=by
 have e:x (ps.map (λq=>ξ (g0.v q))++AU 0 ζ)=φ p:=by
  rw [Ab,Al];exact h
 unfold m8 j4;rw [e]
 rfl
theorem b2w{tab:List Str}{f:Str}{v p:PV}{ρ:b9}(h:D0 tab f (.v v)=φ p):m1 (D0 tab f) (b0 0) (φ v::ρ)=φ p:=h
theorem G4{a b:List Nat}{n:Nat}(h:(a++b).length≤n):a.length+b.length≤n:=by rw [←AQ];exact h
theorem M3{a b:List Nat}{n:Nat}(h:(a++b).length≤n):a.length≤n:=by rw [AQ] at h;lia
theorem up{n:Nat}(h:n≤450):n≤10000:=by lia
theorem c4E{R:List (List Nat)}(h:a6l R=true)(hl:(m5 (.plain R)).length≤450):t5 [A6 (.plain R)]=φ (row (m5 (.plain R))):=by
 have h0:R≠[]:=by intro z;rw [z] at h;cases h
 rw [m5] at hl ⊢;have h2:=M3 hl;have sh:=b9x (R:=R) (by rw [AQ] at h2;lia) h0
 refine a9n (ad (ad (T1 b8t _) ?_ (up (G4 h2))) (T1 b07 _) (up (G4 hl)));show(a8 (m1 (D0 _ _) (b0 0)) b8 [φ (A6 (.plain R))]).bind U0=_;unfold a8;rw [b2w (c0i R)];exact sh
theorem c4u(w:List Nat):t4 [A6 (.named w)]=φ (row (m5 (.named w))):=by
 rw [m5];exact a9n (b2w (c0g w))
abbrev txt(n:Nat):Mo→RF:=a7x t5 t4 (a1f n) (a14 n) (a1e n) (a2R n) (a1g n) (a2S n)
section
variable {RAb RAc RBe RDo RDy RTu RWr:RF}
theorem c2b{ps:List Mo}(hp:ps.length≤6)(h:∀p∈ps,a7x t5 t4 RBe RAb RAc RDo RTu RDy p [A6 p]=φ (row (m5 p)))(hl:(m6 [44,32] (ps.map m5)).length≤450):
 m8 0 (a0O RAb RAc RBe RDo RDy RTu RWr) [.tuple (ps.map A6)]=φ (row (m6 [44,32] (ps.map m5))):=by
 have cm:=W2 (ι:=A6) (f:=λp=>row (m5 p)) (k:=1) (it:=A3 (b0 0)) (tg:=u8 1) (elt:=N4 RAb RAc RBe RDo RDy RTu RWr) (ρ:=[φ (.tuple (ps.map A6))]) ps rfl (by lia) λp hp=>by
  refine⟨[φ (.tuple (ps.map A6)),φ (A6 p)],rfl, ?_⟩;unfold N4;have:=b1t (f1:=t5) (f2:=t4) (f3:=RBe) (f4:=RAb) (f5:=RAc) (f6:=RDo) (f7:=RTu) (f8:=RDy) (mo:=b0 1) (ρ:=[φ (.tuple (ps.map A6)),φ (A6 p)]) (m:=p) (x:=AD "text") (.inl rfl) rfl;rw [this,h p hp]
  rfl
 have jn:=Z7 (sep:=[44,32]) (rows:=ps.map m5) (y:= .own (ps.map λp=>row (m5 p))) (by show ξ _=ξ _;rw [BC];rfl) (by have:=a6d (sep:=[44,32]) (ls:=ps.map m5);simp only [AO,AX] at this ⊢;lia)
 refine a9n ?_
 show m2 M5 (mC (.str (AD ", "))) (O3 1 (A3 (b0 0)) (u8 1) W3 _) _=_
 unfold m2
 rw [T1 O9,AM]
 show(O3 1 (A3 (b0 0)) (u8 1) W3 (N4 RAb RAc RBe RDo RDy RTu RWr) [φ (.tuple (ps.map A6))]).bind _=_
 rw [cm,AM]
 exact jn
theorem wr{ps:List Mo}{m:Mo}{tab:List Str}{f:Str}(fl:D0 tab f (.v (A6 m))=φ (.tuple (ps.map A6)))(h:RWr [.tuple (ps.map A6)]=φ (row (m6 [44,32] (ps.map m5)))):i7 RWr (a8 (m1 (D0 tab f) (b0 0)) b8) [φ (A6 m)]=φ (row (m6 [44,32] (ps.map m5))):=by
 unfold i7 a8;rw [b2w fl];exact h
theorem c36{ps:List Mo}(h:RWr [.tuple (ps.map A6)]=φ (row (m6 [44,32] (ps.map m5))))(hl:(m5 (.beside ps)).length≤450):m8 0 (a1U RAb RAc RBe RDo RDy RTu RWr) [A6 (.beside ps)]=φ (row (m5 (.beside ps))):=by
 rw [m5,K0] at hl ⊢;exact a9n (ad (ad (T1 (by decide+kernel) _) (wr (b0m ps) h) (up (G4 (M3 hl)))) (T1 a6u _) (up (G4 hl)))
theorem c32{ps:List Mo}(h:RWr [.tuple (ps.map A6)]=φ (row (m6 [44,32] (ps.map m5))))(hl:(m5 (.above ps)).length≤450):m8 0 (a2E RAb RAc RBe RDo RDy RTu RWr) [A6 (.above ps)]=φ (row (m5 (.above ps))):=by
 rw [m5,K0] at hl ⊢;exact a9n (ad (ad (T1 (by decide+kernel) _) (wr (b0l ps) h) (up (G4 (M3 hl)))) (T1 a6u _) (up (G4 hl)))
theorem b1L{m p:Mo}{ρ:b9}(hm:(∃k,m= .across k p)∨(∃k,m= .down k p)∨(∃w,m= .turned w p)∨∃a b,m= .dyed a b p)(h:a7x t5 t4 RBe RAb RAc RDo RTu RDy p [A6 p]=φ (row (m5 p))):
 a1k (c4S t5 t4 RBe RAb RAc RDo RTu RDy) (AD "text") (m1 (D0 c12 (AD "part")) (b0 0)) b8 (φ (A6 m)::ρ)=φ (row (m5 p)):=
 (b1t (m:=p) (.inl rfl) (c0h hm)).trans h
theorem c4L{k:Nat}(hk:k≤24){m:Mo}{tab:List Str}{f:Str}(fl:D0 tab f (.v (A6 m))=φ (.int (k:Nat))):m1 a7Q (m1 (D0 tab f) (b0 0)) [φ (A6 m)]=φ (row (dg k)):=by
 show(m1 (D0 tab f) (b0 0) [φ (A6 m)]).bind a7Q=_;rw [b2w fl];exact b1U (by lia)
theorem c33{k:Nat}{p:Mo}(hk:k≤24)(h:a7x t5 t4 RBe RAb RAc RDo RTu RDy p [A6 p]=φ (row (m5 p)))(hl:(m5 (.across k p)).length≤450):m8 0 (a1T RAb RAc RBe RDo RDy RTu RWr) [A6 (.across k p)]=φ (row (m5 (.across k p))):=by
 rw [m5] at hl ⊢;exact a9n (ad (ad (ad (ad (T1 (by decide+kernel) _) (c4L hk (b7Z k p)) (up (G4 (M3 (M3 (M3 hl)))))) (T1 O9 _) (up (G4 (M3 (M3 hl))))) (b1L (.inl ⟨k,rfl⟩) h) (up (G4 (M3 hl)))) (T1 a6u _) (up (G4 hl)))
theorem c4c{k:Nat}{p:Mo}(hk:k≤24)(h:a7x t5 t4 RBe RAb RAc RDo RTu RDy p [A6 p]=φ (row (m5 p)))(hl:(m5 (.down k p)).length≤450):m8 0 (a3u RAb RAc RBe RDo RDy RTu RWr) [A6 (.down k p)]=φ (row (m5 (.down k p))):=by
 rw [m5] at hl ⊢;exact a9n (ad (ad (ad (ad (T1 (by decide+kernel) _) (c4L hk (b7Y k p)) (up (G4 (M3 (M3 (M3 hl)))))) (T1 O9 _) (up (G4 (M3 (M3 hl))))) (b1L (.inr (.inl ⟨k,rfl⟩)) h) (up (G4 (M3 hl)))) (T1 a6u _) (up (G4 hl)))
theorem c4T{w:List Nat}{p:Mo}(h:a7x t5 t4 RBe RAb RAc RDo RTu RDy p [A6 p]=φ (row (m5 p)))(hl:(m5 (.turned w p)).length≤450):m8 0 (a1V RAb RAc RBe RDo RDy RTu RWr) [A6 (.turned w p)]=φ (row (m5 (.turned w p))):=by
 rw [m5] at hl ⊢;exact a9n (ad (ad (ad (b2w (c2F w p)) (T1 b2Q _) (up (G4 (M3 (M3 hl))))) (b1L (.inr (.inr (.inl ⟨w,rfl⟩))) h) (up (G4 (M3 hl)))) (T1 a6u _) (up (G4 hl)))
theorem c4d{a b:Nat}{p:Mo}(h:a7x t5 t4 RBe RAb RAc RDo RTu RDy p [A6 p]=φ (row (m5 p)))(hl:(m5 (.dyed a b p)).length≤450):m8 0 (a3v RAb RAc RBe RDo RDy RTu RWr) [A6 (.dyed a b p)]=φ (row (m5 (.dyed a b p))):=by
 ext ad
 have l4:=M3 l3;have l5:=M3 l4;exact a9n (ad (ad (ad (ad (ad (ad (T1 (by decide+kernel) _) (b2w (c2E a b p)) (up (G4 l5))) (T1 O9 _) (up (G4 l4))) (b2w (b70 a b p)) (up (G4 l3))) (T1 O9 _) (up (G4 l2))) (b1L (.inr (.inr (.inr ⟨a,b,rfl⟩))) h) (up (G4 l1))) (T1 a6u _) (up (G4 hl)))
end
theorem c1w:∀(n:Nat) (m:Mo),G9 m→2*B2 m≤n→(m5 m).length≤450→txt n m [A6 m]=φ (row (m5 m)):=by
 intro n
 induction n using Nat.strongRecOn with
 |ind n ih=>
  intro m ok hd hl;have hp:=a4A m;obtain⟨n,rfl⟩:∃k,n=k+2:=⟨n - 2,by lia⟩
  cases m with
  |plain R=>rw [G9] at ok;exact c4E ok hl
  |named w=>exact c4u w
  |beside ps=>
   ext m
   rw [B2] at hd;have hw:a0b (n+1) [.tuple (ps.map A6)]=φ (row (m6 [44,32] (ps.map m5))):=c2b ok.2.1 (λp hp=>ih n (by lia) p (O4 ok.2.2 hp) (by have:=O1 hp;lia) (by
    have:=X9 (sep:=[44,32]) (List.mem_map_of_mem (f:=m5) hp)
    ext a2
    lia)) (by
    ext a2
    lia)
   exact c36 hw hl
  |above ps=>
   ext m
   rw [B2] at hd;have hw:a0b (n+1) [.tuple (ps.map A6)]=φ (row (m6 [44,32] (ps.map m5))):=c2b ok.2.1 (λp hp=>ih n (by lia) p (O4 ok.2.2 hp) (by have:=O1 hp;lia) (by
    have:=X9 (sep:=[44,32]) (List.mem_map_of_mem (f:=m5) hp)
    ext a2
    lia)) (by
    ext a2
    lia)
   exact c32 hw hl
  |across k p=>
   ext m
   rw [B2] at hd;exact c33 ok.2.1 (ih (n+1) (by lia) p ok.2.2 (by lia) (by rw [m5] at hl;simp only [AQ,AO,AX] at hl;lia)) hl
  |down k p=>
   ext m
   rw [B2] at hd;exact c4c ok.2.1 (ih (n+1) (by lia) p ok.2.2 (by lia) (by rw [m5] at hl;simp only [AQ,AO,AX] at hl;lia)) hl
  |turned w p=>
   ext m
   rw [B2] at hd;exact c4T (ih (n+1) (by lia) p ok.2 (by lia) (by rw [m5] at hl;simp only [AQ,AO,AX] at hl;lia)) hl
  |dyed a b p=>
   ext m
   rw [B2] at hd;exact c4d (ih (n+1) (by lia) p ok.2.2 (by lia) (by rw [m5] at hl;simp only [AQ,AO,AX] at hl;lia)) hl
def b5S(post:List Nat):Prop:=post=[]∨(∃r,post=41::r)∨∃r,post=44::r
theorem b5S.lt{post:List Nat}(h:b5S post):∀y r,post=y::r→lt1 y=false:=λy r e=>by
 rcases h with h|⟨q,h⟩|⟨q,h⟩
 ·rw [h] at e;cases e
 ·rw [h] at e;cases e;rfl
 ·rw [h] at e;cases e;rfl
def isI(k:Nat):Υ g0→Bool
 |some (.v (.int n))=>n==(k:Int)
 |_=>false
theorem b8l{k:Nat}{o:Υ g0}(h:isI k o=true):o=φ (.int (k:Nat)):=by
 unfold isI at h;split at h
 ·rw [beq_iff_eq.mp h]
 ·cases h
def isT:Υ g0→Bool
 |some (.v (.bool b))=>b
 |_=>false
theorem c2T{o:Υ g0}(h:isT o=true):o=φ (.bool true):=by
 unfold isT at h;split at h
 ·rw [h]
 ·cases h
theorem c3b:(Aq 25).all (λk=>k==0||(isI k (L6 [row (dg k),.int 1,.int 24])&& isI k (b0r (.v (row (dg k))))&&(dg k).all isF))=true:=by decide+kernel
theorem b30{k:Nat}(h1:1≤k)(h2:k≤24):L6 [row (dg k),.int 1,.int 24]=φ (.int (k:Nat))∧b0r (.v (row (dg k)))=φ (.int (k:Nat))∧∀x∈dg k,isF x=true:=by
 have:=List.all_eq_true.mp c3b k (List.mem_range.mpr (by lia))
 simp only [Bool.or_eq_true,beq_iff_eq,χ,List.all_eq_true] at this;rcases this with h|h
 ·lia
 ·exact⟨b8l h.1.1,b8l h.1.2,h.2⟩
theorem c2D:(a0E.all λw=>isT (a02 [row w])&&(w.all lt1 && decide (w.length≤5∧w≠[])))=true:=by decide+kernel
theorem a1H{w:List Nat}(h:w∈a0E):a02 [row w]=φ (.bool true)∧(∀x∈w,lt1 x=true)∧w.length≤5∧w≠[]:=by
 have:=List.all_eq_true.mp c2D w h;simp only [χ,List.all_eq_true,decide_eq_true_eq] at this;exact⟨c2T this.1,this.2.1,this.2.2⟩
abbrev tv(m:Mo)(b:Nat):PV:= .tuple [A6 m,.int (b:Nat)]
def Rd(R:RF)(left:Int)(m:Mo):Prop:=∀T pre post,T=pre++(m5 m++post)→T.length≤450→b5S post→R [row T,.int (pre.length:Nat),.int left]=φ (tv m (pre.length+(m5 m).length))
def RdL(R:RF)(left:Int)(m:Mo):Prop:=∀T pre post,T=pre++(m5 m++41::post)→T.length≤450→R [row T,.int (pre.length:Nat),.int left]=φ (tv m (pre.length+(m5 m).length+1))
theorem b0T{T pre a s y:List Nat}(e:T=pre++(a++s))(hy:y.isPrefixOf s=true):G2 (.v (row T)) (.v (row y)) (.v (.int ((pre.length+a.length:Nat):Int)))=φ (.bool true):=by
 have:=a1t (pre:=pre++a) (s:=s) (y:=y);rw [List.append_assoc,←e,AQ,hy] at this;exact this
section
variable {RD RL RLa RM RMo RP RR RT:RF}{left:Int}{m:Mo}
theorem c0B(hm:Rd RMo left m):RdL (m8 1 (X1 RD RL RLa RM RMo RP RR RT)) left m:=λT pre post eT hT=>by
 have h:=hm T pre (41::post) eT hT (.inr (.inl ⟨_,rfl⟩));have st:=b0T (y:=[41]) eT rfl;have c:((pre.length+(m5 m).length:Nat):Int)+1=((pre.length+(m5 m).length+1:Nat):Int):=by lia
 unfold X1;rw [a6u];simp! [O2,E4,T4,t7,r9,k7,p8,j7,j0,j8,L8,l9,u0,B9,p0,A7,n8,u9,p7,E9,m9,o8,v7,C5,r6,w4,S4,A8,x6,S2,AM,An,AT,Ae,Ag,Ab,Ac,Aa,Ai,Aj,AO,AX,↓reduceIte,Bool.not_true,sz,Nat.reduceAdd,Az,h,a45,st,m3,c]
 try rfl
theorem b7b(hm:RdL RLa left m){w T pre post:List Nat}(eT:T=pre++(m5 m++41::post))(hT:T.length≤450):m8 1 (a1D RD RL RLa RM RMo RP RR RT) [row T,row w,.int (pre.length:Nat),.int left]=φ (tv (.turned w m) (pre.length+(m5 m).length+1)):=by
 have h:=hm T pre post eT hT;unfold a1D tv;rw [A6];simp! [E4,T4,t7,r9,k7,p8,j7,j0,j8,L8,l9,u0,B9,p0,A7,n8,u9,p7,E9,m9,o8,v7,r6,w4,AM,AT,Ae,Ag,Ab,Ac,Aa,Ai,Aj,AO,AX,↓reduceIte,sz,Nat.reduceAdd,Az,h,a45,a33]
 try rfl
theorem b7D{pre r:List Nat}{c:Nat}(hT:(pre++c::44::32::r).length≤450)(hc:lt1 c=true):L5 [row (pre++c::44::32::r),.int (pre.length:Nat)]=φ (.bool true):=by
 have le:=b1o (pre:=pre) (w:=[c]) (post:=44::32::r) hT (λx hx=>by rw [List.mem_singleton.mp hx];exact hc) (λy q e=>by cases e;rfl)
 have st:=b0T (T:=pre++c::44::32::r) (pre:=pre) (a:=[c]) (s:=44::32::r) (y:=[44,32]) rfl rfl;have le:K2 [row (pre++c::44::32::r),.int (pre.length:Nat)]=φ (.int ((pre.length+1:Nat):Int)):=le;have st:G2 (.v (row (pre++c::44::32::r))) (.v (row [44,32])) (.v (.int ((pre.length+1:Nat):Int)))=φ (.bool true):=st;have hcast:((pre.length:Nat):Int)+1=((pre.length+1:Nat):Int):=by lia
 have ee:B7 (.v (.int ((pre.length+1:Nat):Int))) (.v (.int ((pre.length+1:Nat):Int)))=φ (.bool true):=a2o rfl;unfold L5 a3w;rw [O9];generalize row (pre++c::44::32::r)=X at*;simp! [O2,t7,r9,k7,p8,j7,j0,j8,l9,p0,A7,o8,v7,b8y,c2l,AM,AT,Ae,Ab,Al,le,hcast,ee,st,m3]
 try rfl
theorem b94(hm:RdL RLa left m){a b:Nat}{T pre post:List Nat}(eT:T=pre++a::44::32::b::44::32::(m5 m++41::post))(hT:T.length≤450)(la:lt1 a=true)(lb:lt1 b=true):m8 1 (a4w RD RL RLa RM RMo RP RR RT) [row T,.int (pre.length:Nat),.int left]=φ (tv (.dyed a b m) (pre.length+6+(m5 m).length+1)):=by
 have c1:=b7D (pre:=pre) (r:=b::44::32::(m5 m++41::post)) (by rw [←eT];exact hT) la
 have e3:(pre++[a,44,32])++b::44::32::(m5 m++41::post)=T:=by rw [eT,List.append_assoc];rfl
 have c3:=b7D (pre:=pre++[a,44,32]) (r:=m5 m++41::post) (by rw [e3];exact hT) lb
 rw [←eT] at c1;rw [e3,AQ] at c3;have c3:L5 [row T,.int ((pre.length+3:Nat):Int)]=φ (.bool true):=c3;have k3:((pre.length:Nat):Int)+3=((pre.length+3:Nat):Int):=by lia
 have k6:((pre.length:Nat):Int)+6=((pre.length+6:Nat):Int):=by lia
 have xa:o9 (.v (row T)) (.v (.int (pre.length:Nat)))=φ (row [a]):=by rw [eT];exact a78 (by rw [←eT];lia)
 have xb:o9 (.v (row T)) (.v (.int ((pre.length+3:Nat):Int)))=φ (row [b]):=by
  have:=a78 (pre:=pre++[a,44,32]) (x:=b) (r:=44::32::(m5 m++41::post)) (by rw [e3];lia)
  rw [e3,AQ] at this;exact this
 have h:=hm T (pre++[a,44,32,b,44,32]) post (by rw [eT,List.append_assoc];rfl) hT
 rw [AQ] at h;have h:RLa [row T,.int ((pre.length+6:Nat):Int),.int left]=φ (tv m (pre.length+6+(m5 m).length+1)):=h;unfold a4w tv;rw [A6];generalize row T=X at*;simp! [O2,E4,T4,t7,r9,k7,p8,j7,j0,j8,L8,l9,u0,B9,p0,A7,n8,u9,p7,E9,m9,o8,v7,C5,r6,w4,S4,A8,x6,S2,AM,An,AT,Ae,Ag,Ab,Ac,Aa,Ai,Aj,AO,AX,↓reduceIte,Bool.not_true,sz,Nat.reduceAdd,Az,c1,c3,k3,k6,h,a45,xa,xb,a33]
 try rfl
theorem b9E{k:Nat}(h1:1≤k)(h2:k≤24){T pre r:List Nat}(eT:T=pre++(dg k++44::32::r))(hT:T.length≤450):a1K [row T,.int (pre.length:Nat)]=φ (.int ((pre.length+(dg k).length:Nat):Int)):=by
 obtain⟨d1,_,d2⟩:=b30 h1 h2;have fe:=c0d (pre:=pre) (w:=dg k) (post:=44::32::r) (by rw [←eT];exact hT) d2 (λy q e=>by cases e;rfl)
 have sl:=a9w (pre:=pre) (ds:=dg k) (post:=44::32::r) (by rw [←eT];lia)
 have st:=b0T (y:=[44,32]) eT rfl;rw [←eT] at fe sl;have c24:N9= .int 24:=rfl;unfold a1K a7o;rw [c24,O9];generalize row T=X at*;simp! [t7,r9,k7,p8,j7,j0,j8,l9,u0,B9,n8,u9,p7,E9,m9,o8,v7,C5,r6,w4,S4,A8,x6,S2,AM,An,AT,Ae,Ag,Ab,Ac,Aa,Ai,Aj,Bool.not_true,G1,Q3,a1L,a74,a75,fe,sl,d1,b5o,st,m3]
 try rfl
theorem b9q(hm:RdL RLa left m){k:Nat}(h1:1≤k)(h2:k≤24){T pre post:List Nat}(eT:T=pre++(dg k++44::32::(m5 m++41::post)))(hT:T.length≤450)(b:Bool):m8 3 (a0k RD RL RLa RM RMo RP RR RT) [row T,row (if b=true then D8 else Z0),.int (pre.length:Nat),.int left]=φ (tv (if b=true then .across k m else .down k m) (pre.length+(dg k).length+2+(m5 m).length+1)):=by
 have te:=b9E h1 h2 eT hT;obtain⟨_,it,_⟩:=b30 h1 h2;have sl:=a9w (pre:=pre) (ds:=dg k) (post:=44::32::(m5 m++41::post)) (by rw [←eT];lia)
 have h:=hm T (pre++(dg k++[44,32])) post (by rw [eT];simp) hT
 have hlen:(pre++(dg k++[44,32])).length=pre.length+(dg k).length+2:=by simp;lia
 rw [hlen] at h;rw [←eT] at sl;have kd:((pre.length+(dg k).length:Nat):Int)+2=((pre.length+(dg k).length+2:Nat):Int):=by lia
 have s1:AD "across"=S D8:=by decide+kernel
 have ew:B7 (.v (row (if b=true then D8 else Z0))) (.v (row D8))=φ (.bool b):=by cases b<;>rfl
 unfold a0k tv;rw [s1];generalize row T=X at*;cases b with
 |true=>
  rw [if_pos rfl,if_pos rfl,A6];rw [if_pos rfl] at ew;simp! [O2,E4,T4,t7,D3,r9,k7,p8,j7,j0,j8,L8,l9,u0,B9,p0,A7,n8,u9,K8,p7,a0T,E9,m9,o8,v7,r6,w4,AM,AT,Ae,Ag,Ab,Ac,Aa,Ai,Aj,AO,AX,↓reduceIte,G1,Q3,a1L,sz,Nat.reduceAdd,Az,te,b5o,kd,h,a45,sl,it,ew,a33]
  try rfl
 |false=>
  rw [if_neg Ao,if_neg Ao,A6];rw [if_neg Ao] at ew;simp! [O2,E4,T4,t7,D3,r9,k7,p8,j7,j0,j8,L8,l9,u0,B9,p0,A7,n8,u9,p7,E9,m9,o8,v7,r6,w4,AM,AT,Ae,Ag,Ab,Ac,Aa,Ai,Aj,AO,AX,↓reduceIte,G1,Q3,a1L,sz,Nat.reduceAdd,Az,te,b5o,kd,h,a45,sl,it,ew,a33]
  try rfl
theorem a9e{T post:List Nat}(hT:T.length≤450):∀(ps:List Mo) (fuel:Nat) (pre:List Nat) (acc:List PV) (q:Υ g0),ps≠[]→(∀p∈ps,Rd RMo left p)→T=pre++(m6 [44,32] (ps.map m5)++41::post)→ps.length≤fuel→acc.length+ps.length≤1000→
 V4 (V2 (mC (.bool true))) (K3 RD RL RLa RM RMo RP RR RT) fuel [φ (row T),φ (.int (pre.length:Nat)),φ (.int left),ξ (.own acc),q]=ξ (.rt (.v (.tuple [.tuple (acc++ps.map A6),.int ((pre.length+(m6 [44,32] (ps.map m5)).length:Nat):Int)])))
 |[],_,_,_,_,h,_,_,_,_=>absurd rfl h
 |_::_,0,_,_,_,_,_,_,h,_=>by simp at h
 |p::ps,fuel+1,pre,acc,q,_,hm,eT,hf,ha=>by
  rw [AO] at hf ha;have ap:=a31 (i:=3) (m:=m2 o9 (b0 4) (mC (.int 0))) (ρ:=[φ (row T),φ (.int (pre.length:Nat)),φ (.int left),ξ (.own acc),φ (tv p (pre.length+(m5 p).length))]) (r:= .v (A6 p)) (p:=A6 p) (ps:=acc) (by simp! [E4,t7,r9,k7,p8,AM]) rfl rfl (by lia)
  have ap:U5 3 (m2 o9 (b0 4) (mC (.int 0))) [φ (row T),φ (.int (pre.length:Nat)),φ (.int left),ξ (.own acc),φ (tv p (pre.length+(m5 p).length))]=ξ (.nx [φ (row T),φ (.int (pre.length:Nat)),φ (.int left),ξ (.own (acc++[A6 p])),φ (tv p (pre.length+(m5 p).length))]):=ap;have gt:a3Q (.bor (acc++[A6 p]))=φ (.tuple (acc++[A6 p])):=rfl;rw [V4];show((K3 RD RL RLa RM RMo RP RR RT [φ (row T),φ (.int (pre.length:Nat)),φ (.int left),ξ (.own acc),q]).bind _)=_;cases ps with
  |nil=>
   have eT:T=pre++(m5 p++41::post):=eT;have h:=hm p AZ T pre (41::post) eT hT (.inr (.inl ⟨_,rfl⟩));have st:G2 (.v (row T)) (.v (row [44,32])) (.v (.int ((pre.length+(m5 p).length:Nat):Int)))=φ (.bool false):=by
    have:=a1t (pre:=pre++m5 p) (s:=41::post) (y:=[44,32]);rw [List.append_assoc,←eT,AQ] at this;exact this
   have b:K3 RD RL RLa RM RMo RP RR RT [φ (row T),φ (.int (pre.length:Nat)),φ (.int left),ξ (.own acc),q]=ξ (.rt (.v (.tuple [.tuple (acc++[A6 p]),.int ((pre.length+(m5 p).length:Nat):Int)]))):=by
    unfold K3;rw [O9];simp! [T4,t7,D3,r9,k7,b5C,p8,j7,j0,j8,L8,l9,u0,B9,p0,A7,n8,u9,K8,p7,a0T,E9,m9,C5,r6,w4,S4,A8,AM,An,Ai,Aj,AO,AX,↓reduceIte,Bool.not_false,sz,Nat.reduceAdd,Az,h,a45,ap,st,m3,gt]
    try rfl
   rw [b]
   rfl
  |cons p' ps=>
   have eT2:T=pre++(m5 p++44::32::(m6 [44,32] ((p'::ps).map m5)++41::post)):=by
    rw [eT];show pre++(m5 p++[44,32]++m6 [44,32] (m5 p'::ps.map m5)++41::post)=_;simp
   have h:=hm p AZ T pre _ eT2 hT (.inr (.inr ⟨_,rfl⟩));have st:=b0T (y:=[44,32]) eT2 rfl;have c:((pre.length+(m5 p).length:Nat):Int)+2=((pre.length+(m5 p).length+2:Nat):Int):=by lia
   have b:K3 RD RL RLa RM RMo RP RR RT [φ (row T),φ (.int (pre.length:Nat)),φ (.int left),ξ (.own acc),q]=ξ (.nx [φ (row T),φ (.int ((pre.length+(m5 p).length+2:Nat):Int)),φ (.int left),ξ (.own (acc++[A6 p])),φ (tv p (pre.length+(m5 p).length))]):=by
    unfold K3;rw [O9];simp! [O2,T4,t7,r9,k7,p8,j7,j0,j8,l9,u0,B9,n8,u9,p7,E9,m9,C5,r6,w4,S4,A8,AM,An,Ai,Aj,Bool.not_true,h,a45,ap,st,m3,c]
    try rfl
   have ih:=a9e (post:=post) hT (p'::ps) fuel (pre++(m5 p++[44,32])) (acc++[A6 p]) (φ (tv p (pre.length+(m5 p).length))) (by simp) (λx hx=>hm x (Af _ hx)) (by rw [eT2];simp) (by lia) (by simp at ha ⊢;lia)
   have l1:(pre++(m5 p++[44,32])).length=pre.length+(m5 p).length+2:=by simp;lia
   rw [l1] at ih;have gg:m6 [44,32] ((p::p'::ps).map m5)=m5 p++44::32::m6 [44,32] ((p'::ps).map m5):=by
    show m5 p++[44,32]++m6 [44,32] (m5 p'::ps.map m5)=_;simp
   rw [b];show V4 _ _ fuel _=_;rw [ih,gg,List.append_assoc,AQ,AO,AO,show pre.length+(m5 p).length+2+(m6 [44,32] ((p'::ps).map m5)).length=pre.length+((m5 p).length+((m6 [44,32] ((p'::ps).map m5)).length+1+1)) by lia]
   rfl
theorem b5t{RP':RF}{ps:List Mo}(h2:2≤ps.length)(h6:ps.length≤6)(hm:∀p∈ps,Rd RMo left p)(hP:RP=m8 2 (a2F RD RL RLa RM RMo RP' RR RT)){T pre post:List Nat}(eT:T=pre++(m6 [44,32] (ps.map m5)++41::post))(hT:T.length≤450)(b:Bool):m8 1 (a4x RD RL RLa RM RMo RP RR RT) [row T,row (if b=true then C7 else L9),.int (pre.length:Nat),.int left]=φ (tv (if b=true then .beside ps else .above ps) (pre.length+(m6 [44,32] (ps.map m5)).length+1)):=by
 have h:RP [row T,.int (pre.length:Nat),.int left]=φ (.tuple [.tuple (ps.map A6),.int ((pre.length+(m6 [44,32] (ps.map m5)).length:Nat):Int)]):=by
  have:=a9e (RD:=RD) (RL:=RL) (RLa:=RLa) (RM:=RM) (RP:=RP') (RR:=RR) (RT:=RT) hT ps 500 pre [] ζ (by intro z;rw [z] at h2;simp at h2) hm eT (by lia) (by simp;lia)
  rw [Aa] at this;rw [hP];unfold a2F;simp! [j7,b2S,u0,b3R,n8,u9,o8,v7,AM,AT,Ae,Ag,Ab,Ac,Aa,Ai,Aj,AX,↓reduceIte,sz,Az,this]
  try rfl
 have st:=b0T (y:=[41]) eT rfl;have gl:x8 (.v (.tuple (ps.map A6)))=φ (.int (ps.length:Nat)):=by rw [b2D,AY]
 have c:((pre.length+(m6 [44,32] (ps.map m5)).length:Nat):Int)+1=((pre.length+(m6 [44,32] (ps.map m5)).length+1:Nat):Int):=by lia
 ext aq
 have v6:Y6= .int 6:=rfl;have ew:B7 (.v (row (if b=true then C7 else L9))) (.v (row C7))=φ (.bool b):=by cases b<;>rfl
 have d1:decide ((2:Int)≤(ps.length:Nat))=true:=decide_eq_true (by lia)
 have d2:decide (((ps.length:Nat):Int)≤6)=true:=decide_eq_true (by lia)
 unfold a4x tv;rw [s1,a6u,v6];generalize row T=X at*;cases b with
 |true=>
  rw [if_pos rfl,if_pos rfl,A6,a37];rw [if_pos rfl] at ew;simp! [O2,b1i,K4,a8v,E4,T4,t7,D3,r9,k7,p8,j7,j0,j8,L8,l9,u0,B9,p0,A7,n8,u9,K8,p7,a0T,E9,m9,o8,v7,C5,r6,w4,S4,A8,x6,S2,AM,An,AT,Ae,Ag,Ab,Ac,Aa,Ai,Aj,AO,AX,↓reduceIte,Bool.not_true,sz,Nat.reduceAdd,Az,h,a45,st,m3,gl,d1,d2,K4,ew,a33,c]
  try rfl
 |false=>
  rw [if_neg Ao,if_neg Ao,A6,a37];rw [if_neg Ao] at ew;simp! [O2,b1i,K4,a8v,E4,T4,t7,D3,r9,k7,p8,j7,j0,j8,L8,l9,u0,B9,p0,A7,n8,u9,p7,E9,m9,o8,v7,C5,r6,w4,S4,A8,x6,S2,AM,An,AT,Ae,Ag,Ab,Ac,Aa,Ai,Aj,AO,AX,↓reduceIte,Bool.not_true,sz,Nat.reduceAdd,Az,h,a45,st,m3,gl,d1,d2,K4,ew,a33,c]
  try rfl
end
theorem c3A{R:List (List Nat)}(ok:a6l R=true){T pre post:List Nat}(eT:T=pre++((91::m6 [47] R)++93::post))(hT:T.length≤450):a2Q [row T,.int (pre.length:Nat)]=φ (tv (.plain R) (pre.length+(m6 [47] R).length+2)):=by
 have hr:=a6m ok;have ha:=b2F (p:=λx=>x≠93) (c:=47) (by lia) (R:=R) λr h1 x h2=>by have:=a6j.mp (hr r h1 x h2);lia
 have fi:=c0e (pre:=pre) (a:=91::m6 [47] R) (post:=post) (c:=93) (λx hx=>(Ah.mp hx).elim (λe=>by lia) (ha x))
 rw [←eT] at fi;have gf:b0q (.v (row T)) (.v (row [93])) (.v (.int (pre.length:Nat)))=φ (.int (b5d (S T) (S [93]) (pre.length:Nat))):=rfl;rw [fi,AO] at gf;have eT2:T=(pre++[91])++(m6 [47] R++93::post):=by rw [eT];simp
 have lT:=congrArg List.length eT2;simp only [AQ,AO,AX] at lT;have sl:=a9w (pre:=pre++[91]) (ds:=m6 [47] R) (post:=93::post) (by rw [←eT2];lia)
 rw [←eT2,AQ,List.length_singleton] at sl;have re:=b9p ok (by lia)
 unfold tv;rw [A6];generalize (m6 [47] R).length=n at*;have c2:((pre.length+(n+1):Nat):Int)=((pre.length+1+n:Nat):Int):=by lia
 rw [c2] at gf;have lt0:decide (((pre.length+1+n:Nat):Int)<0)=false:=decide_eq_false (by lia)
 have c1:((pre.length:Nat):Int)+1=((pre.length+1:Nat):Int):=by lia
 have c3:((pre.length+1+n:Nat):Int)+1=((pre.length+n+2:Nat):Int):=by lia
 have asg:b0B 3 X8 (a8 (E3 (b0 0) (C0 (m2 l8 (b0 1) (mC (.int 1)))) (C0 (b0 2))) b8) [φ (row T),φ (.int (pre.length:Nat)),φ (.int ((pre.length+1+n:Nat):Int)),ζ]=ξ (.fl (.nx [φ (row T),φ (.int (pre.length:Nat)),φ (.int ((pre.length+1+n:Nat):Int)),φ (.tuple (R.map row))])):=by
  refine(c0O (ps:=[row (m6 [47] R)]) (p:= .tuple (R.map row)) ?_ re).trans rfl;simp! [O2,t7,r9,k7,p8,j7,j0,j8,AM,G1,Q3,a1L,sl,c1]
 have tr:=c0I (inm:=inL [AD "NoCloth"]) (hd:=j4 (mC .none)) asg;unfold a2Q a8s;rw [b07];simp! [O2,a8H,t7,r9,k7,p8,j7,j0,j8,L8,u0,B9,p0,A7,n8,u9,p7,E9,m9,o8,v7,r6,w4,AM,AT,Ae,Ag,Ab,Ac,Aa,Ai,Aj,AO,AX,↓reduceIte,sz,Nat.reduceAdd,Az,gf,m3,lt0,tr,a33,c3]
 try rfl
def isB(b:Bool):Υ g0→Bool
 |some (.v (.bool c))=>c==b
 |_=>false
theorem b4f{b:Bool}{o:Υ g0}(h:isB b o=true):o=φ (.bool b):=by
 unfold isB at h;split at h
 ·rw [beq_iff_eq.mp h]
 ·cases h
theorem c3Q:(a3h.all λw=>(isB true (a7P false (.v (row w)) (.v a0g))&&(w.all lt1 && decide (w≠[])))&&([C7,L9,D8,Z0].all λv=>isB false (B7 (.v (row w)) (.v (row v)))))=true:=by decide+kernel
theorem b9G{w:List Nat}(h:w∈a3h):a7P false (.v (row w)) (.v a0g)=φ (.bool true)∧(∀x∈w,lt1 x=true)∧w≠[]∧∀v∈[C7,L9,D8,Z0],B7 (.v (row w)) (.v (row v))=φ (.bool false):=by
 have:=List.all_eq_true.mp c3Q w h;simp only [χ,List.all_eq_true,decide_eq_true_eq] at this;exact⟨b4f this.1.1,this.1.2.1,this.1.2.2,λv hv=>b4f (this.2 v hv)⟩
theorem c2r:a7P false (.v (row a7Y)) (.v a0g)=φ (.bool false):=b4f (by decide+kernel)
section
variable {RD RL RLa RM RMo RP RR RT:RF}{X p q v:PV}
theorem b8G{w:List Nat}(hw:w=C7∨w=L9)(h:RL [X,row w,p,q]=φ v):m8 0 (t6 RD RL RLa RM RMo RP RR RT) [X,row w,p,q]=φ v:=by
 ext aq
 have s2:AD "above"=S L9:=by decide+kernel
 unfold t6;rw [s1,s2];have q1:=a1I w C7;have q2:=a1I w L9;rcases hw with rfl|rfl
 ·have q1:B7 (.v (row C7)) (.v (row C7))=φ (.bool true):=q1;simp! [t7,r9,k7,p8,j7,j0,j8,l9,p0,A7,n8,K8,p7,a0T,o8,v7,r6,w4,x6,b3e,AM,AT,Ae,Ab,Al,q1,h]
  try rfl
 ·have q1:B7 (.v (row L9)) (.v (row C7))=φ (.bool false):=q1;have q2:B7 (.v (row L9)) (.v (row L9))=φ (.bool true):=q2;simp! [t7,r9,k7,p8,j7,j0,j8,l9,p0,A7,n8,K8,p7,a0T,o8,v7,r6,w4,x6,S2,AM,AT,Ae,Ab,Al,q1,q2,h]
  try rfl
theorem b8H{w:List Nat}(hw:w=D8∨w=Z0)(h:RR [X,row w,p,q]=φ v):m8 0 (t6 RD RL RLa RM RMo RP RR RT) [X,row w,p,q]=φ v:=by
 ext aq
 have s2:AD "above"=S L9:=by decide+kernel
 have s3:AD "across"=S D8:=by decide+kernel
 have s4:AD "down"=S Z0:=by decide+kernel
 unfold t6;rw [s1,s2,s3,s4];have q1:B7 (.v (row w)) (.v (row C7))=φ (.bool false):=by rcases hw with rfl|rfl<;>rfl
 have q2:B7 (.v (row w)) (.v (row L9))=φ (.bool false):=by rcases hw with rfl|rfl<;>rfl
 have q3:=a1I w D8;have q4:=a1I w Z0;rcases hw with rfl|rfl
 ·have q3:B7 (.v (row D8)) (.v (row D8))=φ (.bool true):=q3;simp! [t7,r9,k7,p8,j7,j0,j8,l9,p0,A7,n8,u9,K8,p7,a0T,E9,m9,o8,v7,r6,w4,x6,b3e,S2,AM,AT,Ae,Ab,Al,q1,q2,q3,h]
  try rfl
 ·have q3:B7 (.v (row Z0)) (.v (row D8))=φ (.bool false):=q3;have q4:B7 (.v (row Z0)) (.v (row Z0))=φ (.bool true):=q4;simp! [t7,r9,k7,p8,j7,j0,j8,l9,p0,A7,n8,u9,K8,p7,a0T,E9,m9,o8,v7,r6,w4,x6,S2,AM,AT,Ae,Ab,Al,q1,q2,q3,q4,h]
  try rfl
theorem c27{w:List Nat}(hw:w∈a3h)(h:RT [X,row w,p,q]=φ v):m8 0 (t6 RD RL RLa RM RMo RP RR RT) [X,row w,p,q]=φ v:=by
 ext aq
 have s2:AD "above"=S L9:=by decide+kernel
 have s3:AD "across"=S D8:=by decide+kernel
 have s4:AD "down"=S Z0:=by decide+kernel
 obtain⟨t,_,_,f⟩:=b9G hw;have q1:=f C7 (by simp)
 have q2:=f L9 (by simp)
 have q3:=f D8 (by simp)
 have q4:=f Z0 (by simp)
 unfold t6;rw [s1,s2,s3,s4];simp! [t7,r9,k7,p8,j7,j0,j8,l9,p0,A7,n8,u9,K8,p7,a0T,E9,m9,o8,v7,r6,w4,x6,S2,AM,AT,Ae,Ab,Al,q1,q2,q3,q4,t,h]
 try rfl
theorem c26(h:RD [X,p,q]=φ v):m8 0 (t6 RD RL RLa RM RMo RP RR RT) [X,row a7Y,p,q]=φ v:=by
 ext aq
 have s2:AD "above"=S L9:=by decide+kernel
 have s3:AD "across"=S D8:=by decide+kernel
 have s4:AD "down"=S Z0:=by decide+kernel
 have s5:AD "dye"=S a7Y:=by decide+kernel
 have t:=c2r;have q1:B7 (.v (row a7Y)) (.v (row C7))=φ (.bool false):=by rfl
 have q2:B7 (.v (row a7Y)) (.v (row L9))=φ (.bool false):=by rfl
 have q3:B7 (.v (row a7Y)) (.v (row D8))=φ (.bool false):=by rfl
 have q4:B7 (.v (row a7Y)) (.v (row Z0))=φ (.bool false):=by rfl
 have q5:B7 (.v (row a7Y)) (.v (row a7Y))=φ (.bool true):=by rfl
 unfold t6;rw [s1,s2,s3,s4,s5];simp! [t7,r9,k7,p8,j7,j0,j8,l9,p0,A7,n8,u9,K8,p7,a0T,E9,m9,o8,v7,r6,w4,x6,S2,AM,AT,Ae,Ab,Al,q1,q2,q3,q4,t,q5,h]
 try rfl
theorem b8L(n:Nat):B7 (.v (.int ((n+1:Nat):Int))) (.v (.int 0))=φ (.bool false):=by
 rw [b0p];have:(((n+1:Nat):Int)==0)=false:=by rw [beq_eq_false_iff_ne];lia
 rw [this]
theorem c4K{T pre w s:List Nat}{c:Nat}(eT:T=pre++(w++s))(h0:w≠[])(hw:∀x∈w,lt1 x=true)(hc:lt1 c=false):G2 (.v (row T)) (.v (row [c])) (.v (.int (pre.length:Nat)))=φ (.bool false):=by
 have st:=a1t (pre:=pre) (s:=w++s) (y:=[c]);rw [←eT] at st;cases w with
 |nil=>exact absurd rfl h0
 |cons x w=>
  have:([c].isPrefixOf (x::w++s))=false:=by
   have:=hw x AZ;simp only [Ac,List.isPrefixOf,Bool.and_true];rw [beq_eq_false_iff_ne];intro z;rw [z,this] at hc;cases hc
  rw [this] at st;exact st
theorem b4v{n:Nat}{T pre w rest:List Nat}(h0:w≠[])(hw:∀x∈w,lt1 x=true)(eT:T=pre++(w++40::rest))(hT:T.length≤450)(hM:RM [row T,row w,.int ((pre.length+w.length+1:Nat):Int),.int (n:Nat)]=φ v):m8 2 (N3 RD RL RLa RM RMo RP RR RT) [row T,.int (pre.length:Nat),.int ((n+1:Nat):Int)]=φ v:=by
 have st:=c4K (c:=91) eT h0 hw rfl;have le:=b1o (pre:=pre) (w:=w) (post:=40::rest) (by rw [←eT];exact hT) hw (λy r e=>by cases e;rfl)
 have sl:=a9w (pre:=pre) (ds:=w) (post:=40::rest) (by rw [←eT];lia)
 have st2:=b0T (y:=[40]) eT rfl;rw [←eT] at le sl;have n0:=b8L n;have k1:((n+1:Nat):Int) - 1=(n:Nat):=by lia
 have c1:((pre.length+w.length:Nat):Int)+1=((pre.length+w.length+1:Nat):Int):=by lia
 ext a7
 unfold N3;rw [b2Q,b8t];generalize row T=X at*;simp! [O2,a12,t7,r9,k7,p8,j7,j0,j8,l9,u0,B9,p0,A7,n8,u9,K8,p7,a0T,E9,m9,o8,v7,C5,r6,w4,S4,AM,AT,Ae,Ag,Ab,Ac,Aa,Ai,Aj,G1,Q3,a1L,n0,st,m3,le,sl,st2,fz,c1,k1,hM]
 try rfl
theorem b4u{n:Nat}{T pre w post:List Nat}(hw:w∈a0E)(eT:T=pre++(w++post))(hT:T.length≤450)(hp:b5S post):m8 2 (N3 RD RL RLa RM RMo RP RR RT) [row T,.int (pre.length:Nat),.int ((n+1:Nat):Int)]=φ (tv (.named w) (pre.length+w.length)):=by
 obtain⟨ne,lt,_,h0⟩:=a1H hw;have st:=c4K (c:=91) eT h0 lt rfl;have le:=b1o (pre:=pre) (w:=w) (post:=post) (by rw [←eT];exact hT) lt hp.lt
 have sl:=a9w (pre:=pre) (ds:=w) (post:=post) (by rw [←eT];lia)
 have st2:G2 (.v (row T)) (.v (row [40])) (.v (.int ((pre.length+w.length:Nat):Int)))=φ (.bool false):=by
  have:=a1t (pre:=pre++w) (s:=post) (y:=[40]);rw [List.append_assoc,←eT,AQ] at this;rw [this];rcases hp with h|⟨q,h⟩|⟨q,h⟩<;>rw [h]<;>rfl
 rw [←eT] at le sl;have n0:=b8L n
 ext a7
 unfold N3 tv;rw [b2Q,b8t,A6];generalize row T=X at*;simp! [t7,r9,k7,p8,j7,j0,j8,L8,l9,u0,B9,p0,A7,n8,u9,K8,p7,a0T,E9,m9,o8,v7,C5,r6,w4,S4,AM,AT,Ae,Ag,Ab,Ac,Aa,Ai,Aj,AO,AX,↓reduceIte,G1,Q3,a1L,sz,Nat.reduceAdd,Az,n0,st,m3,le,sl,st2,fz,ne,a33]
 try rfl
end
theorem b8e(n:Nat):M7 (n+1)=m8 2 (N3 (a1h n) (a1i n) (G8 n) (C2 n) (M7 n) (a0I n) (Q1 n) (Y1 n)):=rfl
theorem c0u(n:Nat):C2 (n+1)=m8 0 (t6 (a1h n) (a1i n) (G8 n) (C2 n) (M7 n) (a0I n) (Q1 n) (Y1 n)):=rfl
theorem b8J:∀(k:Nat) (m:Mo),G9 m→B2 m≤k→∀n,4*k≤n→Rd (M7 n) (k:Nat) m
 |0,m,_,h,_,_=>by
  have:=a4A m
  lia
 |k+1,m,ok,hd,n,hn=>λT pre post eT hT hp=>by
  obtain⟨n,rfl⟩:∃m,n=m+4:=⟨n - 4,by lia⟩
  have ih:=λp o d=>b8J k p o d n (by lia)
  have la:∀p,G9 p→B2 p≤k→RdL (G8 (n+1)) (k:Nat) p:=λp o d=>c0B (ih p o d);rw [b8e];have go:∀{w rest:List Nat} {v:PV},w≠[]→(∀x∈w,lt1 x=true)→T=pre++(w++40::rest)→m8 0 (t6 (a1h (n+2)) (a1i (n+2)) (G8 (n+2)) (C2 (n+2)) (M7 (n+2)) (a0I (n+2)) (Q1 (n+2)) (Y1 (n+2))) [row T,row w,.int ((pre++(w++[40])).length:Nat),.int (k:Nat)]=φ v→m8 2 (N3 (a1h (n+3)) (a1i (n+3)) (G8 (n+3)) (C2 (n+3)) (M7 (n+3)) (a0I (n+3)) (Q1 (n+3)) (Y1 (n+3))) [row T,.int (pre.length:Nat),.int ((k+1:Nat):Int)]=φ v:=λh0 hw e h=>by
   refine b4v h0 hw e hT ?_;rw [c0u];rw [AQ,AQ,List.length_singleton] at h;exact h
  have fin:∀{m':Mo} {o:Υ g0} {a b:Nat},o=φ (tv m' a)→a=b→o=φ (tv m' b):=λh e=>by rw [h,e]
  cases m with
  |plain R=>
   ext m
   have e:T=pre++((91::m6 [47] R)++93::post):=by rw [eT,m5];simp
   have pl:=c3A ok e hT;have st:=a1t (pre:=pre) (s:=(91::m6 [47] R)++93::post) (y:=[91]);rw [←e] at st;have st:G2 (.v (row T)) (.v (row [91])) (.v (.int (pre.length:Nat)))=φ (.bool true):=st;have n0:=b8L k;refine fin (a:=pre.length+(m6 [47] R).length+2) ?_ (by rw [m5];simp;lia)
   unfold N3;rw [b8t];generalize row T=X at*;simp! [t7,r9,k7,p8,j7,j0,j8,l9,p0,A7,n8,u9,K8,p7,a0T,E9,m9,o8,v7,C5,r6,w4,S4,AM,AT,Ae,Ag,Ab,Ac,Aa,n0,st,m3,pl]
   try rfl
  |named w=>
   ext m
   rw [m5] at eT ⊢;exact b4u ok eT hT hp
  |beside ps=>
   ext m
   rw [B2] at hd;have e:T=pre++(C7++40::(m6 [44,32] (ps.map m5)++41::post)):=by rw [eT,m5,K0];simp [C7]
   refine fin (go (by decide) (by decide) e (b8G (.inl rfl) (b5t (post:=post) ok.1 ok.2.1 (λp hp=>ih p (O4 ok.2.2 hp) (by have:=O1 hp;lia)) rfl (by rw [e];simp) hT true))) ?_
   rw [m5,K0];simp [C7];lia
  |above ps=>
   ext m
   rw [B2] at hd;have e:T=pre++(L9++40::(m6 [44,32] (ps.map m5)++41::post)):=by rw [eT,m5,K0];simp [L9]
   refine fin (go (by decide) (by decide) e (b8G (.inr rfl) (b5t (post:=post) ok.1 ok.2.1 (λp hp=>ih p (O4 ok.2.2 hp) (by have:=O1 hp;lia)) rfl (by rw [e];simp) hT false))) ?_
   rw [m5,K0];simp [L9];lia
  |across j p=>
   ext m
   rw [B2] at hd;have e:T=pre++(D8++40::(dg j++44::32::(m5 p++41::post))):=by rw [eT,m5];simp [D8]
   refine fin (go (by decide) (by decide) e (b8H (.inl rfl) (b9q (post:=post) (la p ok.2.2 (by lia)) ok.1 ok.2.1 (by rw [e];simp) hT true))) ?_
   rw [m5];simp [D8];lia
  |down j p=>
   ext m
   rw [B2] at hd;have e:T=pre++(Z0++40::(dg j++44::32::(m5 p++41::post))):=by rw [eT,m5];simp [Z0]
   refine fin (go (by decide) (by decide) e (b8H (.inr rfl) (b9q (post:=post) (la p ok.2.2 (by lia)) ok.1 ok.2.1 (by rw [e];simp) hT false))) ?_
   rw [m5];simp [Z0];lia
  |turned w p=>
   ext m
   rw [B2] at hd;obtain⟨_,lt,h0,_⟩:=b9G ok.1;have e:T=pre++(w++40::(m5 p++41::post)):=by rw [eT,m5];simp
   refine fin (go h0 lt e (c27 ok.1 (b7b (post:=post) (la p ok.2 (by lia)) (by rw [e];simp) hT))) ?_
   rw [m5];simp;lia
  |dyed a b p=>
   ext m
   rw [B2] at hd;have e:T=pre++(a7Y++40::(a::44::32::b::44::32::(m5 p++41::post))):=by rw [eT,m5];simp [a7Y]
   refine fin (go (by decide) (by decide) e (c26 (b94 (post:=post) (la p ok.2.2 (by lia)) (by rw [e];simp) hT ok.1 ok.2.1))) ?_
   rw [m5];simp [a7Y];lia
theorem a9h{m:Mo}(ok:G9 m)(hd:B2 m≤8)(hl:(m5 m).length≤450):J5 [row (m5 m)]=φ (A6 m):=by
 have h:=b8J 8 m ok hd 40 (by lia) (m5 m) [] [] (by simp) hl (.inl rfl)
 rw [AX,Nat.zero_add] at h;have h:a5w [row (m5 m),.int 0,.int 8]=φ (tv m (m5 m).length):=h;have gl:=a0F (l:=m5 m) (by lia)
 have c8:a4O= .int 8:=rfl;have i1:F8 "str" (.v (row (m5 m)))=φ (.bool true):=rfl;have ne:gNe (.v (.int ((m5 m).length:Nat))) (.v (.int ((m5 m).length:Nat)))=φ (.bool false):=T5 rfl;unfold J5 a53;rw [c8];generalize row (m5 m)=X at*;simp! [E4,T4,t7,D3,r9,k7,p8,j7,j0,j8,l9,u0,B9,p0,A7,n8,u9,p7,E9,m9,o8,v7,C5,r6,w4,S4,A8,x6,S2,AM,An,AT,Ae,Ag,Ab,Ac,Aa,Ai,Aj,Bool.not_true,i1,h,a45,gl,ne]
 try rfl
theorem m7{i:Nat}{e:M}{n:MS}{ρ:b9}{p:PV}(h:e ρ=φ p):g7 (u4 i e) n ρ=n (ρ.set i (φ p)):=by
 unfold g7 u4;rw [h]
 rfl
theorem x4{c:MT}{x:M}{n:MS}{ρ:b9}{p:PV}(hc:c ρ=ξ true)(hx:x ρ=φ p):g7 (n5 c (j4 x) j1) n ρ=ξ (.rt (.v p)):=by
 unfold g7 n5;rw [hc];show((j4 x ρ).bind _)=_;unfold j4;rw [hx]
 rfl
theorem d3{c:MT}{x n:MS}{ρ:b9}(hc:c ρ=ξ false):g7 (n5 c x j1) n ρ=n ρ:=by
 unfold g7 n5;rw [hc]
 rfl
theorem Q5{n:Nat}{b:MS}{ps:List PV}{r:g0}(h:b (ps.map (λp=>ξ (g0.v p))++AU n ζ)=ξ (.rt r)):m8 n b ps=ξ r:=by
 unfold m8;rw [h]
 rfl
theorem a8X{c:MT}{x y:MS}{ρ:b9}(hc:c ρ=ξ true):n5 c x y ρ=x ρ:=by
 unfold n5;rw [hc];rfl
theorem a35{c:MT}{x y:MS}{ρ:b9}(hc:c ρ=ξ false):n5 c x y ρ=y ρ:=by
 unfold n5;rw [hc];rfl
theorem a6J{i:Nat}{e:M}{ρ:b9}{p:PV}(h:e ρ=φ p):u4 i e ρ=ξ (.nx (ρ.set i (φ p))):=by
 unfold u4;rw [h]
 rfl
theorem a3M{it:MI}{tg:PV→b9→Υ b9}{body n:MS}{ρ ρ':b9}{ps:List PV}(h1:it ρ=ξ ps)(h2:a1z body tg ps ρ=ξ (.nx ρ')):g7 (a2s it tg body) n ρ=n ρ':=by
 unfold g7 a2s;rw [h1,AM,h2]
 rfl
theorem a6r{n i:Nat}{p:PV}(h:((Aq n).map λk=>PyData.int (k:Nat))[i]?=ξ p):p= .int (i:Nat)∧i<n:=by
 rw [Aw] at h
 by_cases hi:i<n
 ·rw [List.getElem?_range hi] at h;exact⟨(Option.some.inj h).symm,hi⟩
 ·rw [List.getElem?_eq_none (by simpa using hi)] at h
  cases h
theorem b8k{ns:List Int}{i:Nat}(h:i<ns.length):∃c:Int,o9 (.v (.list (ns.map .int))) (.v (.int (i:Nat)))=φ (.int c):=by
 refine⟨ns[i], ?_⟩;show((L2.atI (ns.map PyData.int) (i:Nat)).map g0.v)=_;rw [b2f,Aw,BF h]
 rfl
theorem md{a b:M}{ρ:b9}{x k:Int}(h:a ρ=φ (.int x))(hb:b ρ=φ (.int k))(hk:0<k):m2 Θ a b ρ=φ (.int (x % k)):=by
 unfold m2;rw [h,hb];show(if okC (λ_ j=>0<j) x k=true then ξ (g0.v (.int (x % k))) else ζ)=_
 rw [if_pos (a00 (C:=λ_ j=>0<j).mpr hk)]
theorem ml{a:M}{ρ:b9}{x k:Int}(h:a ρ=φ (.int x))(hk: -18446744073709551616<k∧k<18446744073709551616):m2 t8 a (mC (.int k)) ρ=φ (.int (x*k)):=by
 unfold m2;rw [h];exact b5k hk
theorem V7{g:RF}{x:M}{ρ:b9}{p:PV}(h:x ρ=φ p):i7 g (a8 x b8) ρ=g [p]:=by
 unfold i7 a8;rw [h]
 rfl
theorem c37{g:RF}{x y z:M}{ρ:b9}{p q r:PV}(h1:x ρ=φ p)(h2:y ρ=φ q)(h3:z ρ=φ r):i7 g (a8 x (a8 y (a8 z b8))) ρ=g [p,q,r]:=by
 unfold i7 a8;rw [h1,h2,h3]
 rfl
theorem W6{g:g0→g0→Υ g0}{x y:M}{ρ:b9}{r q:g0}{b:Bool}(h1:x ρ=ξ r)(h2:y ρ=ξ q)(h:g r q=φ (.bool b)):x9 (m2 g x y) ρ=ξ b:=by
 unfold x9 m2;rw [h1,h2];show(g r q).bind _=_;rw [h]
 rfl
mutual
def z8:Mo→PV
 | .plain rows=> .tuple [.str (AD "plain"),.tuple (rows.map row)]
 | .named w=> .tuple [.str (AD "name"),row w]
 | .beside ps=> .tuple [.str (AD "beside"),.list (a7W ps)]
 | .above ps=> .tuple [.str (AD "above"),.list (a7W ps)]
 | .across k p=> .tuple [.str (AD "across"),.int (k:Nat),z8 p]
 | .down k p=> .tuple [.str (AD "down"),.int (k:Nat),z8 p]
 | .turned w p=> .tuple [.str (AD "turned"),row w,z8 p]
 | .dyed a b p=> .tuple [.str (AD "dye"),row [a],row [b],z8 p]
def a7W:List Mo→List PV
 |[]=>[]
 |p::ps=>z8 p::a7W ps
end
theorem a1v:∀ps:List Mo,a7W ps=ps.map z8
 |[]=>by rw [a7W];rfl
 |p::ps=>by rw [a7W,a1v ps];rfl
theorem c1E{z:String}{l:List Nat}{a:Υ g0}{ρ:b9}(h:AD z=S l):b0 1 (a::φ (.str (AD z))::ρ)=φ (row l):=by
 rw [h]
 rfl
theorem up4{n:Nat}(h:n≤4000):n≤10000:=by lia
section
variable {R:RF}
theorem c1Z{ps:List Mo}{w:PV}(hp:ps.length≤6)(h:∀p∈ps,R [z8 p]=φ (row (m5 p)))(hl:(m6 [44,32] (ps.map m5)).length≤4000)(ww:PV):
 m2 M5 (mC (.str (AD ", "))) (O3 1 (A3 (m2 o9 (b0 0) (mC (.int 1)))) (u8 2) W3 (a0r R)) [φ (.tuple [w,.list (ps.map z8)]),φ ww]=φ (row (m6 [44,32] (ps.map m5))):=by
 have cm:=W2 (ι:=z8) (f:=λp=>row (m5 p)) (k:=1) (it:=A3 (m2 o9 (b0 0) (mC (.int 1)))) (tg:=u8 2) (elt:=a0r R) (ρ:=[φ (.tuple [w,.list (ps.map z8)]),φ ww]) ps rfl (by lia) λp hp=>by
  refine⟨[φ (.tuple [w,.list (ps.map z8)]),φ ww,φ (z8 p)],rfl, ?_⟩;unfold a0r;rw [(V7 rfl).trans (h p hp)]
  rfl
 have jn:=Z7 (sep:=[44,32]) (rows:=ps.map m5) (y:= .own (ps.map λp=>row (m5 p))) (by show ξ _=ξ _;rw [BC];rfl) (by have:=a6d (sep:=[44,32]) (ls:=ps.map m5);simp only [AO,AX] at this ⊢;lia)
 unfold m2
 rw [T1 O9,AM]
 refine(congrArg (λo=>Option.bind o λy=>M5 (.v (row [44,32])) y) cm).trans ?_
 exact jn
theorem c4r{k:Nat}{x:M}{ρ:b9}(hk:k≤24)(h:x ρ=φ (.int (k:Nat))):m1 a7Q x ρ=φ (row (dg k)):=by
 show(x ρ).bind a7Q=_;rw [h];exact b1U (by lia)
theorem b4q(m:Mo)(ok:G9 m)(hl:(m5 m).length≤4000)(ih:∀p,G9 p→B2 p<B2 m→(m5 p).length≤4000→R [z8 p]=φ (row (m5 p))):m8 1 (a08 R) [z8 m]=φ (row (m5 m)):=by
 refine Q5 ?_;show a08 R [φ (z8 m),ζ]=_;unfold a08;cases m with
 |plain rows=>
  ext m
  rw [z8,m7 (p:= .str (AD "plain")) rfl];rw [m5] at hl ⊢;have h2:=M3 hl;have jn:=Z7 (sep:=[47]) (rows:=rows) (y:= .v (.tuple (rows.map row))) rfl (by have:=a6d (sep:=[47]) (ls:=rows);rw [AQ] at h2;simp only [AO,AX] at this h2 ⊢;lia)
  refine x4 rfl (ad (ad (T1 b8t _) ?_ (up4 (G4 h2))) (T1 b07 _) (up4 (G4 hl)));show(mC (.str (AD "/")) _).bind (λx=>Option.bind _ λy=>M5 x y)=_;rw [T1 a79];exact jn
 |named w=>
  rw [z8,m7 (p:= .str (AD "name")) rfl,d3 rfl,m5];exact x4 rfl rfl
 |beside ps=>
  ext m
  have d:B2 (.beside ps)=1+a5s ps:=by rw [B2]
  rw [z8,a1v,m7 (p:= .str (AD "beside")) rfl,d3 rfl,d3 rfl];rw [m5,K0] at hl ⊢;have h2:=M3 hl;have h3:(m6 [44,32] (ps.map m5)).length≤4000:=by rw [AQ] at h2;lia
  exact x4 rfl (ad (ad (ad (a:=C7) (b:=[40]) (c1E (by decide+kernel)) (T1 b2Q _) (by decide)) (c1Z ok.2.1 (λp hp=>ih p (O4 ok.2.2 hp) (by have:=O1 hp;lia) (by have:=X9 (sep:=[44,32]) (List.mem_map_of_mem (f:=m5) hp);lia)) h3 _) (up4 (G4 h2))) (T1 a6u _) (up4 (G4 hl)))
 |above ps=>
  ext m
  have d:B2 (.above ps)=1+a5s ps:=by rw [B2]
  rw [z8,a1v,m7 (p:= .str (AD "above")) rfl,d3 rfl,d3 rfl];rw [m5,K0] at hl ⊢;have h2:=M3 hl;have h3:(m6 [44,32] (ps.map m5)).length≤4000:=by rw [AQ] at h2;lia
  exact x4 rfl (ad (ad (ad (a:=L9) (b:=[40]) (c1E (by decide+kernel)) (T1 b2Q _) (by decide)) (c1Z ok.2.1 (λp hp=>ih p (O4 ok.2.2 hp) (by have:=O1 hp;lia) (by have:=X9 (sep:=[44,32]) (List.mem_map_of_mem (f:=m5) hp);lia)) h3 _) (up4 (G4 h2))) (T1 a6u _) (up4 (G4 hl)))
 |across k p=>
  ext m
  have d:B2 (.across k p)=1+B2 p:=by rw [B2]
  rw [z8,m7 (p:= .str (AD "across")) rfl,d3 rfl,d3 rfl,d3 rfl]
  ext ad
  have ip:=ih p ok.2.2 (by lia) (by simp only [AQ] at hl;lia)
  exact x4 rfl (ad (ad (ad (ad (ad (a:=D8) (b:=[40]) (c1E (by decide+kernel)) (T1 b2Q _) (by decide)) (c4r ok.2.1 rfl) (up4 (G4 l3))) (T1 O9 _) (up4 (G4 l2))) ((V7 rfl).trans ip) (up4 (G4 l1))) (T1 a6u _) (up4 (G4 hl)))
 |down k p=>
  ext m
  have d:B2 (.down k p)=1+B2 p:=by rw [B2]
  rw [z8,m7 (p:= .str (AD "down")) rfl,d3 rfl,d3 rfl,d3 rfl]
  ext ad
  have ip:=ih p ok.2.2 (by lia) (by simp only [AQ] at hl;lia)
  exact x4 rfl (ad (ad (ad (ad (ad (a:=Z0) (b:=[40]) (c1E (by decide+kernel)) (T1 b2Q _) (by decide)) (c4r ok.2.1 rfl) (up4 (G4 l3))) (T1 O9 _) (up4 (G4 l2))) ((V7 rfl).trans ip) (up4 (G4 l1))) (T1 a6u _) (up4 (G4 hl)))
 |turned w p=>
  ext m
  have d:B2 (.turned w p)=1+B2 p:=by rw [B2]
  rw [z8,m7 (p:= .str (AD "turned")) rfl,d3 rfl,d3 rfl,d3 rfl,d3 rfl];rw [m5] at hl ⊢;have l1:=M3 hl;have l2:=M3 l1;have ip:=ih p ok.2 (by lia) (by simp only [AQ] at hl;lia)
  exact x4 rfl (ad (ad (ad (a:=w) rfl (T1 b2Q _) (up4 (G4 l2))) ((V7 rfl).trans ip) (up4 (G4 l1))) (T1 a6u _) (up4 (G4 hl)))
 |dyed a b p=>
  ext m
  have d:B2 (.dyed a b p)=1+B2 p:=by rw [B2]
  rw [z8,m7 (p:= .str (AD "dye")) rfl,d3 rfl,d3 rfl,d3 rfl,d3 rfl,d3 rfl]
  ext ad
  have l4:=M3 l3;have l5:=M3 l4;have ip:=ih p ok.2.2 (by lia) (by simp only [AQ] at hl;lia)
  have e:=ad (ad (ad (ad (ad (ad (x:=mC (.str (AD "dye("))) (y:=m2 o9 (b0 0) (mC (.int 1))) (ρ:=[φ (.tuple [.str (AD "dye"),row [a],row [b],z8 p]),φ (.str (AD "dye"))]) (T1 (l:=[100,121,101,40]) (by decide+kernel) _) (b:=[a]) rfl (up4 (G4 l5))) (T1 O9 _) (up4 (G4 l4))) (y:=m2 o9 (b0 0) (mC (.int 2))) (b:=[b]) rfl (up4 (G4 l3))) (T1 O9 _) (up4 (G4 l2))) ((V7 (g:=R) (x:=m2 o9 (b0 0) (mC (.int 3))) rfl).trans ip) (up4 (G4 l1))) (T1 a6u _) (up4 (G4 hl))
  show j4 _ _=_;unfold j4;refine(congrArg (λo=>Option.bind o _) e).trans rfl
end
theorem a8T:∀(n:Nat) (m:Mo),G9 m→B2 m≤n→(m5 m).length≤4000→a3V n [z8 m]=φ (row (m5 m))
 |0,m,_,h,_=>by have:=a4A m;lia
 |n+1,m,ok,h,hl=>b4q m ok hl λp okp hp hlp=>a8T n p okp (by lia) hlp
theorem Q4{c:MT}{b n:MS}{ρ:b9}{r:g0}(hc:c ρ=ξ true)(hb:b ρ=ξ (.rt r)):g7 (n5 c b j1) n ρ=ξ (.rt r):=by
 unfold g7 n5;rw [hc];show(b ρ).bind _=_;rw [hb]
 rfl
theorem S6{x:M}{ρ:b9}{p:PV}(h:x ρ=φ p):j4 x ρ=ξ (.rt (.v p)):=by
 unfold j4;rw [h]
 rfl
theorem c1l(R:List (List Nat))(n:Nat):K6 (R.map row) n=true:=by
 induction R with
 |nil=>rfl
 |cons r R ih=>
  rw [AT];show(z6 (row r) n && K6 (R.map row) n)=true;rw [ih];cases n<;>rfl
theorem S9{g:RF}{x y:M}{ρ:b9}{p q:PV}(h1:x ρ=φ p)(h2:y ρ=φ q):i7 g (a8 x (a8 y b8)) ρ=g [p,q]:=by
 unfold i7 a8;rw [h1,h2]
 rfl
theorem b81{a b:MT}{ρ:b9}(h1:a ρ=ξ false)(h2:b ρ=ξ false):K5 a b ρ=ξ false:=by
 unfold K5;rw [h1];exact h2
theorem b6C{a:MT}{ρ:b9}(h:a ρ=ξ true):A4 a ρ=ξ false:=by
 unfold A4;rw [h]
 rfl
theorem a7V{x:M}{ρ:b9}{b:Bool}(h:x ρ=φ (.bool b)):V2 x ρ=ξ b:=by
 unfold V2;rw [h]
 rfl
theorem b52(f g:Mo→PV):∀ps:List Mo,Q7 (ps.map f) (ps.map g)=ps.map λp=> .tuple [f p,g p]
 |[]=>rfl
 |p::ps=>by
  have:=b52 f g ps;unfold Q7 at this ⊢;rw [AT,AT,AT,List.zipWith_cons_cons,this]
section
variable {R:RF}
theorem b5q{s0 s1 s2 s3:Υ g0}:∀(ps:List Mo) (q4 q5:Υ g0),(∀p∈ps,R [A6 p,z8 p]=φ (.bool true))→∃q4' q5',a1z (W1 R) (a1u [4,5]) (ps.map λp=> .tuple [A6 p,z8 p]) [s0,s1,s2,s3,q4,q5]=ξ (.nx [s0,s1,s2,s3,q4',q5'])
 |[],q4,q5,_=>⟨q4,q5,rfl⟩
 |p::ps,q4,q5,h=>by
  obtain⟨a,b,e⟩:=b5q (s0:=s0) (s1:=s1) (s2:=s2) (s3:=s3) ps (φ (A6 p)) (φ (z8 p)) λx hx=>h x (Af _ hx);refine⟨a,b, ?_⟩;have hb:W1 R [s0,s1,s2,s3,φ (A6 p),φ (z8 p)]=ξ (.nx [s0,s1,s2,s3,φ (A6 p),φ (z8 p)]):=by
   unfold W1;exact(a35 (b6C (a7V ((S9 rfl rfl).trans (h p AZ))))).trans rfl
  rw [AT,a1z];show(W1 R [s0,s1,s2,s3,φ (A6 p),φ (z8 p)]).bind _=_;rw [hb];exact e
theorem b5p{m:Mo}{ps:List Mo}{w:PV}{s2:PV}{l:List PV}(fl:D0 [AD "Beside",AD "Above"] (AD "parts") (.v (A6 m))=φ (.tuple (ps.map A6)))(h:∀p∈ps,R [A6 p,z8 p]=φ (.bool true)):
 g7 (n5 (K5 (A4 (V2 (m1 (F8 "tuple") (m1 (D0 [AD "Beside",AD "Above"] (AD "parts")) (b0 0))))) (x9 (m2 gNe (m1 x8 (m1 (D0 [AD "Beside",AD "Above"] (AD "parts")) (b0 0))) (m1 x8 (m2 o9 (b0 1) (mC (.int 1))))))) (j4 (mC (.bool false))) j1)
 (g7 (a2s (b5D (a8 (m1 (D0 [AD "Beside",AD "Above"] (AD "parts")) (b0 0)) (a8 (m2 o9 (b0 1) (mC (.int 1))) b8))) (a1u [4,5]) (W1 R))
 (j4 (mC (.bool true)))) [φ (A6 m),φ (.tuple [w,.list (ps.map z8)]),φ s2,ξ (.own l),ζ,ζ]=ξ (.rt (.v (.bool true))):=by
 have f0:m1 (D0 [AD "Beside",AD "Above"] (AD "parts")) (b0 0) [φ (A6 m),φ (.tuple [w,.list (ps.map z8)]),φ s2,ξ (.own l),ζ,ζ]=φ (.tuple (ps.map A6)):=b2w fl
 have t1:V2 (m1 (F8 "tuple") (m1 (D0 [AD "Beside",AD "Above"] (AD "parts")) (b0 0))) [φ (A6 m),φ (.tuple [w,.list (ps.map z8)]),φ s2,ξ (.own l),ζ,ζ]=ξ true:=a7V (by
  refine(congrArg (λo=>Option.bind o (F8 "tuple")) f0).trans rfl)
 have t2:x9 (m2 gNe (m1 x8 (m1 (D0 [AD "Beside",AD "Above"] (AD "parts")) (b0 0))) (m1 x8 (m2 o9 (b0 1) (mC (.int 1))))) [φ (A6 m),φ (.tuple [w,.list (ps.map z8)]),φ s2,ξ (.own l),ζ,ζ]=ξ false:=
  W6 (r:= .v (.int (ps.length:Nat))) (by
   refine(congrArg (λo=>Option.bind o x8) f0).trans ?_;show ξ (g0.v (.int ((ps.map A6).length:Nat)))=_;rw [AY]) (q:= .v (.int (ps.length:Nat))) (by
   show ξ (g0.v (.int ((ps.map z8).length:Nat)))=_;rw [AY]) (T5 rfl)
 obtain⟨q4,q5,e⟩:=b5q (s0:=φ (A6 m)) (s1:=φ (.tuple [w,.list (ps.map z8)])) (s2:=φ s2) (s3:=ξ (.own l)) ps ζ ζ h
 rw [d3 (b81 (b6C t1) t2),a3M (ps:=ps.map λp=> .tuple [A6 p,z8 p]) (by
  unfold b5D a8;rw [f0];show ξ (Q7 (ps.map A6) (ps.map z8))=_;rw [b52]) e]
 rfl
end
theorem J8{i:Nat}{e:M}{n:MS}{ρ:b9}{l:List PV}(h:e ρ=ξ (.own l)):g7 (u4 i e) n ρ=n (ρ.set i (ξ (.own l))):=by
 unfold g7 u4;rw [h]
 rfl
theorem c1N{x y:M}{ρ:b9}{r:g0}(h:x ρ=φ (.bool true))(h2:y ρ=ξ r):a61 x y ρ=ξ r:=by
 unfold a61;rw [h];exact h2
section
variable {R:RF}
theorem c0x(m:Mo)(ok:G9 m)(ih:∀p,G9 p→B2 p<B2 m→R [A6 p,z8 p]=φ (.bool true)):m8 4 (a3z R) [A6 m,z8 m]=φ (.bool true):=by
 refine Q5 ?_;show a3z R [φ (A6 m),φ (z8 m),ζ,ζ,ζ,ζ]=_;unfold a3z;cases m with
 |plain rows=>
  have e:=a2o (p:= .tuple (rows.map row)) (by show K6 (rows.map row) 49=true;exact c1l rows 49)
  rw [z8,m7 (p:= .str (AD "plain")) rfl,A6,d3 rfl];refine Q4 rfl ?_;rw [d3 rfl];exact S6 e
 |named w=>
  have e:=a2o (p:=row w) rfl;rw [z8,m7 (p:= .str (AD "name")) rfl,A6,d3 rfl,d3 rfl];refine x4 rfl ?_;unfold a61;exact e
 |beside ps=>
  ext m
  have d:B2 (.beside ps)=1+a5s ps:=by rw [B2]
  rw [z8,a1v,m7 (p:= .str (AD "beside")) rfl];have k:=b5p (R:=R) (m:= .beside ps) (w:= .str (AD "beside")) (s2:= .str (AD "beside")) (l:=[.bool true,.bool false]) (b0m ps) λp hp=>ih p (O4 ok.2.2 hp) (by have:=O1 hp;lia)
  rw [A6] at k ⊢;rw [d3 rfl,d3 rfl,d3 rfl];refine Q4 rfl ?_;exact k
 |above ps=>
  ext m
  have d:B2 (.above ps)=1+a5s ps:=by rw [B2]
  rw [z8,a1v,m7 (p:= .str (AD "above")) rfl];have k:=b5p (R:=R) (m:= .above ps) (w:= .str (AD "above")) (s2:= .str (AD "above")) (l:=[.bool false,.bool true]) (b0l ps) λp hp=>ih p (O4 ok.2.2 hp) (by have:=O1 hp;lia)
  rw [A6] at k ⊢;rw [d3 rfl,d3 rfl,d3 rfl];refine Q4 rfl ?_;exact k
 |across k p=>
  ext m
  have d:B2 (.across k p)=1+B2 p:=by rw [B2]
  have hp:=ih p ok.2.2 (by lia)
  have e:=a2o (p:= .int (k:Nat)) rfl;rw [z8,m7 (p:= .str (AD "across")) rfl,A6];rw [d3 rfl,d3 rfl,d3 rfl,d3 rfl,d3 rfl,d3 rfl,J8 (l:=[.bool true,.bool false]) rfl,d3 (b81 rfl rfl)];exact S6 (c1N e ((S9 rfl rfl).trans hp))
 |down k p=>
  ext m
  have d:B2 (.down k p)=1+B2 p:=by rw [B2]
  have hp:=ih p ok.2.2 (by lia)
  have e:=a2o (p:= .int (k:Nat)) rfl;rw [z8,m7 (p:= .str (AD "down")) rfl,A6];rw [d3 rfl,d3 rfl,d3 rfl,d3 rfl,d3 rfl,d3 rfl,J8 (l:=[.bool false,.bool true]) rfl,d3 (b81 rfl rfl)];exact S6 (c1N e ((S9 rfl rfl).trans hp))
 |turned w p=>
  ext m
  have d:B2 (.turned w p)=1+B2 p:=by rw [B2]
  have hp:=ih p ok.2 (by lia)
  have e:=T5 (p:=row w) rfl;rw [z8,m7 (p:= .str (AD "turned")) rfl,A6];rw [d3 rfl,d3 rfl,d3 rfl,d3 rfl];refine Q4 rfl ?_;rw [d3 (b81 rfl (W6 (r:= .v (row w)) rfl (q:= .v (row w)) rfl e))];exact S6 ((S9 rfl rfl).trans hp)
 |dyed a b p=>
  ext m
  have d:B2 (.dyed a b p)=1+B2 p:=by rw [B2]
  have hp:=ih p ok.2.2 (by lia)
  have e1:=T5 (p:=row [a]) rfl;have e2:=T5 (p:=row [b]) rfl;rw [z8,m7 (p:= .str (AD "dye")) rfl,A6];rw [d3 rfl,d3 rfl,d3 rfl,d3 rfl,d3 rfl];refine Q4 rfl ?_;rw [d3 rfl,d3 (b81 (W6 (r:= .v (row [a])) rfl (q:= .v (row [a])) rfl e1) (W6 (r:= .v (row [b])) rfl (q:= .v (row [b])) rfl e2))];exact S6 ((S9 rfl rfl).trans hp)
end
theorem b8v:∀(n:Nat) (m:Mo),G9 m→B2 m≤n→a6V n [A6 m,z8 m]=φ (.bool true)
 |0,m,_,h=>by have:=a4A m;lia
 |n+1,m,ok,h=>c0x m ok λp okp hp=>b8v n p okp (by lia)
theorem a4K:∀{ps:List Mo},(∀p∈ps,G9 p)→b1v ps
 |[],_=>by rw [b1v];trivial
 |p::ps,h=>by rw [b1v];exact⟨h p AZ,a4K λq hq=>h q (Af _ hq)⟩
theorem a4B:∀{ps:List Mo} {k:Nat},(∀p∈ps,B2 p≤k)→a5s ps≤k
 |[],k,_=>by rw [a5s];lia
 |p::ps,k,h=>by
  have h1:=h p AZ;have h2:=a4B λq hq=>h q (Af _ hq);rw [a5s]
  lia
theorem mlv{a b:M}{ρ:b9}{x k:Int}(h:a ρ=φ (.int x))(hb:b ρ=φ (.int k))(hk: -18446744073709551616<k∧k<18446744073709551616):m2 t8 a b ρ=φ (.int (x*k)):=by
 unfold m2;rw [h,hb];exact b5k hk
theorem adI{a b:M}{ρ:b9}{x y:Int}(h:a ρ=φ (.int x))(hb:b ρ=φ (.int y)):m2 l8 a b ρ=φ (.int (x+y)):=by
 unfold m2;rw [h,hb]
 rfl
theorem Y8{g:g0→g0→Υ g0}{x y:M}{ρ:b9}{r q s:g0}(h1:x ρ=ξ r)(h2:y ρ=ξ q)(h:g r q=ξ s):m2 g x y ρ=ξ s:=by
 unfold m2;rw [h1,h2];exact h
theorem one{g:g0→Υ g0}{x:M}{ρ:b9}{r s:g0}(h1:x ρ=ξ r)(h:g r=ξ s):m1 g x ρ=ξ s:=by
 unfold m1;rw [h1];exact h
abbrev sml(t:List Nat):Prop:=∀x∈t,lt1 x=true
theorem b4m(N:Int)(ρ:b9):∃al:List Nat,1≤al.length∧al.length≤26∧sml al∧E3 (mC (.str (AD "abcdefghijklmnopqrstuvwxyz"))) N5 (C0 (m2 o9 (B4 (a8 (mC (.int 2)) (a8 (mC (.int 4)) (a8 (mC (.int 26)) b8)))) (m2 Θ (b0 0) (mC (.int 3))))) (φ (.int N)::ρ)=φ (row al):=by
 have e:m2 Θ (b0 0) (mC (.int 3)) (φ (.int N)::ρ)=φ (.int (N % 3)):=md rfl rfl (by lia)
 have go:∀(al:List Nat) (k:Int),o9 (.own [.int 2,.int 4,.int 26]) (.v (.int (N % 3)))=φ (.int k)→gSl (.v (.str (AD "abcdefghijklmnopqrstuvwxyz"))) ζ (ξ k)=φ (row al)→E3 (mC (.str (AD "abcdefghijklmnopqrstuvwxyz"))) N5 (C0 (m2 o9 (B4 (a8 (mC (.int 2)) (a8 (mC (.int 4)) (a8 (mC (.int 26)) b8)))) (m2 Θ (b0 0) (mC (.int 3))))) (φ (.int N)::ρ)=φ (row al):=λal k h1 h2=>by
  have ei:m2 o9 (B4 (a8 (mC (.int 2)) (a8 (mC (.int 4)) (a8 (mC (.int 26)) b8)))) (m2 Θ (b0 0) (mC (.int 3))) (φ (.int N)::ρ)=φ (.int k):=Y8 (r:= .own [.int 2,.int 4,.int 26]) rfl e h1;unfold E3 C0;rw [ei];exact h2
 have:N % 3=0∨N % 3=1∨N % 3=2:=by lia
 rcases this with h|h|h
 ·exact⟨[97,98],by decide,by decide,by decide,go _ 2 (by rw [h];rfl) (by rfl)⟩
 ·exact⟨[97,98,99,100],by decide,by decide,by decide,go _ 4 (by rw [h];rfl) (by rfl)⟩
 ·exact⟨[97,98,99,100,101,102,103,104,105,106,107,108,109,110,111,112,113,114,115,116,117,118,119,120,121,122],by decide,by decide,by decide,go _ 26 (by rw [h];rfl) (by rfl)⟩
theorem b9b{N:Int}{R:List PV}{al:List Nat}(a1:1≤al.length)(a2:al.length≤26)(a3:sml al){w r:Nat}(hr:r≤3){t:List Nat}(ht:t.length≤100)(st:sml t){c:Nat}(hc:c≤3)(q7:Υ g0):∃(q7':Υ g0) (x:Nat),lt1 x=true∧
 Y2 [φ (.int N),ξ (.own R),φ (row al),φ (.int (w:Nat)),φ (.int (r:Nat)),φ (row t),φ (.int (c:Nat)),q7]=ξ (.nx [φ (.int N),ξ (.own R),φ (row al),φ (.int (w:Nat)),φ (.int (r:Nat)),φ (row (t++[x])),φ (.int (c:Nat)),q7']):=by
 obtain⟨M,hM⟩:∃M:Int,M=N*(2*(r:Nat)+3*(c:Nat)+69621) % 1000003:=⟨_,rfl⟩
 have e1:m2 Θ (m2 t8 (b0 0) (m2 l8 (m2 l8 (m2 t8 (mC (.int 2)) (b0 4)) (m2 t8 (mC (.int 3)) (b0 6))) (mC (.int 69621)))) (mC (.int 1000003)) [φ (.int N),ξ (.own R),φ (row al),φ (.int (w:Nat)),φ (.int (r:Nat)),φ (row t),φ (.int (c:Nat)),q7]=φ (.int M):=by
  rw [hM];exact md (mlv rfl (adI (adI (mlv rfl rfl (by lia)) (mlv rfl rfl (by lia))) rfl) (by lia)) rfl (by lia)
 have e2:m2 Θ (b0 7) (m1 x8 (b0 2)) [φ (.int N),ξ (.own R),φ (row al),φ (.int (w:Nat)),φ (.int (r:Nat)),φ (row t),φ (.int (c:Nat)),φ (.int M)]=φ (.int (M %(al.length:Nat))):=md rfl (one rfl (a0F (by lia))) (by lia)
 have hj0:0≤M %(al.length:Nat):=Int.emod_nonneg _ (by lia)
 have hj1:M %(al.length:Nat)<(al.length:Nat):=Int.emod_lt_of_pos _ (by lia)
 have e3:=c0m (l:=al) (m:=al.length) rfl (by lia) hj0 hj1
 have hx:lt1 (al.getD (M %(al.length:Nat)).toNat 0)=true:=by
  have hk:(M %(al.length:Nat)).toNat<al.length:=by lia
  rw [List.getD_eq_getElem?_getD,BF hk];exact a3 _ (List.getElem_mem hk)
 refine⟨φ (.int M),_,hx, ?_⟩
 unfold Y2
 rw [m7 e1]
 exact a6J (ad rfl (Y8 rfl e2 e3) (by simp;lia))
theorem c4U{x y:M}{ρ:b9}{p:PV}{qs:List PV}(h1:x ρ=φ p)(h2:y ρ=ξ (.own qs)):C3 (a8 x (a8 y b8)) ρ=φ (.tuple [p,.list qs]):=by
 unfold C3 a8;rw [h1,h2]
 rfl
theorem dv{a b:M}{ρ:b9}{x k:Int}(h:a ρ=φ (.int x))(hb:b ρ=φ (.int k))(hk:0<k∧k<1073741824):m2 Ω a b ρ=φ (.int (x / k)):=by
 unfold m2;rw [h,hb];show(if okC a9F x k=true then ξ (g0.v (.int (x / k))) else ζ)=_
 rw [if_pos (a00 (C:=a9F).mpr hk)]
theorem c5a{x y:M}{ρ:b9}{p q:PV}(h1:x ρ=φ p)(h2:y ρ=φ q):B4 (a8 x (a8 y b8)) ρ=ξ (.own [p,q]):=by
 unfold B4 a8;rw [h1,h2]
 rfl
theorem c5s{x y z:M}{ρ:b9}{p q r:PV}(h1:x ρ=φ p)(h2:y ρ=φ q)(h3:z ρ=φ r):C3 (a8 x (a8 y (a8 z b8))) ρ=φ (.tuple [p,q,r]):=by
 unfold C3 a8;rw [h1,h2,h3]
 rfl
theorem c5t{x y z u:M}{ρ:b9}{p q r v:PV}(h1:x ρ=φ p)(h2:y ρ=φ q)(h3:z ρ=φ r)(h4:u ρ=φ v):C3 (a8 x (a8 y (a8 z (a8 u b8)))) ρ=φ (.tuple [p,q,r,v]):=by
 unfold C3 a8;rw [h1,h2,h3,h4]
 rfl
theorem b9W:AD "abcdefghijklmnopqrstuvwxyz"=S ((Aq 26).map (97+·)):=by decide+kernel
theorem b2d(k:Nat)(h:k<26):∃a,lt1 a=true∧o9 (.v (.str (AD "abcdefghijklmnopqrstuvwxyz"))) (.v (.int (k:Nat)))=φ (row [a]):=
 ⟨97+k,a6j.mpr (by lia),by rw [b9W];exact b79 (by simp) (by rw [b2f,Aw,List.getElem?_range h];rfl)⟩
abbrev sS(N:Int)(m l:Mo)(a b c d:Υ g0):b9:=[φ (.int N),φ (z8 m),φ (z8 l),a,b,c,d]
theorem c1W{k:Nat}:∀{ps:List Mo},(∀p∈ps,(m5 p).length≤k)→(m6 [44,32] (a4r ps)).length≤ps.length*(k+2)
 |[],_=>by rw [a4r];simp [m6]
 |[p],h=>by
  have:=h p AZ;rw [a4r,a4r];simp only [m6,AO,AX]
  lia
 |p::q::r,h=>by
  have h1:=h p AZ;have h2:=c1W (ps:=q::r) λx hx=>h x (Af _ hx);rw [a4r];rw [a4r] at h2 ⊢;simp only [m6,AQ,AO,AX,Nat.add_mul] at h2 ⊢
  lia
def b8f(m l:Mo)(q:Υ g0):Prop:=∃r,q=φ (z8 r)∧G9 r∧B2 r≤2+max (B2 m) (B2 l)∧(m5 r).length≤6*max (m5 m).length (m5 l).length+40
theorem c1u{m l:Mo}(okm:G9 m)(okl:G9 l)(N:Int):b8f m l (a0a [.int N,z8 m,z8 l]):=by
 obtain⟨s,hs⟩:∃s:Int,s=N*62089911 % 999931 % 9:=⟨_,rfl⟩;have s0:0≤s∧s<9:=by lia
 obtain⟨b,hb⟩:∃b:Bool,b=decide (N % 7=1):=⟨_,rfl⟩;obtain⟨t,ht0,ht1,ht⟩:∃t:Nat,1≤t∧t≤24∧((t:Nat):Int)=1+N*742938285 % 999959 %(if b=true then 24 else 4):=by
  refine⟨(1+N*742938285 % 999959 %(if b=true then 24 else 4)).toNat, ?_, ?_, ?_⟩<;>split<;>lia
 have e3:m2 Θ (m2 Θ (m2 t8 (b0 0) (mC (.int 62089911))) (mC (.int 999931))) (mC (.int 9)) (sS N m l ζ ζ ζ ζ)=φ (.int s):=by
  rw [hs];exact md (md (ml rfl (by lia)) rfl (by lia)) rfl (by lia)
 have e4:∀q3,m2 l8 (mC (.int 1)) (m2 Θ (m2 Θ (m2 t8 (b0 0) (mC (.int 742938285))) (mC (.int 999959))) (m2 o9 (B4 (a8 (mC (.int 4)) (a8 (mC (.int 24)) b8))) (m1 b2A (m2 B7 (m2 Θ (b0 0) (mC (.int 7))) (mC (.int 1)))))) (sS N m l q3 ζ ζ ζ)=φ (.int (t:Nat)):=λq3=>by
  rw [ht];refine adI rfl (md (md (ml rfl (by lia)) rfl (by lia)) (Y8 (r:= .own [.int 4,.int 24]) (q:= .v (.int (if b=true then 1 else 0))) rfl (one (Y8 (md rfl rfl (by lia)) rfl (b0p _ _)) ?_) (by cases b<;>rfl)) (by split<;>lia))
  have:(N % 7==1)=b:=by rw [hb];rfl
  rw [this]
  rfl
 have go:∀{r:Mo},G9 r→B2 r≤2+max (B2 m) (B2 l)→(m5 r).length≤6*max (m5 m).length (m5 l).length+40→a8r (sS N m l ζ ζ ζ ζ)=ξ (.rt (.v (z8 r)))→b8f m l (a0a [.int N,z8 m,z8 l]):=λ {r} h1 h3 h4 h=>⟨r,Q5 (n:=4) h,h1,h3,h4⟩;have hd:∀{q:Υ Fl} {n:MS},n (sS N m l (φ (.int s)) (φ (.int (t:Nat))) (φ (.str (AD "abcdefghijklmnopqrstuvwxyz"))) ζ)=q→g7 (u4 3 (m2 Θ (m2 Θ (m2 t8 (b0 0) (mC (.int 62089911))) (mC (.int 999931))) (mC (.int 9)))) (g7 (u4 4 (m2 l8 (mC (.int 1)) (m2 Θ (m2 Θ (m2 t8 (b0 0) (mC (.int 742938285))) (mC (.int 999959))) (m2 o9 (B4 (a8 (mC (.int 4)) (a8 (mC (.int 24)) b8))) (m1 b2A (m2 B7 (m2 Θ (b0 0) (mC (.int 7))) (mC (.int 1)))))))) (g7 (u4 5 (mC (.str (AD "abcdefghijklmnopqrstuvwxyz")))) n)) (sS N m l ζ ζ ζ ζ)=q:=λ {q n} h=>by
  refine(m7 e3).trans ?_;refine(m7 (e4 _)).trans ?_;refine(m7 (p:= .str (AD "abcdefghijklmnopqrstuvwxyz")) rfl).trans ?_;exact h
 clear e3 e4 hs ht;have dm:B2 m≤max (B2 m) (B2 l):=Nat.le_max_left _ _;have dl:B2 l≤max (B2 m) (B2 l):=Nat.le_max_right _ _;have sm:(m5 m).length≤max (m5 m).length (m5 l).length:=Nat.le_max_left _ _;have sl:(m5 l).length≤max (m5 m).length (m5 l).length:=Nat.le_max_right _ _;have tl:∀w∈a3h,w.length≤5:=by decide
 have dl2:=(b7K t).2;have hc:s=0∨s=1∨s=2∨s=3∨s=4∨s=5∨s=6∨s=7∨s=8:=by lia
 rcases hc with rfl|rfl|rfl|rfl|rfl|rfl|rfl|rfl|rfl
 ·obtain⟨j,hj⟩:∃j:Int,j=N % 7:=⟨_,rfl⟩;have tw:∃w∈a3h,o9 (.bo (.lst (a3h.map row))) (.v (.int j))=φ (row w):=by
   have:j=0∨j=1∨j=2∨j=3∨j=4∨j=5∨j=6:=by lia
   rcases this with h|h|h|h|h|h|h<;>rw [h]
   ·exact⟨[116,117,114,110],by decide,rfl⟩
   ·exact⟨[104,97,108,102],by decide,rfl⟩
   ·exact⟨[98,97,99,107],by decide,rfl⟩
   ·exact⟨[115,105,100,101],by decide,rfl⟩
   ·exact⟨[102,108,105,112],by decide,rfl⟩
   ·exact⟨[99,114,111,115,115],by decide,rfl⟩
   ·exact⟨[111,116,104,101,114],by decide,rfl⟩
  obtain⟨w,hw,ew⟩:=tw;refine go (r:= .turned w m) (by rw [G9];exact⟨hw,okm⟩) (by rw [B2];lia) (by have:=tl w hw;rw [m5];simp only [AQ,AO,AX];lia) (hd ?_)
  refine Q4 rfl ?_;refine(J8 (l:=a3h.map row) rfl).trans ?_;refine S6 ?_;rw [z8];exact c5s rfl (Y8 rfl (md rfl rfl (by lia)) (hj▸ew)) rfl
 ·obtain⟨a,ha,ea⟩:=b2d (N % 4).toNat (by lia)
  obtain⟨c,hc,ec⟩:=b2d (N / 4 % 26).toNat (by lia)
  rw [show(((N % 4).toNat:Nat):Int)=N % 4 by lia] at ea
  rw [show(((N / 4 % 26).toNat:Nat):Int)=N / 4 % 26 by lia] at ec
  refine go (r:= .dyed a c m) (by rw [G9];exact⟨ha,hc,okm⟩) (by rw [B2];lia) (by rw [m5];simp only [AQ,AO,AX];lia) (hd ?_)
  rw [d3 rfl];refine x4 rfl ?_;rw [z8];exact c5t rfl (Y8 rfl (md rfl rfl (by lia)) ea) (Y8 rfl (md (dv rfl rfl (by lia)) rfl (by lia)) ec) rfl
 ·refine go (r:= .across t m) (by rw [G9];exact⟨ht0,ht1,okm⟩) (by rw [B2];lia) (by rw [m5];simp only [AQ,AO,AX];lia) (hd ?_)
  rw [d3 rfl,d3 rfl];refine x4 rfl ?_;rw [z8]
  rfl
 ·refine go (r:= .down t m) (by rw [G9];exact⟨ht0,ht1,okm⟩) (by rw [B2];lia) (by rw [m5];simp only [AQ,AO,AX];lia) (hd ?_)
  rw [d3 rfl,d3 rfl,d3 rfl];refine x4 rfl ?_;rw [z8]
  rfl
 ·refine go (r:= .beside [m,l]) (by rw [G9];exact⟨by simp,by simp,a4K (by simp [okm,okl])⟩) (by have:=a4B (ps:=[m,l]) (k:=max (B2 m) (B2 l)) (by simp [dm,dl]);rw [B2];lia) (by rw [m5];simp only [a4r,m6,m5,AQ,AO,AX];lia) (hd ?_)
  rw [d3 rfl,d3 rfl,d3 rfl,d3 rfl];refine x4 rfl ?_;rw [z8]
  rfl
 ·refine go (r:= .above [m,l]) (by rw [G9];exact⟨by simp,by simp,a4K (by simp [okm,okl])⟩) (by have:=a4B (ps:=[m,l]) (k:=max (B2 m) (B2 l)) (by simp [dm,dl]);rw [B2];lia) (by rw [m5];simp only [a4r,m6,m5,AQ,AO,AX];lia) (hd ?_)
  rw [d3 rfl,d3 rfl,d3 rfl,d3 rfl,d3 rfl];refine x4 rfl ?_;rw [z8]
  rfl
 ·refine go (r:= .beside [m,.turned [115,105,100,101] m]) (by rw [G9];exact⟨by simp,by simp,a4K (by simp [okm,G9,a3h])⟩) (by have:=a4B (ps:=[m,.turned [115,105,100,101] m]) (k:=1+max (B2 m) (B2 l)) (by simp [B2];lia);rw [B2];lia) (by rw [m5];simp only [a4r,m6,m5,AQ,AO,AX];lia) (hd ?_)
  rw [d3 rfl,d3 rfl,d3 rfl,d3 rfl,d3 rfl,d3 rfl];refine x4 rfl ?_;rw [z8,a7W,a7W,z8]
  rfl
 ·refine go (r:= .above [m,.turned [102,108,105,112] m,m]) (by rw [G9];exact⟨by simp,by simp,a4K (by simp [okm,G9,a3h])⟩) (by have:=a4B (ps:=[m,.turned [102,108,105,112] m,m]) (k:=1+max (B2 m) (B2 l)) (by simp [B2];lia);rw [B2];lia) (by rw [m5];simp only [a4r,m6,m5,AQ,AO,AX];lia) (hd ?_)
  rw [d3 rfl,d3 rfl,d3 rfl,d3 rfl,d3 rfl,d3 rfl,d3 rfl];refine x4 rfl ?_;rw [z8,a7W,a7W,a7W,z8]
  rfl
 ·obtain⟨j,hj⟩:∃j:Int,j=N % 5:=⟨_,rfl⟩;have fin:∀{ps:List Mo},2≤ps.length→ps.length≤6→(∀p∈ps,p=m∨p=l)→gSl (.own [z8 l,z8 m,z8 l,z8 m,z8 l,z8 m]) ζ (ξ (2+j))=ξ (.own (a7W ps))→b8f m l (a0a [.int N,z8 m,z8 l]):=λ {ps} p1 p2 p3 p4=>by
   refine go (r:= .beside ps) (by rw [G9];exact⟨p1,p2,a4K λp hp=>by rcases p3 p hp with rfl|rfl<;>assumption⟩) (by have:=a4B (ps:=ps) (k:=max (B2 m) (B2 l)) (λp hp=>by rcases p3 p hp with rfl|rfl<;>assumption);rw [B2];lia) (by have g:=c1W (ps:=ps) (k:=max (m5 m).length (m5 l).length) (λp hp=>by rcases p3 p hp with rfl|rfl<;>assumption);have:=Nat.mul_le_mul_right (max (m5 m).length (m5 l).length+2) p2;rw [m5];simp only [AQ,AO,AX];lia) (hd ?_)
   rw [d3 rfl,d3 rfl,d3 rfl,d3 rfl,d3 rfl,d3 rfl,d3 rfl,d3 rfl];refine S6 ?_;rw [z8];refine c4U rfl ?_;rw [G1,Y8 (c5a rfl rfl) rfl (a6U ⟨⟨by lia,by lia⟩,by simp⟩),AM]
   show((m2 l8 (mC (.int 2)) (m2 Θ (b0 0) (mC (.int 5))) _).bind a8K).bind _=_;rw [adI rfl (md rfl rfl (by lia)),←hj]
   exact p4
  have:j=0∨j=1∨j=2∨j=3∨j=4:=by lia
  rcases this with h|h|h|h|h<;>rw [h] at fin
  ·exact fin (ps:=[l,m]) (by simp) (by simp) (by simp) rfl
  ·exact fin (ps:=[l,m,l]) (by simp) (by simp) (by simp) rfl
  ·exact fin (ps:=[l,m,l,m]) (by simp) (by simp) (by simp) rfl
  ·exact fin (ps:=[l,m,l,m,l]) (by simp) (by simp) (by simp) rfl
  ·exact fin (ps:=[l,m,l,m,l,m]) (by simp) (by simp) (by simp) rfl
theorem b9y{t:List Nat}{x:Nat}(h:sml t)(hx:lt1 x=true):sml (t++[x]):=λy hy=>by
 rcases Av.mp hy with h1|h1
 ·exact h y h1
 ·rw [List.mem_singleton.mp h1];exact hx
theorem b6P{N:Int}{R:List PV}{al:List Nat}(a1:1≤al.length)(a2:al.length≤26)(a3:sml al){w r:Nat}(hw:w≤3)(hr:r≤3)(hR:R.length≤100)(q5 q6 q7:Υ g0):∃(t:List Nat) (q6' q7':Υ g0),t.length=w∧sml t∧
 Y3 [φ (.int N),ξ (.own R),φ (row al),φ (.int (w:Nat)),φ (.int (r:Nat)),q5,q6,q7]=ξ (.nx [φ (.int N),ξ (.own (R++[row t])),φ (row al),φ (.int (w:Nat)),φ (.int (r:Nat)),φ (row t),q6',q7']):=by
 have e0:a34 (a8 (b0 3) b8) [φ (.int N),ξ (.own R),φ (row al),φ (.int (w:Nat)),φ (.int (r:Nat)),φ (row []),q6,q7]=ξ ((Aq w).map λk=> .int (k:Nat)):=a4I rfl (by lia)
 obtain⟨ρ',e4,t,q6',q7',h1,h2,rfl⟩:=Z6 (body:=Y2) (tg:=u8 6) (λj ρ=>∃(t:List Nat) (q6 q7:Υ g0),t.length=j∧sml t∧ρ=[φ (.int N),ξ (.own R),φ (row al),φ (.int (w:Nat)),φ (.int (r:Nat)),φ (row t),q6,q7])
  (ps:=(Aq w).map λk=> .int (k:Nat)) (ρ:=[φ (.int N),ξ (.own R),φ (row al),φ (.int (w:Nat)),φ (.int (r:Nat)),φ (row []),q6,q7])
  (by
   rintro j p hp ρ ⟨t,q6,q7,h1,h2,rfl⟩;obtain⟨rfl,hj⟩:=a6r hp;obtain⟨q7',x,hx,eb⟩:=b9b (N:=N) (R:=R) a1 a2 a3 (w:=w) hr (t:=t) (by lia) h2 (c:=j) (by lia) q7
   exact a3a (ρ1:=[φ (.int N),ξ (.own R),φ (row al),φ (.int (w:Nat)),φ (.int (r:Nat)),φ (row t),φ (.int (j:Nat)),q7]) rfl eb ⟨_,_,_,by rw [AQ,h1];rfl,b9y h2 hx,rfl⟩)
  ⟨[],q6,q7,rfl,(λx hx=>nomatch hx),rfl⟩
 rw [AY,BI] at h1
 refine⟨t,q6',q7',h1,h2, ?_⟩
 unfold Y3
 refine(m7 (p:=row []) (by rfl)).trans ?_
 refine(a3M e0 e4).trans ?_
 show(if R.length<AN then ξ (Fl.nx _) else ζ)=_
 rw [if_pos (by rw [sizeLine_eq];lia)]
 rfl
theorem b9c(N:Int):∃rows:List (List Nat),a6l rows=true∧(m6 [47] rows).length≤11∧a1J [.int N]=φ (z8 (.plain rows)):=by
 obtain⟨w,hw0,hw1,hw⟩:∃w:Nat,1≤w∧w≤3∧((w:Nat):Int)=1+N*16807 % 999979 % 3:=⟨(1+N*16807 % 999979 % 3).toNat,by lia,by lia,by lia⟩
 obtain⟨n,hn0,hn1,hn⟩:∃n:Nat,1≤n∧n≤3∧((n:Nat):Int)=1+N*48271 % 999983 % 3:=⟨(1+N*48271 % 999983 % 3).toNat,by lia,by lia,by lia⟩
 obtain⟨al,a1,a2,a3,ea⟩:=b4m N [ξ (.own []),ζ,ζ,ζ,ζ,ζ,ζ];have e3:m2 l8 (mC (.int 1)) (m2 Θ (m2 Θ (m2 t8 (b0 0) (mC (.int 16807))) (mC (.int 999979))) (mC (.int 3))) [φ (.int N),ξ (.own []),φ (row al),ζ,ζ,ζ,ζ,ζ]=φ (.int (w:Nat)):=by
  rw [hw]
  ext a6
 have e4:a34 (a8 (m2 l8 (mC (.int 1)) (m2 Θ (m2 Θ (m2 t8 (b0 0) (mC (.int 48271))) (mC (.int 999983))) (mC (.int 3)))) b8) [φ (.int N),ξ (.own []),φ (row al),φ (.int (w:Nat)),ζ,ζ,ζ,ζ]=ξ ((Aq n).map λk=> .int (k:Nat)):=by
  refine a4I ?_ (by lia)
  rw [hn]
  ext a6
 obtain⟨ρ',e5,rows,q4,q5,q6,q7,h1,h2,rfl⟩:=Z6 (body:=Y3) (tg:=u8 4) (λj ρ=>∃(rows:List (List Nat)) (q4 q5 q6 q7:Υ g0),rows.length=j∧(∀t∈rows,t.length=w∧sml t)∧ρ=[φ (.int N),ξ (.own (rows.map row)),φ (row al),φ (.int (w:Nat)),q4,q5,q6,q7])
  (ps:=(Aq n).map λk=> .int (k:Nat)) (ρ:=[φ (.int N),ξ (.own []),φ (row al),φ (.int (w:Nat)),ζ,ζ,ζ,ζ])
  (by
   rintro j p hp ρ ⟨rows,q4,q5,q6,q7,h1,h2,rfl⟩;obtain⟨rfl,hj⟩:=a6r hp;obtain⟨t,q6',q7',ht1,ht2,eb⟩:=b6P (N:=N) (R:=rows.map row) a1 a2 a3 (w:=w) hw1 (r:=j) (by lia) (by rw [AY];lia) q5 q6 q7
   refine a3a (ρ1:=[φ (.int N),ξ (.own (rows.map row)),φ (row al),φ (.int (w:Nat)),φ (.int (j:Nat)),q5,q6,q7]) rfl eb ⟨rows++[t],_,_,_,_,by rw [AQ,h1];rfl,λx hx=> ?_,by rw [Ax];rfl⟩
   rcases Av.mp hx with h|h
   ·exact h2 x h
   ·rw [List.mem_singleton.mp h];exact⟨ht1,ht2⟩)
  ⟨[],ζ,ζ,ζ,ζ,rfl,(λ_ h=>by cases h),rfl⟩
 rw [AY,BI] at h1;have okc:a6l rows=true:=by
  cases rows with
  |nil=>rw [AX] at h1;lia
  |cons r0 R=>
   have h0:=h2 r0 AZ;have hs:∀t∈r0::R,t.all lt1=true:=λt ht=>List.all_eq_true.mpr (h2 t ht).2;show(decide ((r0::R).length≤24)&&(rOk r0 &&(r0::R).all (okR r0)))=true;unfold rOk;rw [hs r0 AZ,h1,h0.1,decide_eq_true (by lia:n≤24),decide_eq_true (by lia:1≤w),decide_eq_true (by lia:w≤24)]
   show(r0::R).all (okR r0)=true;refine List.all_eq_true.mpr λt ht=> ?_;unfold okR;rw [(h2 t ht).1,h0.1,hs t ht];simp
 refine⟨rows,okc, ?_, ?_⟩
 ·have hg:=a3T 47 rows (by intro e;rw [e] at h1;simp at h1;lia)
  have hs:(rows.map (·.length)).sum≤rows.length*3:=by
   have:∀l:List (List Nat),(∀t∈l,t.length=w∧sml t)→(l.map (·.length)).sum≤l.length*3:=λl=>by
    induction l with
    |nil=>intro _;simp
    |cons a l ih=>
     intro h;have:=ih λt ht=>h t (Af _ ht);have:=(h a AZ).1;simp only [AT,List.sum_cons,AO]
     lia
   exact this rows h2
  lia
 ·refine Q5 (n:=7) ?_;show a3A [φ (.int N),ζ,ζ,ζ,ζ,ζ,ζ,ζ]=_;unfold a3A;refine(J8 (l:=[]) (by rfl)).trans ?_
  refine(m7 ea).trans ?_;refine(m7 e3).trans ?_;refine(a3M e4 e5).trans ?_;refine S6 ?_;rw [z8];have et:m1 a3Q (b0 1) [φ (.int N),ξ (.own (rows.map row)),φ (row al),φ (.int (w:Nat)),q4,q5,q6,q7]=φ (.tuple (rows.map row)):=by
   refine one (r:= .bor (rows.map row)) rfl ?_
   rfl
  unfold C3 a8;rw [et]
  rfl
def b8u(m:Mo):Prop:=G9 m∧B2 m=1∧(m5 m).length≤13
theorem b4j{rows:List (List Nat)}(h1:a6l rows=true)(h2:(m6 [47] rows).length≤11):b8u (.plain rows):=by
 refine⟨by rw [G9];exact h1,by rw [B2], ?_⟩
 rw [m5];simp only [AQ,AO,AX];lia
theorem a6Y{w:List Nat}(h:w∈a0E):b8u (.named w):=by
 have l:=(a1H h).2.2.1;refine⟨by rw [G9];exact h,by rw [B2],by rw [m5];lia⟩
theorem b5e{j:Int}(h0:0≤j)(h1:j<5):∃w∈a0E,o9 (.v (.list (a0E.map row))) (.v (.int j))=φ (row w):=by
 have:j=0∨j=1∨j=2∨j=3∨j=4:=by lia
 rcases this with h|h|h|h|h<;>rw [h]
 ·exact⟨_,by decide,rfl⟩
 ·exact⟨[115,116,97,121],by decide,rfl⟩
 ·exact⟨[108,101,116],by decide,rfl⟩
 ·exact⟨[107,110,111,116,115],by decide,rfl⟩
 ·exact⟨[122,122],by decide,rfl⟩
theorem b5u(N:Int):∃m,b8u m∧a1d [.int N,.list (a0E.map row)]=φ (z8 m):=by
 have e1:x9 (m2 gNe (b0 1) (B4 b8)) [φ (.int N),φ (.list (a0E.map row))]=ξ true:=by rfl
 have e2:m2 Θ (m2 Θ (m2 t8 (b0 0) (mC (.int 40692))) (mC (.int 999961))) (mC (.int 5)) [φ (.int N),φ (.list (a0E.map row))]=φ (.int (N*40692 % 999961 % 5)):=md (md (ml rfl (by lia)) rfl (by lia)) rfl (by lia)
 have e3:x9 (m2 a4R (m2 Θ (m2 Θ (m2 t8 (b0 0) (mC (.int 40692))) (mC (.int 999961))) (mC (.int 5))) (mC (.int 3))) [φ (.int N),φ (.list (a0E.map row))]=ξ (decide (N*40692 % 999961 % 5<3)):=W6 e2 (q:= .v (.int 3)) rfl rfl;have e4:Y9 (x9 (m2 gNe (b0 1) (B4 b8))) (x9 (m2 a4R (m2 Θ (m2 Θ (m2 t8 (b0 0) (mC (.int 40692))) (mC (.int 999961))) (mC (.int 5))) (mC (.int 3)))) [φ (.int N),φ (.list (a0E.map row))]=ξ (decide (N*40692 % 999961 % 5<3)):=by
  unfold Y9;rw [e1];exact e3
 by_cases hc:N*40692 % 999961 % 5<3
 ·rw [decide_eq_true hc] at e4;obtain⟨w,hw,ew⟩:=b5e (j:=N*39373 % 999953 % 5) (by lia) (by lia)
  refine⟨.named w,a6Y hw,Q5 (n:=0) ?_⟩;show a06 [φ (.int N),φ (.list (a0E.map row))]=_;unfold a06;refine x4 e4 ?_;rw [z8];have ei:=Y8 (g:=o9) (x:=b0 1) (r:= .v (.list (a0E.map row))) (ρ:=[φ (.int N),φ (.list (a0E.map row))]) rfl (md (b:=m1 x8 (b0 1)) (k:=5) (md (b:=mC (.int 999953)) (k:=999953) (ml (a:=b0 0) (x:=N) (k:=39373) rfl (by lia)) rfl (by lia)) rfl (by lia)) ew
  unfold C3 a8;rw [ei]
  rfl
 ·rw [decide_eq_false hc] at e4;obtain⟨rows,h1,h2,h3⟩:=b9c N;refine⟨.plain rows,b4j h1 h2,Q5 (n:=0) ?_⟩;show a06 [φ (.int N),φ (.list (a0E.map row))]=_;unfold a06;rw [d3 e4];exact S6 ((V7 rfl).trans h3)
def pr(a b:Int):PV:= .tuple [.int a,.int b]
def sz(p:PV):Prop:=(∃a b:Int,p=pr a b)∨∃z y:Str,p= .tuple [.str z,.str y]
theorem b4t(a b:Int):∃k:Int,a3O (.v (pr a b))=φ (.int k):=⟨_,rfl⟩
theorem b8N(a b:Int):gNe (.v (.int a)) (.v (.int b))=φ (.bool (!decide (a=b))):=by
 have:gNe (.v (.int a)) (.v (.int b))=φ (.bool (!η (.int a) (.int b))):=rfl;rw [this];have:η (.int a) (.int b)=decide (a=b):=by
  by_cases h:a=b<;>simp [η,h]
 rw [this]
theorem c2J{it:MI}{tg:PV→b9→Υ b9}{body n:MS}{ρ:b9}{ps:List PV}{r:g0}(h1:it ρ=ξ ps)(h2:a1z body tg ps ρ=ξ (.rt r)):g7 (a2s it tg body) n ρ=ξ (.rt r):=by
 unfold g7 a2s;rw [h1,AM,h2]
 rfl
theorem b4S{m n:MS}{ρ:b9}{r:g0}(h:m ρ=ξ (.rt r)):g7 m n ρ=ξ (.rt r):=by
 unfold g7;rw [h]
 rfl
theorem a7g{m n:MS}{ρ ρ':b9}(h:m ρ=ξ (.nx ρ')):g7 m n ρ=n ρ':=by
 unfold g7;rw [h]
 rfl
theorem at0{x:g0}{p:PV}{ds:List PV}(h:x.rd= .list (p::ds)∨x.rd= .tuple (p::ds)):o9 x (.v (.int 0))=φ p:=by
 have e:L2.atI (p::ds) 0=ξ p:=(b2f (k:=0)).trans rfl;unfold o9;rcases h with h|h<;>rw [h]<;>show(L2.atI (p::ds) 0).map g0.v=_<;>rw [e]<;>rfl
def a3m(o:Υ Fl):Prop:=∃p,o=ξ (.rt (.v p))∧sz p
theorem b1j(z y:Str):a3m (ξ (.rt (.v (.tuple [.str z,.str y])))):=⟨_,rfl,.inr ⟨_,_,rfl⟩⟩
def a0U(w:PV)(s1 q3:Υ g0)(a b:Int):b9:=[φ w,s1,φ (pr a b),q3]
def b5R(w:PV)(s1 q3:Υ g0)(o:Υ Fl):Prop:=a3m o∨∃a b,o=ξ (.nx (a0U w s1 q3 a b))
theorem b3v{w:PV}{s1 q3:Υ g0}(a b:Int):b5R w s1 q3 (n5 (x9 (m2 (gI λi j=> .bool (decide (j<i))) (m1 a3O (b0 2)) (mC (.int 24)))) (j4 (C3 (a8 (mC (.str (AD "wide"))) (a8 (mC (.str (AD ""))) b8)))) j1 (a0U w s1 q3 a b)):=by
 obtain⟨k,hk⟩:=b4t a b;have e:x9 (m2 (gI λi j=> .bool (decide (j<i))) (m1 a3O (b0 2)) (mC (.int 24))) (a0U w s1 q3 a b)=ξ (decide ((24:Int)<k)):=W6 (r:= .v (.int k)) (one rfl hk) (q:= .v (.int 24)) rfl rfl
 by_cases h:(24:Int)<k
 ·rw [decide_eq_true h] at e;rw [a8X e];exact .inl (b1j _ _)
 ·rw [decide_eq_false h] at e;rw [a35 e];exact .inr ⟨a,b,rfl⟩
theorem b6t{w:String}(hw:w="beside"∨w="above"){s1:Υ g0}(a b c d:Int):b5R (.str (AD w)) s1 (φ (pr c d)) (D5 (a0U (.str (AD w)) s1 (φ (pr c d)) a b)):=by
 unfold D5;rcases hw with rfl|rfl
 ·have t0:x9 (m2 B7 (b0 0) (mC (.str (AD "beside")))) (a0U (.str (AD "beside")) s1 (φ (pr c d)) a b)=ξ true:=rfl;have t1:x9 (m2 gNe (m2 o9 (b0 3) (mC (.int 0))) (m2 o9 (b0 2) (mC (.int 0)))) (a0U (.str (AD "beside")) s1 (φ (pr c d)) a b)=ξ (!decide (c=a)):=W6 (r:= .v (.int c)) rfl (q:= .v (.int a)) rfl (b8N c a)
  by_cases h:c=a
  ·rw [decide_eq_true h] at t1;refine Eq.mpr (congrArg _ (a7g (ρ':=a0U (.str (AD "beside")) s1 (φ (pr c d)) a (b+d)) ?_)) (b3v a (b+d));rw [a8X t0,d3 t1];exact a6J rfl
  ·rw [decide_eq_false h] at t1;refine .inl ?_;rw [b4S (r:= .v (.tuple [.str (AD "misfit"),.str (AD "")])) (by rw [a8X t0];exact x4 t1 rfl)]
   exact b1j _ _
 ·have t0:x9 (m2 B7 (b0 0) (mC (.str (AD "beside")))) (a0U (.str (AD "above")) s1 (φ (pr c d)) a b)=ξ false:=rfl;have t1:x9 (m2 gNe (m2 o9 (b0 3) (mC (.int 1))) (m2 o9 (b0 2) (mC (.int 1)))) (a0U (.str (AD "above")) s1 (φ (pr c d)) a b)=ξ (!decide (d=b)):=W6 (r:= .v (.int d)) rfl (q:= .v (.int b)) rfl (b8N d b)
  by_cases h:d=b
  ·rw [decide_eq_true h] at t1;refine Eq.mpr (congrArg _ (a7g (ρ':=a0U (.str (AD "above")) s1 (φ (pr c d)) (a+c) b) ?_)) (b3v (a+c) b);rw [a35 t0,d3 t1];exact a6J rfl
  ·rw [decide_eq_false h] at t1;refine .inl ?_;rw [b4S (r:= .v (.tuple [.str (AD "misfit"),.str (AD "")])) (by rw [a35 t0];exact x4 t1 rfl)]
   exact b1j _ _
theorem b0y{w:String}(hw:w="beside"∨w="above"){s1:Υ g0}:∀(ds:List PV) (_:∀p∈ds,∃a b,p=pr a b) (a b:Int) (q3:Υ g0),a3m (a1z D5 (u8 3) ds (a0U (.str (AD w)) s1 q3 a b))∨∃a' b' q3',a1z D5 (u8 3) ds (a0U (.str (AD w)) s1 q3 a b)=ξ (.nx (a0U (.str (AD w)) s1 q3' a' b'))
 |[],_,a,b,q3=> .inr ⟨a,b,q3,rfl⟩
 |p::ds,h,a,b,q3=>by
  obtain⟨c,d,rfl⟩:=h p AZ;have st:=b6t hw (s1:=s1) a b c d;have e:a1z D5 (u8 3) (pr c d::ds) (a0U (.str (AD w)) s1 q3 a b)=(D5 (a0U (.str (AD w)) s1 (φ (pr c d)) a b)).bind (λfl=>match fl with
   | .nx ρ2=>a1z D5 (u8 3) ds ρ2
   | .ct ρ2=>a1z D5 (u8 3) ds ρ2
   | .bk ρ2=>ξ (.nx ρ2)
   | .rt r=>ξ (.rt r)):=by
   rw [a1z]
   rfl
  rcases st with⟨p,e1,e2⟩|⟨a',b',e1⟩
  ·refine .inl ⟨p, ?_,e2⟩;rw [e,e1]
   rfl
  ·rw [e,e1];exact b0y hw ds (λq hq=>h q (Af _ hq)) a' b' _
theorem b3k{n:Nat}{b:MS}{ps:List PV}(h:a3m (b (ps.map (λp=>ξ (g0.v p))++AU n ζ))):∃p,m8 n b ps=φ p∧sz p:=by
 obtain⟨p,e,s⟩:=h;exact⟨p,Q5 e,s⟩
theorem b8w{w:String}(hw:w="beside"∨w="above"){ds:List PV}(h:∀p∈ds,∃a b,p=pr a b)(hn:ds≠[]):∃p,a2O [.str (AD w),.list ds]=φ p∧sz p:=by
 refine b3k (n:=2) ?_;show a3m (a5j [φ (.str (AD w)),φ (.list ds),ζ,ζ]);unfold a5j;cases ds with
 |nil=>exact absurd rfl hn
 |cons d ds=>
  obtain⟨a,b,rfl⟩:=h d AZ;rw [m7 (p:=pr a b) (Y8 (r:= .v (.list (pr a b::ds))) (q:= .v (.int 0)) rfl rfl (at0 (.inl rfl)))];have e0:b1s (E3 (b0 1) (C0 (mC (.int 1))) N5) (a0U (.str (AD w)) (φ (.list (pr a b::ds))) ζ a b)=ξ ds:=by
   show ξ (cut (pr a b::ds) (ξ 1) ζ)=ξ ds;unfold cut HT.sIx;simp
   try lia
  rcases b0y hw (s1:=φ (.list (pr a b::ds))) ds (λq hq=>h q (Af _ hq)) a b ζ with⟨p,e1,s⟩|⟨a',b',q3',e1⟩
  ·exact⟨p,c2J e0 e1,s⟩
  ·exact⟨pr a' b',(a3M e0 e1).trans rfl,.inl ⟨_,_,rfl⟩⟩
def isS:PV→Bool
 | .tuple (.str _::_)=>true
 |_=>false
theorem c3P{x y:M}{ρ:b9}{p q:PV}(h1:x ρ=φ p)(h2:y ρ=φ q):C3 (a8 x (a8 y b8)) ρ=φ (.tuple [p,q]):=by
 unfold C3 a8;rw [h1,h2]
 rfl
theorem a4G{p:PV}(h:sz p){x:M}{ρ:b9}(hx:x ρ=φ p):m1 (F8 "str") (m2 o9 x (mC (.int 0))) ρ=φ (.bool (isS p)):=by
 rcases h with⟨a,b,rfl⟩|⟨z,y,rfl⟩
 ·exact one (r:= .v (.int a)) (Y8 (q:= .v (.int 0)) hx rfl rfl) rfl
 ·exact one (r:= .v (.str z)) (Y8 (q:= .v (.int 0)) hx rfl rfl) rfl
theorem c3K{l:List PV}(h:∀p∈l,sz p)(k:Nat):K6 l (k+2)=true:=b7P λp hp=>by
 rcases h p hp with⟨a,b,rfl⟩|⟨z,y,rfl⟩<;>rfl
theorem c29{l:List PV}(h:∀p∈l,sz p):gNe (.bor l) (.own [])=φ (.bool (!l.isEmpty)):=by
 have e:gNe (.bor l) (.own [])=if K6 l 49=true∧K6 [] 49=true then φ (.bool (!η (.list l) (.list []))) else ζ:=rfl
 rw [e,if_pos ⟨c3K h 47,rfl⟩];cases l<;>rfl
def c1x:Υ g0→PV
 |some (.v q)=>q
 |_=> .none
section
variable {R:RF}
theorem a8S{m:Mo}{ps:List Mo}{w:String}(hw:w="beside"∨w="above")(hp0:ps≠[])(hp:ps.length≤6)(h:∀p∈ps,∃q,R [z8 p,.dict []]=φ q∧sz q){ww:PV}:
 a3m (g7 (u4 3 (O3 1 (A3 (m2 o9 (b0 0) (mC (.int 1)))) (u8 6) W3 (a0q R)))
 (g7 (u4 4 (O3 1 (A3 (b0 3)) (u8 6) (V2 (m1 (F8 "str") (m2 o9 (b0 6) (mC (.int 0))))) (a17 R)))
 (g7 (n5 (x9 (m2 gNe (b0 4) (B4 b8))) (j4 (m2 o9 (b0 4) (mC (.int 0)))) j1)
 (a2t 3 (j4 (i7 a2O (a8 (b0 2) (a8 (b0 3) b8))))))) [φ (.tuple [ww,.list (ps.map z8)]),φ (.dict []),φ (.str (AD w)),ζ,ζ,ζ]):=by
 have hf:∀p∈ps,R [z8 p,.dict []]=φ (c1x (R [z8 p,.dict []]))∧sz (c1x (R [z8 p,.dict []])):=λp hp=>by
  obtain⟨q,e,s⟩:=h p hp;rw [e];exact⟨rfl,s⟩
 have c1:=W2 (ι:=z8) (f:=λp=>c1x (R [z8 p,.dict []])) (k:=1) (it:=A3 (m2 o9 (b0 0) (mC (.int 1)))) (tg:=u8 6) (elt:=a0q R) (ρ:=[φ (.tuple [ww,.list (ps.map z8)]),φ (.dict []),φ (.str (AD w)),ζ,ζ,ζ]) ps rfl (by lia) λp hp=>by
  refine⟨[φ (.tuple [ww,.list (ps.map z8)]),φ (.dict []),φ (.str (AD w)),ζ,ζ,ζ,φ (z8 p)],rfl, ?_⟩;unfold a0q;rw [(S9 rfl rfl).trans (hf p hp).1]
  rfl
 obtain⟨ds,hds⟩:∃ds,ds=ps.map λp=>c1x (R [z8 p,.dict []]):=⟨_,rfl⟩
 rw [←hds] at c1
 have dl:ds.length≤6:=by rw [hds,AY];exact hp
 have dn:ds≠[]:=by rw [hds];intro e;exact hp0 (List.map_eq_nil_iff.mp e)
 have dz:∀q∈ds,sz q:=λq hq=>by
  rw [hds] at hq;obtain⟨p,hp,rfl⟩:=BA.mp hq;exact(hf p hp).2
 have c2:=b1r (ι:=id) (f:=id) (q:=isS) (k:=1) (it:=A3 (b0 3)) (c:=V2 (m1 (F8 "str") (m2 o9 (b0 6) (mC (.int 0))))) (tg:=u8 6) (elt:=a17 R) (ρ:=[φ (.tuple [ww,.list (ps.map z8)]),φ (.dict []),φ (.str (AD w)),ξ (.own ds),ζ,ζ]) ds (by rw [List.map_id];rfl) (by lia) λp hp=>by
  refine⟨[φ (.tuple [ww,.list (ps.map z8)]),φ (.dict []),φ (.str (AD w)),ξ (.own ds),ζ,ζ,φ p],rfl,a7V (a4G (dz p hp) rfl),λ_=>rfl⟩
 rw [List.map_id] at c2
 rw [J8 c1]
 refine Eq.mpr (congrArg a3m (J8 c2)) ?_
 have bz:∀q∈ds.filter isS,sz q:=λq hq=>dz q (List.mem_filter.mp hq).1
 have t1:x9 (m2 gNe (b0 4) (B4 b8)) [φ (.tuple [ww,.list (ps.map z8)]),φ (.dict []),φ (.str (AD w)),ξ (.own ds),ξ (.own (ds.filter isS)),ζ]=ξ (!(ds.filter isS).isEmpty):=W6 (r:= .bor (ds.filter isS)) rfl (q:= .own []) rfl (c29 bz)
 cases eb:ds.filter isS with
 |nil=>
  rw [eb] at t1
  have dp:∀p∈ds,∃a b,p=pr a b:=λp hp=>by
   rcases dz p hp with hz|⟨z,y,rfl⟩
   ·exact hz
   ·have:PyData.tuple [.str z,.str y]∈ds.filter isS:=List.mem_filter.mpr ⟨hp,rfl⟩;rw [eb] at this;cases this
  obtain⟨p,e1,s⟩:=b8w hw dp dn
  refine⟨p, ?_,s⟩
  refine(d3 t1).trans ?_
  show j4 _ [φ (.tuple [ww,.list (ps.map z8)]),φ (.dict []),φ (.str (AD w)),φ (.list ds),ξ (.own []),ζ]=_
  exact S6 ((S9 rfl rfl).trans e1)
 |cons b bs=>
  rw [eb] at t1
  exact⟨b,x4 t1 (Y8 (r:= .bor (b::bs)) (q:= .v (.int 0)) rfl rfl (at0 (.inl rfl))),bz b (by rw [eb];exact AZ)⟩
theorem c1z{w:List Nat}(h:w∈a3h):∃b:Bool,a7P false (.v (row w)) (.own [.str (AD "turn"),.str (AD "back"),.str (AD "cross"),.str (AD "other")])=φ (.bool b):=by
 have h2:w=[116,117,114,110]∨w=[104,97,108,102]∨w=[98,97,99,107]∨w=[115,105,100,101]∨w=[102,108,105,112]∨w=[99,114,111,115,115]∨w=[111,116,104,101,114]:=by
  simpa [a3h] using h
 rcases h2 with rfl|rfl|rfl|rfl|rfl|rfl|rfl<;>exact⟨_,rfl⟩
theorem b2T{s0 s1 s2 s3 s4:Υ g0}(a b:Int):a3m (g7 (n5 (x9 (m2 (gI λi j=> .bool (decide (j<i))) (m1 a3O (b0 5)) (mC (.int 24)))) (j4 (C3 (a8 (mC (.str (AD "wide"))) (a8 (mC (.str (AD ""))) b8)))) j1) (Y4 5) [s0,s1,s2,s3,s4,φ (pr a b)]):=by
 obtain⟨k,hk⟩:=b4t a b;have e:x9 (m2 (gI λi j=> .bool (decide (j<i))) (m1 a3O (b0 5)) (mC (.int 24))) [s0,s1,s2,s3,s4,φ (pr a b)]=ξ (decide ((24:Int)<k)):=W6 (r:= .v (.int k)) (one rfl hk) (q:= .v (.int 24)) rfl rfl
 by_cases h:(24:Int)<k
 ·rw [decide_eq_true h] at e;rw [x4 e rfl];exact b1j _ _
 ·rw [decide_eq_false h] at e;rw [d3 e];exact⟨_,rfl,.inl ⟨a,b,rfl⟩⟩
theorem a6q{c:MT}{i:Nat}{n:MS}{ρ:b9}{p:PV}(hc:c ρ=ξ true)(hx:ρ[i]?=ξ (φ p)):g7 (n5 c (Y4 i) j1) n ρ=ξ (.rt (.v p)):=by
 refine Q4 hc ?_;unfold Y4;rw [hx]
theorem b6L{a b:MT}{ρ:b9}{x y:Bool}(h1:a ρ=ξ x)(h2:b ρ=ξ y):K5 a b ρ=ξ (x||y):=by
 unfold K5;rw [h1];cases x
 ·exact h2
 ·rfl
theorem b4p(m:Mo)(ok:G9 m)(ih:∀p,G9 p→B2 p<B2 m→∃q,R [z8 p,.dict []]=φ q∧sz q):∃q,m8 4 (a07 R) [z8 m,.dict []]=φ q∧sz q:=by
 refine b3k ?_;show a3m (a07 R [φ (z8 m),φ (.dict []),ζ,ζ,ζ,ζ]);unfold a07;cases m with
 |plain rows=>
  ext m
  cases rows with
  |nil=>cases ok
  |cons r rows=>
   rw [z8,m7 (p:= .str (AD "plain")) rfl];have hr:r.length≤10000:=by
    unfold a6l rOk at ok;simp only [χ,decide_eq_true_eq] at ok
    lia
   exact⟨pr _ _,x4 rfl (c3P rfl (one (r:= .v (row r)) (Y8 (r:= .v (.tuple ((r::rows).map row))) (q:= .v (.int 0)) rfl rfl (at0 (.inr rfl))) (a0F hr))),.inl ⟨_,_,rfl⟩⟩
 |named w=>
  rw [z8,m7 (p:= .str (AD "name")) rfl,d3 rfl];exact⟨_,x4 rfl rfl,.inr ⟨_,_,rfl⟩⟩
 |beside ps=>
  ext m
  have d:B2 (.beside ps)=1+a5s ps:=by rw [B2]
  rw [z8,a1v,m7 (p:= .str (AD "beside")) rfl,d3 rfl,d3 rfl];obtain⟨q,e,s⟩:=a8S (R:=R) (m:= .beside ps) (w:="beside") (ww:= .str (AD "beside")) (.inl rfl) (ps:=ps) (by intro e;rw [e] at ok;simp at ok) ok.2.1 λp hp=>ih p (O4 ok.2.2 hp) (by have:=O1 hp;lia)
  exact⟨q,Q4 rfl e,s⟩
 |above ps=>
  ext m
  have d:B2 (.above ps)=1+a5s ps:=by rw [B2]
  rw [z8,a1v,m7 (p:= .str (AD "above")) rfl,d3 rfl,d3 rfl];obtain⟨q,e,s⟩:=a8S (R:=R) (m:= .above ps) (w:="above") (ww:= .str (AD "above")) (.inr rfl) (ps:=ps) (by intro e;rw [e] at ok;simp at ok) ok.2.1 λp hp=>ih p (O4 ok.2.2 hp) (by have:=O1 hp;lia)
  exact⟨q,Q4 rfl e,s⟩
 |across k p=>
  ext m
  obtain⟨q,e,s⟩:=ih p ok.2.2 (by rw [B2];lia)
  rw [z8,m7 (p:= .str (AD "across")) rfl,d3 rfl,d3 rfl,d3 rfl,m7 ((S9 rfl rfl).trans e)];have t1:=b6L (b:=x9 (m2 B7 (b0 2) (mC (.str (AD "dye"))))) (y:=false) (a7V (a4G (x:=b0 5) (ρ:=[φ (.tuple [.str (AD "across"),.int (k:Nat),z8 p]),φ (.dict []),φ (.str (AD "across")),ζ,ζ,φ q]) s rfl)) rfl;rcases s with⟨a,b,rfl⟩|⟨z,y,rfl⟩
  ·refine Eq.mpr (congrArg a3m ((d3 t1).trans (d3 rfl))) ?_;refine Eq.mpr (congrArg a3m (a7g (ρ':=[φ (.tuple [.str (AD "across"),.int (k:Nat),z8 p]),φ (.dict []),φ (.str (AD "across")),ζ,ζ,φ (pr a (b*(k:Nat)))]) ?_)) (b2T _ _);rw [a8X rfl];exact a6J (p:=pr a (b*(k:Nat))) (c3P (ρ:=[φ (.tuple [.str (AD "across"),.int (k:Nat),z8 p]),φ (.dict []),φ (.str (AD "across")),ζ,ζ,φ (pr a b)]) rfl (mlv (a:=m2 o9 (b0 5) (mC (.int 1))) (b:=m2 o9 (b0 0) (mC (.int 1))) (x:=b) (k:=(k:Nat)) rfl rfl (by lia)))
  ·exact⟨_,a6q t1 rfl,.inr ⟨_,_,rfl⟩⟩
 |down k p=>
  ext m
  obtain⟨q,e,s⟩:=ih p ok.2.2 (by rw [B2];lia)
  rw [z8,m7 (p:= .str (AD "down")) rfl,d3 rfl,d3 rfl,d3 rfl,m7 ((S9 rfl rfl).trans e)];have t1:=b6L (b:=x9 (m2 B7 (b0 2) (mC (.str (AD "dye"))))) (y:=false) (a7V (a4G (x:=b0 5) (ρ:=[φ (.tuple [.str (AD "down"),.int (k:Nat),z8 p]),φ (.dict []),φ (.str (AD "down")),ζ,ζ,φ q]) s rfl)) rfl;rcases s with⟨a,b,rfl⟩|⟨z,y,rfl⟩
  ·refine Eq.mpr (congrArg a3m ((d3 t1).trans (d3 rfl))) ?_;refine Eq.mpr (congrArg a3m (a7g (ρ':=[φ (.tuple [.str (AD "down"),.int (k:Nat),z8 p]),φ (.dict []),φ (.str (AD "down")),ζ,ζ,φ (pr (a*(k:Nat)) b)]) ?_)) (b2T _ _);rw [a35 rfl];exact a6J (p:=pr (a*(k:Nat)) b) (c3P (ρ:=[φ (.tuple [.str (AD "down"),.int (k:Nat),z8 p]),φ (.dict []),φ (.str (AD "down")),ζ,ζ,φ (pr a b)]) (mlv (a:=m2 o9 (b0 5) (mC (.int 0))) (b:=m2 o9 (b0 0) (mC (.int 1))) (x:=a) (k:=(k:Nat)) rfl rfl (by lia)) rfl)
  ·exact⟨_,a6q t1 rfl,.inr ⟨_,_,rfl⟩⟩
 |turned w p=>
  ext m
  obtain⟨q,e,s⟩:=ih p ok.2 (by rw [B2];lia)
  rw [z8,m7 (p:= .str (AD "turned")) rfl,d3 rfl,d3 rfl,d3 rfl,m7 ((S9 rfl rfl).trans e)];have t1:=b6L (b:=x9 (m2 B7 (b0 2) (mC (.str (AD "dye"))))) (y:=false) (a7V (a4G (x:=b0 5) (ρ:=[φ (.tuple [.str (AD "turned"),row w,z8 p]),φ (.dict []),φ (.str (AD "turned")),ζ,ζ,φ q]) s rfl)) rfl;rcases s with⟨a,b,rfl⟩|⟨z,y,rfl⟩
  ·refine Eq.mpr (congrArg a3m (d3 t1)) ?_;obtain⟨v,hv⟩:=c1z ok.1;have t2:x9 (m2 (a7P false) (m2 o9 (b0 0) (mC (.int 1))) (B4 (a8 (mC (.str (AD "turn"))) (a8 (mC (.str (AD "back"))) (a8 (mC (.str (AD "cross"))) (a8 (mC (.str (AD "other"))) b8)))))) [φ (.tuple [.str (AD "turned"),row w,z8 p]),φ (.dict []),φ (.str (AD "turned")),ζ,ζ,φ (pr a b)]=ξ v:=W6 (r:= .v (row w)) rfl (q:= .own [.str (AD "turn"),.str (AD "back"),.str (AD "cross"),.str (AD "other")]) rfl hv;cases v with
   |true=>exact⟨pr b a,Q4 rfl (x4 t2 rfl),.inl ⟨_,_,rfl⟩⟩
   |false=>exact⟨pr a b,Q4 rfl ((d3 t2).trans rfl),.inl ⟨_,_,rfl⟩⟩
  ·exact⟨_,a6q t1 rfl,.inr ⟨_,_,rfl⟩⟩
 |dyed x y p=>
  ext m
  obtain⟨q,e,s⟩:=ih p ok.2.2 (by rw [B2];lia)
  rw [z8,m7 (p:= .str (AD "dye")) rfl,d3 rfl,d3 rfl,d3 rfl,m7 ((S9 rfl rfl).trans e)];have t1:=b6L (b:=x9 (m2 B7 (b0 2) (mC (.str (AD "dye"))))) (y:=true) (a7V (a4G (x:=b0 5) (ρ:=[φ (.tuple [.str (AD "dye"),row [x],row [y],z8 p]),φ (.dict []),φ (.str (AD "dye")),ζ,ζ,φ q]) s rfl)) rfl;rw [Bool.or_true] at t1;exact⟨q,a6q t1 rfl,s⟩
end
theorem b2R:∀(n:Nat) (m:Mo),G9 m→B2 m≤n→∃q,a3U n [z8 m,.dict []]=φ q∧sz q
 |0,m,_,h=>by have:=a4A m;lia
 |n+1,m,ok,h=>b4p m ok λp okp hp=>b2R n p okp (by lia)
theorem c0f{q:PV}(s:sz q){ρ:b9}(h8:ρ[8]?=ξ (φ q))(h3:ρ[3]?=ξ (φ (.int 0))):∃b:Bool,a61 (b8C (m1 (F8 "str") (m2 o9 (b0 8) (mC (.int 0))))) (m2 X6 (m1 a3O (b0 8)) (b0 3)) ρ=φ (.bool b):=by
 have v8:b0 8 ρ=φ q:=by unfold b0;rw [h8]
 have v3:b0 3 ρ=φ (.int 0):=by unfold b0;rw [h3]
 have e1:=a4G s v8;have e2:b8C (m1 (F8 "str") (m2 o9 (b0 8) (mC (.int 0)))) ρ=φ (.bool (!isS q)):=by
  unfold b8C;rw [e1]
  rfl
 unfold a61;rw [e2];rcases s with⟨a,b,rfl⟩|⟨z,y,rfl⟩
 ·obtain⟨k,hk⟩:=b4t a b;exact⟨decide (k≤0),Y8 (one v8 hk) v3 rfl⟩
 ·exact⟨false,rfl⟩
def V0(N:Int)(m:Mo)(q5 q6 q7 q8 q9:Υ g0):b9:=[φ (.int N),φ (.dict []),φ (.list (a0E.map row)),φ (.int 0),φ (z8 m),q5,q6,q7,q8,q9]
theorem b7r{a b:MT}{ρ:b9}{y:Bool}(h1:a ρ=ξ true)(h2:b ρ=ξ y):Y9 a b ρ=ξ y:=by
 unfold Y9;rw [h1];exact h2
theorem b4d{N:Int}{m:Mo}(ok:G9 m){d:Nat}(hd:B2 m≤d)(hd2:1≤d∧d≤10)(hl:(m5 m).length≤380){j:Nat}(hj:j≤3)(q6 q7 q8 q9:Υ g0):∃m' q6' q7' q8' q9',G9 m'∧B2 m'≤d+2∧(m5 m').length≤380∧
 Q2 (V0 N m (φ (.int (j:Nat))) q6 q7 q8 q9)=ξ (.nx (V0 N m' (φ (.int (j:Nat))) q6' q7' q8' q9')):=by
 obtain⟨M,hM⟩:∃M:Int,M=N*(2*(j:Nat)+39373) % 2147483629:=⟨_,rfl⟩
 obtain⟨l,hl1,el⟩:=b5u (M*7+1)
 obtain⟨r,er,okr,hdr,hlr⟩:=c1u ok hl1.1 M
 have dl:=hl1.2.1
 have ll:=hl1.2.2
 have dr:B2 r≤d+2:=by lia
 have lr:(m5 r).length≤4000:=by lia
 obtain⟨q,eq,sq⟩:=b2R 12 r okr (by lia)
 have lt:E2 [z8 r]=φ (row (m5 r)):=a8T 12 r okr (by lia) lr
 have e1:m2 Θ (m2 t8 (b0 0) (m2 l8 (m2 t8 (mC (.int 2)) (b0 5)) (mC (.int 39373)))) (mC (.int 2147483629)) (V0 N m (φ (.int (j:Nat))) q6 q7 q8 q9)=φ (.int M):=by
  rw [hM];exact md (mlv rfl (adI (mlv rfl rfl (by lia)) rfl) (by lia)) rfl (by lia)
 have e2:i7 a0a (a8 (b0 6) (a8 (b0 4) (a8 (i7 a1d (a8 (m2 l8 (m2 t8 (b0 6) (mC (.int 7))) (mC (.int 1))) (a8 (b0 2) b8))) b8))) (V0 N m (φ (.int (j:Nat))) (φ (.int M)) q7 q8 q9)=φ (z8 r):=(c37 rfl rfl ((S9 (adI (ml rfl (by lia)) rfl) rfl).trans el)).trans er
 have e3:i7 a2P (a8 (b0 7) (a8 (b0 1) b8)) (V0 N m (φ (.int (j:Nat))) (φ (.int M)) (φ (z8 r)) q8 q9)=φ q:=(S9 rfl rfl).trans eq
 obtain⟨b,e4⟩:=c0f sq (ρ:=V0 N m (φ (.int (j:Nat))) (φ (.int M)) (φ (z8 r)) (φ q) q9) rfl rfl
 have t1:K5 (V2 (b0 9)) (x9 (m2 B7 (b0 3) (mC (.int 0)))) (V0 N m (φ (.int (j:Nat))) (φ (.int M)) (φ (z8 r)) (φ q) (φ (.bool b)))=ξ true:=by
  have:=b6L (a:=V2 (b0 9)) (b:=x9 (m2 B7 (b0 3) (mC (.int 0)))) (x:=b) (y:=true) (ρ:=V0 N m (φ (.int (j:Nat))) (φ (.int M)) (φ (z8 r)) (φ q) (φ (.bool b))) (a7V rfl) rfl;rw [Bool.or_true] at this;exact this
 have t2:x9 (m2 a4R (m1 x8 (i7 E2 (a8 (b0 7) b8))) (mC (.int 381))) (V0 N m (φ (.int (j:Nat))) (φ (.int M)) (φ (z8 r)) (φ q) (φ (.bool b)))=ξ (decide (((m5 r).length:Int)<381)):=
  W6 (r:= .v (.int ((m5 r).length:Nat))) (one ((V7 rfl).trans lt) (a0F (by lia))) (q:= .v (.int 381)) rfl rfl
 have t3:=b7r t1 t2
 have go:∀o,n5 (Y9 (K5 (V2 (b0 9)) (x9 (m2 B7 (b0 3) (mC (.int 0))))) (x9 (m2 a4R (m1 x8 (i7 E2 (a8 (b0 7) b8))) (mC (.int 381))))) (u4 4 (b0 7)) j1 (V0 N m (φ (.int (j:Nat))) (φ (.int M)) (φ (z8 r)) (φ q) (φ (.bool b)))=o→Q2 (V0 N m (φ (.int (j:Nat))) q6 q7 q8 q9)=o:=λo h=>by
  unfold Q2;refine(m7 e1).trans ?_;refine(m7 e2).trans ?_;refine(m7 e3).trans ?_;refine(m7 e4).trans ?_;exact h
 by_cases hc:((m5 r).length:Int)<381
 ·rw [decide_eq_true hc] at t3
  exact⟨r,_,_,_,_,okr,dr,by lia,go _ ((a8X t3).trans (a6J rfl))⟩
 ·rw [decide_eq_false hc] at t3
  exact⟨m,_,_,_,_,ok,by lia,hl,go _ ((a35 t3).trans rfl)⟩
theorem b2H(N:Int):∃m,G9 m∧B2 m≤8∧(m5 m).length≤380∧V9 [.int N,.dict [],.list (a0E.map row),.int 0]=φ (z8 m):=by
 obtain⟨l,hl,el⟩:=b5u N;obtain⟨n,hn1,hn⟩:∃n:Nat,n≤3∧((n:Nat):Int)=N*69621 % 1000003 % 4:=⟨(N*69621 % 1000003 % 4).toNat,by lia,by lia⟩
 have e4:a34 (a8 (m2 Θ (m2 Θ (m2 t8 (b0 0) (mC (.int 69621))) (mC (.int 1000003))) (mC (.int 4))) b8) (V0 N l ζ ζ ζ ζ ζ)=ξ ((Aq n).map λk=> .int (k:Nat)):=by
  refine a4I ?_ (by lia)
  rw [hn];exact md (md (ml rfl (by lia)) rfl (by lia)) rfl (by lia)
 have l1:=hl.2.1;have l2:=hl.2.2;obtain⟨ρ',e5,m,q5,q6,q7,q8,q9,h1,h3,h4,rfl⟩:=Z6 (body:=Q2) (tg:=u8 5) (λj ρ=>∃(m:Mo) (q5 q6 q7 q8 q9:Υ g0),G9 m∧B2 m≤1+2*j∧(m5 m).length≤380∧ρ=V0 N m q5 q6 q7 q8 q9)
  (ps:=(Aq n).map λk=> .int (k:Nat)) (ρ:=V0 N l ζ ζ ζ ζ ζ)
  (by
   rintro j p hp ρ ⟨m,q5,q6,q7,q8,q9,h1,h3,h4,rfl⟩;obtain⟨rfl,hj⟩:=a6r hp;obtain⟨m',q6',q7',q8',q9',k1,k3,k4,eb⟩:=b4d (N:=N) h1 h3 (by lia) h4 (j:=j) (by lia) q6 q7 q8 q9
   exact a3a (ρ1:=V0 N m (φ (.int (j:Nat))) q6 q7 q8 q9) rfl eb ⟨m',_,_,_,_,_,k1,by lia,k4,rfl⟩)
  ⟨l,_,_,_,_,_,hl.1,by lia,by lia,rfl⟩
 rw [AY,BI] at h3;refine⟨m,h1,by lia,h4,Q5 (n:=6) ?_⟩
 show a3y [φ (.int N),φ (.dict []),φ (.list (a0E.map row)),φ (.int 0),ζ,ζ,ζ,ζ,ζ,ζ]=_;unfold a3y;refine(m7 ((S9 rfl rfl).trans el)).trans ?_;refine(d3 rfl).trans ?_;refine(a3M e4 e5).trans ?_
 rfl
theorem b7y{x y:List Nat}{i:Nat}(hi:i≤x.length):PySem.StrLaws.At (S x) (S y) (S x).length i↔y.isPrefixOf (x.drop i)=true:=by
 unfold PySem.StrLaws.At Builtin.Str.subAt;rw [O0,O0];have e:(S x).cps.extract i (i+y.length)=((x.drop i).take y.length).toArray:=by
  apply Array.ext';rw [Array.toList_extract,a3q];simp [List.extract]
 rw [e];have e2:(((x.drop i).take y.length).toArray==(S y).cps)=((x.drop i).take y.length==y):=by
  show(((x.drop i).take y.length).toArray==y.toArray)=_;simp
 rw [e2,List.isPrefixOf_iff_prefix,beq_iff_eq];constructor
 ·rintro⟨_,h⟩;rw [←h];exact List.take_prefix _ _
 ·rintro⟨t,h⟩;have hl:=congrArg List.length h;rw [AQ,List.length_drop] at hl;refine⟨by lia, ?_⟩
  rw [←h,List.take_left]
theorem a6p{a y b:List Nat}(hy:y≠[])(hn:∀v,v<a.length→y.isPrefixOf ((a++(y++b)).drop v)=false)(hl:(a++(y++b)).length≤10000):a3e (.v (row (a++(y++b)))) (.v (row y))=φ (.tuple [row a,row y,row b]):=by
 obtain⟨x,e1⟩:∃x,x=a++(y++b):=⟨_,rfl⟩;rw [←e1] at hn hl ⊢;have h0:((S y).length==0)=false:=by
  rw [O0,beq_eq_false_iff_ne];have:=List.length_pos_iff.mpr hy
  lia
 have hsub:∀i j,Builtin.Str.strSub (S x) i j=S ((x.drop i).take (j - i)):=λi j=>by
  unfold Builtin.Str.strSub;show(⟨(S x).cps.extract i j⟩:Str)=⟨_⟩
  congr 1
  apply Array.ext';rw [Array.toList_extract,a3q]
  try simp [List.extract]
 have hla:a.length≤x.length:=by rw [e1];simp
 have hat:PySem.StrLaws.At (S x) (S y) (S x).length a.length:=(b7y hla).mpr (by rw [e1,List.drop_left,List.isPrefixOf_iff_prefix];exact List.prefix_append _ _)
 have key:b0F (S x) (S y)=[S a,S y,S b]:=by
  unfold b0F;rcases PySem.StrLaws.occ_head_from (S x) (S y) 0 1 (AV 1) with⟨o,hn'⟩|⟨i,r,o,_,hat',hn'⟩
  ·exact absurd hat (hn' a.length (Nat.zero_le _))
  ·rw [o];have hi:i≤x.length:=by
    have:=hat'.1;rw [O0,O0] at this
    lia
   have hia:i=a.length:=by
    rcases Nat.lt_trichotomy i a.length with z|z|z
    ·have:=hn i z;rw [(b7y hi).mp hat'] at this;cases this
    ·exact z
    ·exact absurd hat (hn' a.length (Nat.zero_le _) z)
   subst hia;show [Builtin.Str.strSub (S x) 0 a.length,S y,Builtin.Str.strSub (S x) (a.length+(S y).length) (S x).length]=[S a,S y,S b];rw [hsub,hsub,O0,O0];have q1:(x.drop 0).take (a.length - 0)=a:=by rw [e1,List.drop_zero,Nat.sub_zero,List.take_left]
   have q2:(x.drop (a.length+y.length)).take (x.length - (a.length+y.length))=b:=by
    rw [e1,←List.append_assoc,←AQ,List.drop_left,List.take_of_length_le];rw [AQ (as:=a++y)]
    lia
   rw [q1,q2]
 show(if((S y).length==0)=false∧(S x).length≤AN then ξ (g0.v (.tuple ((b0F (S x) (S y)).map .str))) else ζ)=_
 rw [if_pos ⟨h0,by rw [O0,sizeLine_eq];lia⟩,key]
 rfl
theorem no1:∀{a b:List Nat},(∀x∈a,x≠32)→∀v,v<a.length→[32].isPrefixOf ((a++([32]++b)).drop v)=false
 |[],_,_,v,hv=>by simp at hv
 |c::a,b,h,0,_=>by
  have hc:=h c AZ;simp [List.isPrefixOf]
  lia
 |c::a,b,h,v+1,hv=>no1 (λx hx=>h x (Af _ hx)) v (by rw [AO] at hv;lia)
theorem no3:∀{a b:List Nat},(∀x∈a,x≠61)→∀v,v<a.length→[32,61,32].isPrefixOf ((a++([32,61,32]++b)).drop v)=false
 |[],_,_,v,hv=>by simp at hv
 |c::a,b,h,0,_=>by
  show [32,61,32].isPrefixOf (c::(a++32::61::32::b))=false;cases a with
  |nil=>simp [List.isPrefixOf]
  |cons d a=>
   have:=h d (Af _ AZ);simp [List.isPrefixOf]
   lia
 |c::a,b,h,v+1,hv=>no3 (λx hx=>h x (Af _ hx)) v (by rw [AO] at hv;lia)
inductive Rw where
 |letR (w:List Nat) (m:Mo)
 |againR (k:Nat) (w:List Nat) (m:Mo)
 |knotR (m:Mo)
abbrev a2f:List Nat:=[108,101,116]
abbrev M0:List Nat:=[97,103,97,105,110]
abbrev M1:List Nat:=[107,110,111,116]
theorem a3Z:AD "let"=S a2f:=by decide+kernel
theorem a2D:AD "again"=S M0:=by decide+kernel
theorem a8P:AD "knot"=S M1:=by decide+kernel
theorem c1t:AD " "=S [32]:=by decide+kernel
theorem b0i:AD " = "=S [32,61,32]:=by decide+kernel
def W5:Rw→PV
 | .letR w m=> .tuple [row a2f,row w,A6 m]
 | .againR k w m=> .tuple [row M0,.int (k:Nat),row w,A6 m]
 | .knotR m=> .tuple [row M1,A6 m]
def y6:Rw→List Nat
 | .letR w m=>a2f++32::(w++32::61::32::m5 m)
 | .againR k w m=>M0++32::((dg k++32::w)++32::61::32::m5 m)
 | .knotR m=>M1++32::m5 m
def moR:Rw→Mo
 | .letR _ m=>m
 | .againR _ _ m=>m
 | .knotR m=>m
def nmR:Rw→Prop
 | .letR w _=>w∈a0E
 | .againR k w _=>(1≤k∧k≤24)∧w∈a0E
 | .knotR _=>True
structure W8(r:Rw):Prop where
 nm:nmR r
 ok:G9 (moR r)
 dp:B2 (moR r)≤8
 len:(y6 r).length≤400
theorem b5z{x c:Nat}(h:lt1 x=true)(hc:c<97):x≠c:=by
 have:=(a6j.mp h).1
 lia
theorem c1P{k:Nat}(hk:k≤24):∀x∈dg k,48≤x∧x≤57:=by
 intro x hx;unfold dg at hx;split at hx
 ·simp at hx;lia
 ·simp at hx;lia
theorem b4h(m:Mo):a1A false (.v (A6 m)) (.v .none)=φ (.bool false):=by cases m<;>rw [A6]<;>rfl
theorem a9m{r:Rw}(o:W8 r):Q0 [row (y6 r)]=φ (W5 r):=by
 obtain⟨nm,ok,dp,len⟩:=o;have gl:=a0F (l:=y6 r) (by lia)
 have v4:U2= .int 400:=rfl;have d:decide ((400:Int)<((y6 r).length:Nat))=false:=decide_eq_false (by lia)
 have v24:N9= .int 24:=rfl;unfold Q0 a8t;rw [c1t,a3Z,a2D,a8P,v4];cases r with
 |letR w m=>
  obtain⟨n0,n1,n2,_⟩:=a1H nm
  ext ag
  ext bf
  have p1:=a6p (a:=a2f) (y:=[32]) (b:=w++32::61::32::m5 m) (by simp) (no1 (by decide)) (by simp;lia)
  have p3:=a6p (a:=w) (y:=[32,61,32]) (b:=m5 m) (by simp) (no3 λx hx=>b5z (n1 x hx) (by lia)) (by simp;lia)
  have p1:a3e (.v (row (y6 (.letR w m)))) (.v (row [32]))=φ (.tuple [row a2f,row [32],row (w++32::61::32::m5 m)]):=p1;have p3:a3e (.v (row (w++32::61::32::m5 m))) (.v (row [32,61,32]))=φ (.tuple [row w,row [32,61,32],row (m5 m)]):=p3;have q1:B7 (.v (row a2f)) (.v (row a2f))=φ (.bool true):=by rfl
  have lo:a6b [row w,A6 m]=φ (W5 (.letR w m)):=by
   unfold a6b b2j;rw [a3Z];simp! [r9,k7,p8,j7,j0,j8,L8,l9,p0,n8,u9,p7,E9,m9,o8,C5,S4,A8,AM,An,AT,Ae,Ab,Al,AO,AX,Bool.not_true,Nat.reduceAdd,n0]
   rfl
  have te:O6 [row a2f,row (w++32::61::32::m5 m)]=φ (W5 (.letR w m)):=by
   unfold O6 a1W;rw [b0i,a3Z];generalize row (w++32::61::32::m5 m)=X at*;generalize row (m5 m)=Y at*;simp! [E4,a3N,t7,r9,k7,p8,j7,j0,j8,l9,u0,B9,p0,A7,n8,u9,K8,p7,a0T,E9,m9,o8,v7,r6,w4,AM,AT,Ae,Ag,Ab,Ac,Aa,Ai,Aj,p3,rd,nn,q1,lo]
  generalize row (w++32::61::32::m5 m)=X at*;generalize row (y6 (.letR w m))=Z at*;simp! [a12,E4,a3N,t7,D3,r9,k7,p8,j7,j0,j8,l9,u0,B9,p0,A7,n8,u9,K8,p7,a0T,E9,m9,o8,v7,r6,w4,x6,b3e,AM,AT,Ae,Ag,Ab,Ac,Aa,Ai,Aj,gl,d,p1,q1,te]
 |againR k w m=>
  obtain⟨hk,nm⟩:=nm;obtain⟨n0,n1,n2,_⟩:=a1H nm;have hdg:=c1P hk.2
  ext ag
  ext bf
  have p1:=a6p (a:=M0) (y:=[32]) (b:=(dg k++32::w)++32::61::32::m5 m) (by simp) (no1 (by decide)) (by simp;lia)
  have p3:=a6p (a:=dg k++32::w) (y:=[32,61,32]) (b:=m5 m) (by simp) (no3 λx hx=>by
   rcases Av.mp hx with h|h
   ·have:=hdg x h;lia
   ·rcases Ah.mp h with h|h
    ·lia
    ·exact b5z (n1 x h) (by lia)) (by simp;lia)
  have p1:a3e (.v (row (y6 (.againR k w m)))) (.v (row [32]))=φ (.tuple [row M0,row [32],row ((dg k++32::w)++32::61::32::m5 m)]):=p1;have p3:a3e (.v (row ((dg k++32::w)++32::61::32::m5 m))) (.v (row [32,61,32]))=φ (.tuple [row (dg k++32::w),row [32,61,32],row (m5 m)]):=p3;have q1:B7 (.v (row M0)) (.v (row a2f))=φ (.bool false):=by rfl
  have q2:B7 (.v (row M0)) (.v (row M0))=φ (.bool true):=by rfl
  have sp:a13 (.v (row (dg k++32::w))) (.v (row [32]))=ξ (.own [row (dg k),row w]):=by
   have g:m6 [32] [dg k,w]=dg k++32::w:=Y0 ..;show(if(((S [32]).length==0)=false∧(S (dg k++32::w)).length≤AN∧(Txt.split (S (dg k++32::w)) (S [32])).length≤AN) then ξ (g0.own ((Txt.split (S (dg k++32::w)) (S [32])).map .str)) else ζ)=_
   rw [a5P (by simp) (λp hp z=>by
    simp only [Ah,List.not_mem_nil,or_false] at hp;rcases hp with rfl|rfl
    ·have:=hdg 32 z;lia
    ·exact b5z (n1 32 z) (by lia) rfl) g,if_pos ⟨rfl,by rw [O0,sizeLine_eq];simp;lia,by rw [AY,sizeLine_eq];simp⟩]
   rfl
  obtain⟨nd,_,_⟩:=b30 hk.1 hk.2;have lo:a2L [row (dg k++32::w),A6 m]=φ (W5 (.againR k w m)):=by
   have gl:x8 (.bor [row (dg k),row w])=φ (.int 2):=rfl;have n2:gNe (.v (.int 2)) (.v (.int 2))=φ (.bool false):=by rfl
   have i1:o9 (.bor [row (dg k),row w]) (.v (.int 1))=φ (row w):=by rfl
   have i0:o9 (.bor [row (dg k),row w]) (.v (.int 0))=φ (row (dg k)):=by rfl
   unfold a2L a8n;rw [a2D,c1t,v24];generalize row (dg k++32::w)=X at*;simp! [t7,D3,r9,k7,b5C,p8,j7,j0,j8,L8,l9,u0,B9,b3R,p0,n8,u9,p7,E9,m9,o8,C5,r6,w4,S4,A8,x6,S2,AM,An,AT,Ae,Ag,Ab,Ac,Aa,Ai,Aj,AO,AX,Bool.not_true,Nat.reduceAdd,sp,gl,n2,i1,n0,i0,nd,b5o]
   rfl
  have te:O6 [row M0,row ((dg k++32::w)++32::61::32::m5 m)]=φ (W5 (.againR k w m)):=by
   unfold O6 a1W;rw [b0i,a3Z];generalize row ((dg k++32::w)++32::61::32::m5 m)=X at*;generalize row (m5 m)=Y at*;simp! [E4,a3N,t7,r9,k7,p8,j7,j0,j8,l9,u0,B9,p0,A7,n8,u9,p7,E9,m9,o8,v7,r6,w4,AM,AT,Ae,Ag,Ab,Ac,Aa,Ai,Aj,p3,rd,nn,q1,lo]
  generalize row ((dg k++32::w)++32::61::32::m5 m)=X at*;generalize row (y6 (.againR k w m))=Z at*;simp! [a12,E4,a3N,t7,D3,r9,k7,p8,j7,j0,j8,l9,u0,B9,p0,A7,n8,u9,K8,p7,a0T,E9,m9,o8,v7,r6,w4,x6,S2,AM,AT,Ae,Ag,Ab,Ac,Aa,Ai,Aj,gl,d,p1,q1,q2,te]
 |knotR m=>
  ext ag
  ext bf
  have p1:=a6p (a:=M1) (y:=[32]) (b:=m5 m) (by simp) (no1 (by decide)) (by simp;lia)
  have p1:a3e (.v (row (y6 (.knotR m)))) (.v (row [32]))=φ (.tuple [row M1,row [32],row (m5 m)]):=p1;have q1:B7 (.v (row M1)) (.v (row a2f))=φ (.bool false):=by rfl
  have q2:B7 (.v (row M1)) (.v (row M0))=φ (.bool false):=by rfl
  have q3:B7 (.v (row M1)) (.v (row M1))=φ (.bool true):=by rfl
  have kr:a2N [row (m5 m)]=φ (W5 (.knotR m)):=by
   unfold a2N a8p;rw [a8P];generalize row (m5 m)=Y at*;simp! [t7,r9,k7,p8,j7,j0,j8,L8,l9,u0,B9,p0,n8,u9,p7,E9,m9,o8,r6,w4,AM,AT,Ae,Ag,Ab,Ac,Aa,Ai,Aj,AO,AX,Nat.reduceAdd,rd,nn]
   rfl
  generalize row (m5 m)=Y at*;generalize row (y6 (.knotR m))=Z at*;simp! [a12,E4,a3N,t7,D3,r9,k7,p8,j7,j0,j8,l9,u0,B9,p0,A7,n8,u9,K8,p7,a0T,E9,m9,o8,v7,r6,w4,x6,S2,AM,AT,Ae,Ag,Ab,Ac,Aa,Ai,Aj,gl,d,p1,q1,q2,q3,kr]
def isK:Rw→Bool
 | .knotR _=>true
 |_=>false
abbrev ntX(k:Nat):XT:=⟨"NoText",[(.str "row",.int (k:Nat))]⟩
abbrev rdB:MX:=(a1l (a0Z (u4 5 (i7 Q0 (a8 (b0 4) b8))))
 (a1l (a7S (K5 (x9 (m2 (gI λi j=> .bool (decide (j≤i))) (b0 3) (mC W7))) (x9 (m2 (a1A false) (b0 5) (mC .none)))) (b0C "NoText" ["row"] (a8 (b0 3) b8)) (a0Z j1))
 (a1l (a7S (x9 (m2 gNe (m2 B7 (m2 o9 (b0 5) (mC (.int 0))) (mC (.str "knot"))) (m2 B7 (b0 3) (m2 (gI λi j=> .int (i - j)) (m1 x8 (b0 1)) (mC (.int 1)))))) (b0C "NoText" ["row"] (a8 (b0 3) b8)) (a0Z j1))
 (a0Z (U5 2 (b0 5))))))
def enF(k:Nat)(ps:List PV):List PV:=(ps.zipIdx k).map λq=> .tuple [.int ((q.2:Nat):Int),q.1]
theorem c1X(r:Rw):a1A false (.v (W5 r)) (.v .none)=φ (.bool false):=by cases r<;>rfl
theorem c4n(r:Rw):∃w,o9 (.v (W5 r)) (.v (.int 0))=φ (row w)∧(w==M1)=isK r:=by
 cases r with
 |letR w m=>exact⟨a2f,rfl,rfl⟩
 |againR k w m=>exact⟨M0,rfl,rfl⟩
 |knotR m=>exact⟨M1,rfl,rfl⟩
theorem c10(a b:Bool):gNe (.v (.bool a)) (.v (.bool b))=φ (.bool (a !=b)):=by cases a<;>cases b<;>rfl
def b41(n i:Nat)(t:List Nat):Prop:=Q0 [row t]=φ .none∨∃r,Q0 [row t]=φ (W5 r)∧(40≤i∨isK r≠decide (i+1=n))
theorem c14(i n:Nat):B7 (.v (.int (i:Nat))) (.v (.int ((n:Int) - 1)))=φ (.bool (decide (i+1=n))):=by
 rw [b36 (x:= .v (.int (i:Nat))) (y:= .v (.int ((n:Int) - 1))) ⟨rfl,rfl⟩]
 congr 3
 show η (.int (i:Nat)) (.int ((n:Int) - 1))=_;simp only [η];exact decide_eq_decide.mpr (by lia)
theorem b9A{L:List (List Nat)}{i:Nat}{t:List Nat}(h:b41 L.length i t){q0 q2 q5:Υ g0}:∃ρ,rdB [q0,φ (.list (L.map row)),q2,φ (.int (i:Nat)),φ (row t),q5]=ξ (.rz (ntX i) ρ):=by
 have v40:W7= .int 40:=rfl
 ext r
 unfold rdB;rw [v40,a8P];rcases h with rg|⟨r,rg,hc⟩
 ·refine⟨[q0,φ (.list (L.map row)),q2,φ (.int (i:Nat)),φ (row t),φ .none], ?_⟩
  by_cases h4:(40:Int)≤(i:Nat)
  ·ext bc
   rfl
  ·simp! [a12,t7,r9,k7,p8,j7,j0,j8,l9,u0,B9,r6,w4,x6,S2,AM,An,Ai,Aj,W4,a1m,rg,a1y,U1,decide_eq_false h4,c4l,a7h]
   rfl
 ·ext ak
  refine⟨[q0,φ (.list (L.map row)),q2,φ (.int (i:Nat)),φ (row t),φ (W5 r)], ?_⟩
  by_cases h4:(40:Int)≤(i:Nat)
  ·ext bc
   rfl
  ·have hne:(isK r !=decide (i+1=L.length))=true:=by
    rw [bne_iff_ne];exact hc.resolve_left (by lia)
   rw [hne] at nb;simp! [a12,t7,D3,r9,k7,p8,j7,j0,j8,l9,u0,B9,m9,r6,w4,x6,S2,AM,An,Ai,Aj,W4,a1m,rg,a1y,U1,decide_eq_false h4,nn,a9E,iw,qk,gl,qn,nb,a7h]
   rfl
theorem b0U{L:List (List Nat)}{i:Nat}{r:Rw}(o:W8 r)(hi:i<40)(hk:isK r=decide (i+1=L.length)){acc:List Rw}(ha:acc.length≤100){q0 q5:Υ g0}:rdB [q0,φ (.list (L.map row)),ξ (.own (acc.map W5)),φ (.int (i:Nat)),φ (row (y6 r)),q5]=ξ (.fl (.nx [q0,φ (.list (L.map row)),ξ (.own ((acc++[r]).map W5)),φ (.int (i:Nat)),φ (row (y6 r)),φ (W5 r)])):=by
 have v40:W7= .int 40:=rfl
 ext r
 have rg:=a9m o
 ext ak
 rw [show(isK r !=decide (i+1=L.length))=false by rw [hk];simp] at nb
 have h4:decide ((40:Int)≤(i:Nat))=false:=decide_eq_false (by lia)
 have ap:U5 2 (b0 5) [q0,φ (.list (L.map row)),ξ (.own (acc.map W5)),φ (.int (i:Nat)),φ (row (y6 r)),φ (W5 r)]=ξ (.nx [q0,φ (.list (L.map row)),ξ (.own ((acc++[r]).map W5)),φ (.int (i:Nat)),φ (row (y6 r)),φ (W5 r)]):=by
  rw [a31 (r:= .v (W5 r)) (p:=W5 r) (by simp! [k7,p8]) rfl rfl (by rw [AY];lia),Ax]
  rfl
 unfold rdB;rw [v40,a8P];simp! [a12,t7,D3,r9,k7,p8,j7,j0,j8,l9,u0,B9,m9,r6,w4,x6,S2,AM,An,Ai,Aj,W4,a1m,rg,a1y,U1,h4,nn,a9E,iw,qk,gl,qn,nb,ap]
 try rfl
theorem a9i{L:List (List Nat)}{ts:List (List Nat)}{q0:Υ g0}:∀(rs acc:List Rw) (i:Nat) (q3 q4 q5:Υ g0),(∀r∈rs,W8 r∧isK r=false)→i+rs.length≤40→i+rs.length<L.length→acc.length≤i→
 ∃q3' q4' q5',a3l rdB (a1u [3,4]) (enF i ((rs.map y6++ts).map row)) [q0,φ (.list (L.map row)),ξ (.own (acc.map W5)),q3,q4,q5]=a3l rdB (a1u [3,4]) (enF (i+rs.length) (ts.map row)) [q0,φ (.list (L.map row)),ξ (.own ((acc++rs).map W5)),q3',q4',q5']
 |[],acc,i,q3,q4,q5,_,_,_,_=>⟨q3,q4,q5,by rw [Al];rfl⟩
 |r::rs,acc,i,q3,q4,q5,h,h1,h2,ha=>by
  obtain⟨o,nk⟩:=h r AZ;rw [AO] at h1 h2;have sg:=b0U (L:=L) (i:=i) o (by lia) (by rw [nk,decide_eq_false (by lia)]) (acc:=acc) (by lia) (q0:=q0) (q5:=q5)
  obtain⟨q3',q4',q5',e⟩:=a9i (L:=L) (ts:=ts) (q0:=q0) rs (acc++[r]) (i+1) (φ (.int (i:Nat))) (φ (row (y6 r))) (φ (W5 r)) (λx hx=>h x (Af _ hx)) (by lia) (by lia) (by rw [AQ,List.length_singleton];lia)
  refine⟨q3',q4',q5', ?_⟩;show(rdB [q0,φ (.list (L.map row)),ξ (.own (acc.map W5)),φ (.int (i:Nat)),φ (row (y6 r)),q5]).bind _=_;rw [sg,AM,AO,show i+(rs.length+1)=i+1+rs.length by lia]
  rw [List.append_assoc] at e;exact e
theorem c0P:AD "\n"=S [10]:=by decide+kernel
theorem b9m{L:List (List Nat)}(h0:L≠[])(h1:∀p∈L,10∉p)(hl:(m6 [10] L).length≤40000):P9 [row (m6 [10] L)]=((a3l rdB (a1u [3,4]) (enF 0 (L.map row)) [φ (row (m6 [10] L)),φ (.list (L.map row)),ξ (.own []),ζ,ζ,ζ]).bind (b9O (a0Z (Y4 2)))).bind b5M:=by
 have hs:F8 "str" (.v (row (m6 [10] L)))=φ (.bool true):=rfl;have sp:a13 (.v (row (m6 [10] L))) (.v (row [10]))=ξ (.own (L.map row)):=by
  have hlen:=a3T 10 L h0;show(if(((S [10]).length==0)=false∧(S (m6 [10] L)).length≤AN∧(Txt.split (S (m6 [10] L)) (S [10])).length≤AN) then ξ (g0.own ((Txt.split (S (m6 [10] L)) (S [10])).map .str)) else ζ)=_
  rw [a5P h0 h1 rfl,if_pos ⟨rfl,by rw [O0,sizeLine_eq];lia,by rw [AY,sizeLine_eq];lia⟩,BC]
  rfl
 have em:b8z (a8 (b0 1) b8) [φ (row (m6 [10] L)),φ (.list (L.map row)),ξ (.own []),ζ,ζ,ζ]=ξ (enF 0 (L.map row)):=rfl;have fz:∀(nn:MS) (s0 s2 s3 s4 s5:Υ g0) (A:List PV),a2t 1 nn [s0,ξ (.ow (.lst A)),s2,s3,s4,s5]=nn [s0,φ (.list A),s2,s3,s4,s5]:=λ_ _ _ _ _ _ _=>rfl;unfold P9 b3T;rw [c0P];simp! [t7,D3,r9,k7,j7,b2S,u0,b3R,m9,C5,S4,A8,AM,An,AT,Ae,Ag,Ab,Ac,Aa,Ai,Aj,AX,Bool.not_true,a9o,W4,U1,hs,a9E,a1m,a1y,sp,fz];show((b5H _ _ rdB [φ (row (m6 [10] L)),φ (.list (L.map row)),ξ (.own []),ζ,ζ,ζ]).bind _).bind b5M=_;unfold b5H;rw [em,AM]
 rfl
theorem b9o{p:PV}(h:F8 "str" (.v p)=φ (.bool false)):P9 [p]=ξ (.inr (ntX 0)):=by
 unfold P9 b3T;simp! [D3,k7,C5,S4,A8,AM,An,AT,Ae,Ag,Ab,Ac,Aa,Bool.not_false,a9o,W4,U1,h,a7h]
 rfl
abbrev No(l:List Nat):Prop:=∀x∈l,x≠10
theorem B0{a b:List Nat}(h:No a)(g:No b):No (a++b):=λx hx=>(Av.mp hx).elim (h x) (g x)
theorem a81{w:List Nat}(h:∀x∈w,lt1 x=true):No w:=λx hx=>b5z (h x hx) (by lia)
theorem b8R{k:Nat}(h:k≤24):No (dg k):=λx hx=>by
 have:=c1P h x hx
 lia
theorem b1u{s:List Nat}(hs:No s):∀{ls:List (List Nat)},(∀l∈ls,No l)→No (m6 s ls)
 |[],_=>λx hx=>by cases hx
 |[a],h=>h a AZ
 |a::b::r,h=>B0 (B0 (h a AZ) hs) (b1u hs (ls:=b::r) λl hl=>h l (Af _ hl))
theorem a5O:∀(n:Nat) (m:Mo),B2 m≤n→G9 m→No (m5 m)
 |0,m,h,_=>by
  have:=a4A m
  lia
 |n+1,m,h,ok=>by
  have ls:∀ps:List Mo,b1v ps→a5s ps≤n→No (m6 [44,32] (a4r ps)):=λps o d=>by
   rw [K0];refine b1u (by decide) λl hl=> ?_
   obtain⟨p,hp,rfl⟩:=BA.mp hl;have:=O1 hp;exact a5O n p (by lia) (O4 o hp)
  cases m with
  |plain R=>
   ext m
   rw [m5];exact B0 (B0 (by decide) (b1u (by decide) λl hl=>a81 (a6m ok l hl))) (by decide)
  |named w=>
   ext m
   rw [m5];exact a81 (a1H ok).2.1
  |beside ps=>
   ext m
   rw [B2] at h;rw [m5];exact B0 (B0 (by decide) (ls ps ok.2.2 (by lia))) (by decide)
  |above ps=>
   ext m
   rw [B2] at h;rw [m5];exact B0 (B0 (by decide) (ls ps ok.2.2 (by lia))) (by decide)
  |across k p=>
   ext m
   ext a4
  |down k p=>
   ext m
   ext a4
  |turned w p=>
   ext m
   rw [B2] at h;rw [m5];exact B0 (B0 (B0 (a81 (b9G ok.1).2.1) (by decide)) (a5O n p (by lia) ok.2)) (by decide)
  |dyed a b p=>
   ext m
   rw [B2] at h;rw [m5];have h1:No [a]:=a81 λx hx=>(List.mem_singleton.mp hx)▸ok.1;have h2:No [b]:=a81 λx hx=>(List.mem_singleton.mp hx)▸ok.2.1;exact B0 (B0 (B0 (B0 (B0 (B0 (by decide) h1) (by decide)) h2) (by decide)) (a5O n p (by lia) ok.2.2)) (by decide)
theorem c3G{r:Rw}(o:W8 r):No (y6 r):=by
 obtain⟨nm,ok,dp,len⟩:=o;have h:=a5O 8 _ dp ok;have c:∀{a:Nat} {l:List Nat},a≠10→No l→No (a::l):=λha hl x hx=>(Ah.mp hx).elim (λe=>e▸ha) (hl x);cases r with
 |letR w m=>exact B0 (by decide) (c (by lia) (B0 (a81 (a1H nm).2.1) (c (by lia) (c (by lia) (c (by lia) h)))))
 |againR k w m=>exact B0 (by decide) (c (by lia) (B0 (B0 (b8R nm.1.2) (c (by lia) (a81 (a1H nm.2).2.1))) (c (by lia) (c (by lia) (c (by lia) h)))))
 |knotR m=>exact B0 (by decide) (c (by lia) h)
structure Tx(t:List Nat):Prop where
 len:t.length≤450
 no:No t
theorem W8.tx{r:Rw}(o:W8 r):Tx (y6 r):=⟨by have:=o.len;lia,c3G o⟩
theorem Tx.sum:∀{M:List (List Nat)},(∀t∈M,Tx t)→(m6 [10] M).length≤451*M.length
 |[],_=>Nat.zero_le _
 |[a],h=>by
  have ha:=(h a AZ).len;show a.length≤_;simp only [AO,AX]
  lia
 |a::b::M,h=>by
  have i:=Tx.sum (M:=b::M) λt ht=>h t (Af _ ht);have ha:=(h a AZ).len;rw [Y0,AQ,AO];simp only [AO] at i ⊢
  lia
theorem b9n{rs:List Rw}{b:List Nat}{ts:List (List Nat)}(hr:∀r∈rs,W8 r∧isK r=false)(hn:rs.length≤40)(hb:b41 (rs.length+(ts.length+1)) rs.length b)(tx:∀t∈rs.map y6++b::ts,Tx t)(hl:ts.length≤41 - rs.length):P9 [row (m6 [10] (rs.map y6++b::ts))]=ξ (.inr (ntX rs.length)):=by
 have len:(rs.map y6++b::ts).length=rs.length+(ts.length+1):=by simp
 have sm:=Tx.sum tx;rw [b9m (by simp) (λp hp z=>(tx p hp).no 10 z rfl) (by lia)]
 obtain⟨q3,q4,q5,e⟩:=a9i (L:=rs.map y6++b::ts) (ts:=b::ts) (q0:=φ (row (m6 [10] (rs.map y6++b::ts)))) rs [] 0 ζ ζ ζ hr (by lia) (by lia) (AV _)
 rw [←len] at hb;rw [Nat.zero_add,Aa] at e;obtain⟨ρ,eb⟩:=b9A hb (q0:=φ (row (m6 [10] (rs.map y6++b::ts)))) (q2:=ξ (.own (rs.map W5))) (q5:=q5);have e2:a3l rdB (a1u [3,4]) (enF rs.length ((b::ts).map row)) [φ (row (m6 [10] (rs.map y6++b::ts))),φ (.list ((rs.map y6++b::ts).map row)),ξ (.own (rs.map W5)),q3,q4,q5]=ξ (.rz (ntX rs.length) ρ):=by
  show(rdB [φ (row (m6 [10] (rs.map y6++b::ts))),φ (.list ((rs.map y6++b::ts).map row)),ξ (.own (rs.map W5)),φ (.int (rs.length:Nat)),φ (row b),q5]).bind _=_;rw [eb]
  rfl
 have e:a3l rdB (a1u [3,4]) (enF 0 ((rs.map y6++b::ts).map row)) [φ (row (m6 [10] (rs.map y6++b::ts))),φ (.list ((rs.map y6++b::ts).map row)),ξ (.own []),ζ,ζ,ζ]=_:=e.trans e2;rw [e]
 rfl
theorem b0I{rs:List Rw}{m:Mo}(hr:∀r∈rs,W8 r∧isK r=false)(hk:W8 (.knotR m))(hn:rs.length≤39):left P9 [row (m6 [10] ((rs++[Rw.knotR m]).map y6))]=ξ (.own ((rs++[Rw.knotR m]).map W5)):=by
 have e0:(rs++[Rw.knotR m]).map y6=rs.map y6++[y6 (.knotR m)]:=by rw [Ax];rfl
 have len:(rs.map y6++[y6 (.knotR m)]).length=rs.length+1:=by simp
 have tx:∀t∈rs.map y6++[y6 (.knotR m)],Tx t:=λt ht=>by
  rcases Av.mp ht with h|h
  ·obtain⟨r,hr',rfl⟩:=BA.mp h;exact(hr r hr').1.tx
  ·rw [List.mem_singleton.mp h];exact hk.tx
 have sm:=Tx.sum tx;unfold left;rw [e0,b9m (by simp) (λp hp z=>(tx p hp).no 10 z rfl) (by lia)]
 obtain⟨q3,q4,q5,e⟩:=a9i (L:=rs.map y6++[y6 (.knotR m)]) (ts:=[y6 (.knotR m)]) (q0:=φ (row (m6 [10] (rs.map y6++[y6 (.knotR m)])))) rs [] 0 ζ ζ ζ hr (by lia) (by lia) (AV _)
 rw [Nat.zero_add,Aa] at e;have sg:=b0U (L:=rs.map y6++[y6 (.knotR m)]) (i:=rs.length) hk (by lia) (by rw [len,decide_eq_true rfl];rfl) (acc:=rs) (by lia) (q0:=φ (row (m6 [10] (rs.map y6++[y6 (.knotR m)])))) (q5:=q5)
 have e2:a3l rdB (a1u [3,4]) (enF rs.length ([y6 (.knotR m)].map row)) [φ (row (m6 [10] (rs.map y6++[y6 (.knotR m)]))),φ (.list ((rs.map y6++[y6 (.knotR m)]).map row)),ξ (.own (rs.map W5)),q3,q4,q5]=ξ (.fl (.nx [φ (row (m6 [10] (rs.map y6++[y6 (.knotR m)]))),φ (.list ((rs.map y6++[y6 (.knotR m)]).map row)),ξ (.own ((rs++[Rw.knotR m]).map W5)),φ (.int (rs.length:Nat)),φ (row (y6 (.knotR m))),φ (W5 (.knotR m))])):=by
  show(rdB [φ (row (m6 [10] (rs.map y6++[y6 (.knotR m)]))),φ (.list ((rs.map y6++[y6 (.knotR m)]).map row)),ξ (.own (rs.map W5)),φ (.int (rs.length:Nat)),φ (row (y6 (.knotR m))),q5]).bind _=_;rw [sg]
  rfl
 have e:a3l rdB (a1u [3,4]) (enF 0 ((rs.map y6++[y6 (.knotR m)]).map row)) [φ (row (m6 [10] (rs.map y6++[y6 (.knotR m)]))),φ (.list ((rs.map y6++[y6 (.knotR m)]).map row)),ξ (.own []),ζ,ζ,ζ]=_:=e.trans e2;rw [e]
 rfl
abbrev a9O:List String:=[""," ","let","let k","let k =","let k = ","let k= k","let k =k","let  k = k","let K = k","let turn = k","let k k = k","let = k","let abcdefghi = k","Let k = k","let k = turn","let k = [a","let k = k "," let k = k","again k = k","again 0 k = k","again 25 k = k","again 02 k = k","again 2 = k","again 2 k k = k","again 2  k = k","again two k = k","again -2 k = k","again 2 dye = k","again 2 k","knot","knot ","knot turn","knots k","k","k = k","let k = turn(","let 2 k = k","again 2 k = [A]","let k == k"]
abbrev b3Y(s:String):List Nat:=(AD s).cps.toList
def c2S:Υ g0→Bool
 |some (.v .none)=>true
 |_=>false
theorem c0w{o:Υ g0}(h:c2S o=true):o=φ .none:=by
 unfold c2S at h;split at h
 ·rfl
 ·cases h
theorem b7B:(a9O.all λs=>c2S (Q0 [row (b3Y s)])&&(decide ((b3Y s).length≤450)&&(b3Y s).all λx=>decide (x≠10)))=true:=by decide+kernel
structure c3W(b:List Nat):Prop where
 no:Q0 [row b]=φ .none
 tx:Tx b
theorem c2n{s:String}(h:s∈a9O):c3W (b3Y s):=by
 have:=List.all_eq_true.mp b7B s h;simp only [χ,decide_eq_true_eq,List.all_eq_true] at this;exact⟨c0w this.1,this.2.1,this.2.2⟩
theorem b7A(N:Int):∃b,c3W b∧a4E [.int N]=φ (row b):=by
 obtain⟨j,ej,hj⟩:∃j:Nat,N % 40=(j:Int)∧j<40:=⟨(N % 40).toNat,by lia,by lia⟩
 have hjl:j<a9O.length:=hj;refine⟨b3Y a9O[j],c2n (List.getElem_mem hjl),Q5 (n:=1) ?_⟩;have ad:∀(A B:List PV) (ρ:b9) (e:M),ρ[1]?=ξ (ξ (.own A))→e ρ=ξ (.own B)→A.length+B.length≤100→m2 l8 (b0 1) e ρ=ξ (.own (A++B)):=λA B ρ e h1 h2 h3=>by
  have hv:b0 1 ρ=ξ (.bor A):=by unfold b0;rw [h1]
  show(b0 1 ρ).bind _=_;rw [hv,AM,h2,AM,b1g (by rw [sizeLine_eq];lia)]
 have ix:m2 o9 (b0 1) (m2 Θ (b0 0) (mC (.int 40))) [φ (.int N),ξ (.own (a9O.map λs=> .str (AD s)))]=φ (row (b3Y a9O[j])):=by
  have hm:m2 Θ (b0 0) (mC (.int 40)) [φ (.int N),ξ (.own (a9O.map λs=> .str (AD s)))]=φ (.int (j:Nat)):=by
   rw [←ej];exact md rfl rfl (by lia)
  refine Y8 (r:= .bor (a9O.map λs=> .str (AD s))) rfl hm (c0l ?_);rw [b2f,Aw,BF hjl];show ξ (PyData.str (AD a9O[j]))=ξ (.str (S (b3Y a9O[j])));rw [c1J]
 show a6K [φ (.int N),ζ]=_;unfold a6K;refine(J8 rfl).trans ?_
 ext ae
 ext ae
 ext ae
 ext ae
 ext ae
 exact S6 ix
def a46:List (List Nat):=AU 17 (AU 22 97)
abbrev R9:Mo:= .plain a46
theorem b5y:G9 R9:=by
 rw [G9]
 decide+kernel
theorem b5w:B2 R9≤8:=by rw [B2];lia
theorem b1p:(m5 R9).length=392:=by
 rw [m5]
 decide+kernel
theorem b4l:AD "let "=S (a2f++[32]):=by decide+kernel
theorem c4f:AD " = ["=S [32,61,32,91]:=by decide+kernel
theorem c5h:AD "]"=S [93]:=by decide+kernel
theorem b6w{x:M}{ρ:b9}{p:PV}(h:x ρ=φ p):B4 (a8 x b8) ρ=ξ (.own [p]):=by
 unfold B4 a8;rw [h];show(if 1≤AN then ξ (g0.own [p]) else ζ)=_
 rw [if_pos (by rw [sizeLine_eq];decide)]
theorem b5x{w:List Nat}(hw:w.length≤10):Z8 [row w]=φ (row (y6 (.letR w R9))):=by
 have e1:t8 (.v (.str (S [97]))) (.v (.int 22))=φ (row (AU 22 97)):=by
  rw [c0r ⟨⟨by lia,by lia⟩,by simp⟩]
  rfl
 have e2:t8 (.own [row (AU 22 97)]) (.v (.int 17))=ξ (.own (a46.map row)):=by
  rw [a6U ⟨⟨by lia,by lia⟩,by simp⟩]
  rfl
 have e3:M5 (.v (.str (S [47]))) (.own (a46.map row))=φ (row (m6 [47] a46)):=Z7 (sep:=[47]) (rows:=a46) (y:= .own (a46.map row)) rfl (by decide+kernel)
 have gl:(m6 [47] a46).length=390:=by decide+kernel
 have hsh:y6 (.letR w R9)=(((a2f++[32])++w)++[32,61,32,91])++m6 [47] a46++[93]:=by
  show a2f++32::(w++32::61::32::m5 (.plain a46))=_;rw [m5];simp only [List.append_assoc,Ac,Aa]
 rw [hsh];refine a9n (x:=m2 l8 (m2 l8 (m2 l8 (m2 l8 (mC (.str (AD "let "))) (b0 0)) (mC (.str (AD " = [")))) (m2 M5 (mC (.str (AD "/"))) (m2 t8 (B4 (a8 (m2 t8 (mC (.str (AD "a"))) (mC (.int 22))) b8)) (mC (.int 17))))) (mC (.str (AD "]")))) ?_;have ej:m2 M5 (mC (.str (AD "/"))) (m2 t8 (B4 (a8 (m2 t8 (mC (.str (AD "a"))) (mC (.int 22))) b8)) (mC (.int 17))) [φ (row w)]=φ (row (m6 [47] a46)):=Y8 (T1 a79 _) (Y8 (b6w (Y8 (T1 a_S _) rfl e1)) rfl e2) e3;exact ad (ad (ad (ad (T1 b4l _) rfl (by simp;lia)) (T1 c4f _) (by simp;lia)) ej (by simp only [AQ,gl];simp;lia)) (T1 c5h _) (by simp only [AQ,gl];simp;lia)
def tvR:Rw→PV
 | .letR w m=> .tuple [row a2f,row w,z8 m]
 | .againR k w m=> .tuple [row M0,.int (k:Nat),row w,z8 m]
 | .knotR m=> .tuple [row M1,z8 m]
theorem b2c:AD "again "=S (M0++[32]):=by decide+kernel
theorem b5s:AD "knot "=S (M1++[32]):=by decide+kernel
theorem b5F{r:Rw}(h:(y6 r).length≤400):(m5 (moR r)).length≤400:=by
 cases r<;>simp only [y6,AQ,AO,AX] at h<;>simp only [moR]<;>lia
theorem c0F{r:Rw}(o:W8 r):a5u [tvR r]=φ (row (y6 r)):=by
 obtain⟨nm,ok,dp,len⟩:=o;have lm:=b5F len;have lt:E2 [z8 (moR r)]=φ (row (m5 (moR r))):=a8T 12 _ ok (by lia) (by lia)
 refine Q5 (n:=0) ?_;show a5k [φ (tvR r)]=_;unfold a5k
 ext l
 cases r with
 |letR w m=>
  ext al
  have hsh:y6 (.letR w m)=((a2f++[32])++w)++[32,61,32]++m5 m:=by
   ext y
  rw [hsh];refine x4 (q _ _ a3Z a2f _ rfl) ?_;exact ad (ad (ad (T1 b4l _) (Y8 rfl rfl rfl) (by simp;lia)) (T1 b0i _) (by simp;lia)) ((V7 (Y8 rfl rfl rfl)).trans lt) (by simp;lia)
 |againR k w m=>
  ext al
  have hsh:y6 (.againR k w m)=((((M0++[32])++dg k)++[32])++w)++[32,61,32]++m5 m:=by
   ext y
  rw [hsh];refine(d3 (q _ _ a3Z M0 _ rfl)).trans ?_;refine x4 (q _ _ a2D M0 _ rfl) ?_;exact ad (ad (ad (ad (ad (T1 b2c _) (one (Y8 rfl rfl rfl) (b1U (by have:=nm.1.2;lia))) (by simp;lia)) (T1 c1t _) (by simp;lia)) (Y8 rfl rfl rfl) (by simp;lia)) (T1 b0i _) (by simp;lia)) ((V7 (Y8 rfl rfl rfl)).trans lt) (by simp;lia)
 |knotR m=>
  ext al
  have hsh:y6 (.knotR m)=(M1++[32])++m5 m:=by
   ext y
  rw [hsh];refine(d3 (q _ _ a3Z M1 _ rfl)).trans ?_;refine(d3 (q _ _ a2D M1 _ rfl)).trans ?_;exact S6 (ad (T1 b5s _) ((V7 (Y8 rfl rfl rfl)).trans lt) (by simp;lia))
theorem b4w{r:Rw}{m:Mo}{e:M}{v:PV}(hm:G9 m)(hd:B2 m≤8)(hl:(m5 m).length≤450)(h:e [φ v]=φ (A6 m)):a1k [("Plain",t5),("Named",t4),("Beside",T7),("Above",X7),("Across",T6),("Down",a0G),("Turned",T8),("Dyed",a0H)] "text" e b8 [φ v]=φ (row (m5 m)):=
 (b1t (.inl rfl) h).trans (c1w 20 m hm (by lia) hl)
theorem b1T{r:Rw}(o:W8 r):a3S [W5 r]=φ (row (y6 r)):=by
 obtain⟨nm,ok,dp,len⟩:=o;have lm:=b5F len;refine Q5 (n:=0) ?_;show a3B [φ (W5 r)]=_;unfold a3B
 ext l
 cases r with
 |letR w m=>
  simp only [moR] at lm;have mt:=b4w (r:= .letR w m) (m:=m) (e:=m2 o9 (b0 0) (mC (.int 2))) (v:=W5 (.letR w m)) ok dp (by lia) (Y8 rfl rfl rfl)
  simp only [y6,AQ,AO,AX] at len;have hsh:y6 (.letR w m)=((a2f++[32])++w)++[32,61,32]++m5 m:=by
   ext y
  rw [hsh];refine x4 (q _ _ a3Z a2f _ rfl) ?_;exact ad (ad (ad (T1 b4l _) (Y8 rfl rfl rfl) (by simp;lia)) (T1 b0i _) (by simp;lia)) mt (by simp;lia)
 |againR k w m=>
  simp only [moR] at lm;have mt:=b4w (r:= .againR k w m) (m:=m) (e:=m2 o9 (b0 0) (mC (.int 3))) (v:=W5 (.againR k w m)) ok dp (by lia) (Y8 rfl rfl rfl)
  simp only [y6,AQ,AO,AX] at len;have hsh:y6 (.againR k w m)=((((M0++[32])++dg k)++[32])++w)++[32,61,32]++m5 m:=by
   ext y
  rw [hsh];refine(d3 (q _ _ a3Z M0 _ rfl)).trans ?_;refine x4 (q _ _ a2D M0 _ rfl) ?_;exact ad (ad (ad (ad (ad (T1 b2c _) (one (Y8 rfl rfl rfl) (b1U (by have:=nm.1.2;lia))) (by simp;lia)) (T1 c1t _) (by simp;lia)) (Y8 rfl rfl rfl) (by simp;lia)) (T1 b0i _) (by simp;lia)) mt (by simp;lia)
 |knotR m=>
  simp only [moR] at lm;have mt:=b4w (r:= .knotR m) (m:=m) (e:=m2 o9 (b0 0) (mC (.int 1))) (v:=W5 (.knotR m)) ok dp (by lia) (Y8 rfl rfl rfl)
  simp only [y6,AQ,AO,AX] at len;have hsh:y6 (.knotR m)=(M1++[32])++m5 m:=by
   ext y
  rw [hsh];refine(d3 (q _ _ a3Z M1 _ rfl)).trans ?_;refine(d3 (q _ _ a2D M1 _ rfl)).trans ?_;exact S6 (ad (T1 b5s _) mt (by simp;lia))
theorem b1m{L:List (List Nat)}{y:g0}(hy:PyData.items? y.rd=ξ (L.map row))(hn:L.length≤1000)(hl:∀t∈L,t.length≤450):M5 (.v (.str (S [10]))) y=φ (row (m6 [10] L)):=by
 refine Z7 hy ?_;have:∀M:List (List Nat),(∀t∈M,t.length≤450)→(M.map (·.length)).sum≤450*M.length:=λM=>by
  induction M with
  |nil=>intro _;simp
  |cons a M ih=>
   intro h;have:=ih λt ht=>h t (Af _ ht);have:=h a AZ;simp only [AT,List.sum_cons,AO]
   lia
 have:=this L hl;simp only [List.length_singleton]
 lia
theorem b0S{rs:List Rw}(hn:rs.length≤1000)(ho:∀r∈rs,W8 r):a6c [.list (rs.map W5)]=φ (row (m6 [10] (rs.map y6))):=by
 have cm:=W2 (ι:=W5) (f:=λr=>row (y6 r)) (k:=1) (it:=A3 (b0 0)) (elt:=a2U) (tg:=u8 1) (ρ:=[φ (.list (rs.map W5))]) rs
  (a32 (r:= .v (.list (rs.map W5))) rfl rfl) (by lia) λr hr=>⟨_,rfl,by
   have h:=b1T (ho r hr);unfold a2U;simp! [k7,p8,j7,j0,j8,l9,AM,Ag,Ab,Ac,Aa,Ai,Aj,h]⟩
 have em:(rs.map λr=>row (y6 r))=(rs.map y6).map row:=by rw [BC];rfl
 rw [em] at cm;have jn:=b1m (L:=rs.map y6) (y:= .own ((rs.map y6).map row)) rfl (by rw [AY];exact hn) (λt ht=>by
  obtain⟨r,hr,rfl⟩:=BA.mp ht;have:=(ho r hr).len
  lia)
 refine a9n (x:=m2 M5 (mC (.str (AD "\n"))) (O3 1 (A3 (b0 0)) (u8 1) W3 a2U)) ?_;exact Y8 (T1 c0P _) cm jn
abbrev obF:List (Str×Bool):=[("Plain",false),("Named",false),("Beside",false),("Above",false),("Across",false),("Down",false),("Turned",false),("Dyed",false)]
theorem c1M{a b:M}{ρ:b9}{r:g0}(h:a ρ=ξ r):b1q a b ρ=ξ r:=by
 unfold b1q;rw [h]
theorem c34{a b:M}{ρ:b9}(h:a ρ=ζ):b1q a b ρ=b ρ:=by
 unfold b1q;rw [h]
theorem c0R(m:Mo){x:M}{ρ:b9}(h:x ρ=φ (A6 m)):b1q (m1 (F8 "bool") x) (m1 (a58 obF) x) ρ=φ (.bool false):=by
 have e1:m1 (F8 "bool") x ρ=ζ:=by
  show(x ρ).bind _=_;rw [h];cases m<;>rw [A6]<;>rfl
 rw [c34 e1];show(x ρ).bind _=_;rw [h];cases m<;>rw [A6]<;>rfl
theorem b6V(r:Rw):∃(n:Int) (A:List PV),(F8 "tuple" (.v (W5 r))=φ (.bool true)∧x8 (.v (W5 r))=φ (.int n)∧x8 (.v (tvR r))=φ (.int n))∧(gSl (.v (W5 r)) ζ (ξ (-1))=φ (.tuple A)∧gSl (.v (tvR r)) ζ (ξ (-1))=φ (.tuple A)∧z6 (.tuple A) 50=true)∧o9 (.v (W5 r)) (.v (.int (-1)))=φ (A6 (moR r))∧o9 (.v (tvR r)) (.v (.int (-1)))=φ (z8 (moR r)):=by
 cases r with
 |letR w m=>exact⟨3,[row a2f,row w],⟨rfl,rfl,rfl⟩,⟨rfl,rfl,rfl⟩,rfl,rfl⟩
 |againR k w m=>exact⟨4,[row M0,.int (k:Nat),row w],⟨rfl,rfl,rfl⟩,⟨rfl,rfl,rfl⟩,rfl,rfl⟩
 |knotR m=>exact⟨2,[row M1],⟨rfl,rfl,rfl⟩,⟨rfl,rfl,rfl⟩,rfl,rfl⟩
theorem b6Y{r:Rw}(o:W8 r)(s0 s1:Υ g0):a0o [s0,s1,φ (W5 r),φ (tvR r)]=ξ (.nx [s0,s1,φ (W5 r),φ (tvR r)]):=by
 have is:a8I [A6 (moR r),z8 (moR r)]=φ (.bool true):=b8v 12 _ o.ok (by have:=o.dp;lia)
 obtain⟨n,A,⟨i0,l1,l2⟩,⟨s1',s2',ok⟩,y1,y2⟩:=b6V r;have nn:gNe (.v (.int n)) (.v (.int n))=φ (.bool false):=T5 rfl;have nt:gNe (.v (.tuple A)) (.v (.tuple A))=φ (.bool false):=T5 ok;have b1:b1q (m1 (F8 "bool") (m2 o9 (b0 2) (mC (.int 1)))) (m1 (a58 obF) (m2 o9 (b0 2) (mC (.int 1)))) [s0,s1,φ (W5 r),φ (tvR r)]=φ (.bool false):=by
  cases r with
  |letR w m=>exact c1M rfl
  |againR k w m=>exact c1M rfl
  |knotR m=>exact c0R m (Y8 rfl rfl rfl)
 unfold a0o;generalize W5 r=P at*;generalize tvR r=V at*;simp! [t7,D3,r9,k7,p8,j7,j0,j8,l9,n8,u9,p7,E9,m9,C5,r6,w4,S4,A8,x6,S2,b8B,c3a,AM,An,Bool.not_true,G1,Q3,a8Z,a1L,Int.reduceNeg,i0,l1,l2,nn,G1,a8Z,Q3,a1L,s1',s2',nt,b1,y1,y2,is]
theorem c1m{rs:List Rw}(hn:rs.length≤1000)(ho:∀r∈rs,W8 r):Z9 [.list (rs.map W5),.list (rs.map tvR)]=φ (.bool true):=by
 obtain⟨ρ1,e1,q2,q3,rfl⟩:=Z6 (body:=a0o) (tg:=a1u [2,3]) (λ_ ρ=>∃q2 q3:Υ g0,ρ=[φ (.list (rs.map W5)),φ (.list (rs.map tvR)),q2,q3])
  (ps:=rs.map λr=> .tuple [W5 r,tvR r]) (ρ:=[φ (.list (rs.map W5)),φ (.list (rs.map tvR)),ζ,ζ])
  (by
   rintro i p hp ρ ⟨q2,q3,rfl⟩;rw [Aw] at hp;obtain⟨r,hk,rfl⟩:=Option.map_eq_some_iff.mp hp;have hr:=ho r (BE hk);exact a3a (ρ1:=[φ (.list (rs.map W5)),φ (.list (rs.map tvR)),φ (W5 r),φ (tvR r)]) rfl (b6Y hr _ _) ⟨_,_,rfl⟩) ⟨ζ,ζ,rfl⟩
 have zp:Q7 (rs.map W5) (rs.map tvR)=rs.map λr=> .tuple [W5 r,tvR r]:=by
  unfold Q7;rw [List.zipWith_map,List.zipWith_self]
 have hz:b8F (a8 (b0 0) (a8 (b0 1) b8)) [φ (.list (rs.map W5)),φ (.list (rs.map tvR)),ζ,ζ]=ξ (rs.map λr=> .tuple [W5 r,tvR r]):=by
  rw [←zp]
  rfl
 have il:F8 "list" (.v (.list (rs.map W5)))=φ (.bool true):=rfl;have g1:x8 (.v (.list (rs.map W5)))=φ (.int (rs.length:Nat)):=by rw [R5,AY]
 have g2:x8 (.v (.list (rs.map tvR)))=φ (.int (rs.length:Nat)):=by rw [R5,AY]
 have nn:gNe (.v (.int (rs.length:Nat))) (.v (.int (rs.length:Nat)))=φ (.bool false):=T5 rfl;unfold Z9 a8q;simp! [t7,D3,r9,k7,p8,p0,A7,n8,u9,p7,E9,m9,o8,v7,C5,r6,w4,S4,A8,x6,S2,b8A,AM,An,AT,Ae,Ag,Ab,Ac,Aa,Bool.not_true,il,g1,g2,nn,hz,e1]
theorem a6s{p:PV}{j:Nat}(h:a7S (V2 (m1 (F8 "list") (b0 0))) (a48 P9 (a8 (m2 M5 (mC (.str "\n")) (b0 0)) b8)) (a48 P9 (a8 (b0 0) b8)) [φ p,φ (.int (j:Nat)),φ .none,ζ]=ξ (.rz (ntX j) [φ p,φ (.int (j:Nat)),φ .none,ζ])):u6 [p,.int (j:Nat)]=φ (.bool true):=by
 have tr:a64 (a7S (V2 (m1 (F8 "list") (b0 0))) (a48 P9 (a8 (m2 M5 (mC (.str "\n")) (b0 0)) b8)) (a48 P9 (a8 (b0 0) b8))) 3 (inL ["NoCloth","NoText"]) (u4 2 (b0 3)) [φ p,φ (.int (j:Nat)),φ .none,ζ]=ξ (.nx [φ p,φ (.int (j:Nat)),φ (xcV (ntX j)),ζ]):=by
  rw [b6z h (show inL ["NoCloth","NoText"] "NoText"=true by decide+kernel)]
  rfl
 have i1:b2C [("NoCloth",false),("NoText",true)] (.v (xcV (ntX j)))=φ (.bool true):=by rfl
 have i2:b2C [("NoCloth",true),("NoText",true)] (.v (xcV (ntX j)))=φ (.bool true):=by rfl
 have i3:b2C [("NoText",false)] (.v (xcV (ntX j)))=φ (.bool false):=by rfl
 have f1:gFx ["NoText"] "row" (.v (xcV (ntX j)))=φ (.int (j:Nat)):=by rfl
 have k1:F8 "int" (.v (.int (j:Nat)))=φ (.bool true):=rfl;have k2:F8 "bool" (.v (.int (j:Nat)))=φ (.bool false):=rfl;have ee:B7 (.v (.int (j:Nat))) (.v (.int (j:Nat)))=φ (.bool true):=by simp! [beq_self_eq_true,b0p]
 unfold u6 a41;simp! [t7,D3,r9,k7,p8,u0,B9,p0,A7,n8,u9,p7,E9,m9,o8,v7,C5,S4,A8,x6,S2,AM,An,AT,Ae,Ag,Ab,Ac,Aa,Ai,Aj,Bool.not_true,tr,i1,i2,i3,f1,k1,k2,ee]
theorem b1Q{L:List (List Nat)}{j:Nat}(hL:L.length≤1000)(ht:∀t∈L,t.length≤450)(rd:P9 [row (m6 [10] L)]=ξ (.inr (ntX j))):u6 [.list (L.map row),.int (j:Nat)]=φ (.bool true):=by
 refine a6s ?_;have jn:=b1m (L:=L) (y:= .v (.list (L.map row))) rfl hL ht;rw [U1,show V2 (m1 (F8 "list") (b0 0)) [φ (.list (L.map row)),φ (.int (j:Nat)),φ .none,ζ]=ξ true from rfl,AM,a7h];refine b5G (ps:=[row (m6 [10] L)]) ?_ rd;rw [c0P];simp! [t7,r9,k7,j7,j0,j8,AM,jn]
theorem a92{p:PV}(h1:F8 "str" (.v p)=φ (.bool false))(h2:F8 "list" (.v p)=φ (.bool false)):u6 [p,.int 0]=φ (.bool true):=by
 refine a6s (j:=0) ?_;have t:V2 (m1 (F8 "list") (b0 0)) [φ p,φ (.int ((0:Nat):Int)),φ .none,ζ]=ξ false:=by simp! [D3,k7,C5,S4,AM,Int.cast_ofNat_Int,h2]
 rw [U1,t,AM,a9E];exact b5G (ps:=[p]) (by simp! [k7,j7,j0,j8,AM,Int.cast_ofNat_Int]) (b9o h1)
theorem b4B(c:Int){k:Nat}(hk:k≤100):∃N:Int,E7 [.int c,.int (k:Nat)]=φ (.int N):=by
 refine⟨c % 10 ^ 18*(2*(k:Int)+3)+(k:Int)*k, ?_⟩;have m1:t8 (.v (.int (k:Nat))) (.v (.int (k:Nat)))=φ (.int ((k:Int)*k)):=b5j (by lia)
 unfold E7 a51;simp! [O2,b5j,b8b,b8c,t7,r9,k7,p8,p0,A7,o8,v7,AM,AT,Ae,Ab,Al,Int.reducePow,Int.reduceToNat,m1]
 try rfl
theorem a80:M6 []=ξ (.own (a0E.map row)):=by
 refine Q5 (n:=0) ?_
 rfl
theorem b9Y{ns:List Int}:∃c:Int,a0m [.list (ns.map .int),.int 0]=φ (.int c):=by
 cases ns with
 |nil=>exact⟨0,Q5 (n:=0) rfl⟩
 |cons a ns=>
  refine⟨a,Q5 (n:=0) ?_⟩;have gl:x8 (.v (.list ((a::ns).map .int)))=φ (.int ((a::ns).length:Nat)):=by rw [R5,AY]
  have t:x9 (m2 a4R (b0 1) (m1 x8 (b0 0))) [φ (.list ((a::ns).map .int)),φ (.int 0)]=ξ true:=by
   refine W6 (r:= .v (.int 0)) (q:= .v (.int ((a::ns).length:Nat))) rfl (one rfl gl) ?_;show ξ (g0.v (.bool (decide ((0:Int)<((a::ns).length:Nat)))))=_;rw [decide_eq_true (by rw [AO];lia)]
  exact x4 t (Y8 rfl rfl (a59 (b7w _ _)))
theorem b7X{j:Int}(h0:0≤j)(h1:j<5):∃w∈a0E,o9 (.own (a0E.map row)) (.v (.int j))=φ (row w):=by
 obtain⟨w,hw,e⟩:=b5e h0 h1;exact⟨w,hw,e⟩
theorem c1h{x:M}{ρ:b9}{l:List PV}(h:x ρ=ξ (.own l)):j4 x ρ=ξ (.rt (.own l)):=by
 unfold j4;rw [h]
 rfl
theorem b4W{m:MA}{ρ:b9}{ps:List PV}(h:m ρ=ξ ps)(hl:ps.length≤100):C3 m ρ=φ (.tuple ps):=by
 unfold C3;rw [h,AM,if_pos (by rw [sizeLine_eq];lia)]
theorem ma{x:M}{r:MA}{ρ:b9}{p:PV}{ps:List PV}(h:x ρ=φ p)(h2:r ρ=ξ ps):a8 x r ρ=ξ (p::ps):=by
 unfold a8;rw [h,h2]
 rfl
theorem b7u{A:List Rw}{r:Rw}{x:M}{q0 q2 q3 q4 q5:Υ g0}(hA:A.length≤100)(h:x [q0,ξ (.own (A.map tvR)),q2,q3,q4,q5]=φ (tvR r)):U5 1 x [q0,ξ (.own (A.map tvR)),q2,q3,q4,q5]=ξ (.nx [q0,ξ (.own ((A++[r]).map tvR)),q2,q3,q4,q5]):=by
 rw [a31 (r:= .v (tvR r)) (p:=tvR r) h rfl rfl (by rw [AY];lia),Ax]
 rfl
theorem b6W{ns:List Int}{i:Nat}(hi:i<ns.length)(hi2:i≤100){A:List Rw}(hA:A.length≤100)(q3 q4 q5:Υ g0):∃r q3' q4' q5',(W8 r∧isK r=false)∧a0n [φ (.list (ns.map .int)),ξ (.own (A.map tvR)),φ (.int (i:Nat)),q3,q4,q5]=ξ (.nx [φ (.list (ns.map .int)),ξ (.own ((A++[r]).map tvR)),φ (.int (i:Nat)),q3',q4',q5']):=by
 obtain⟨c,hc⟩:=b8k hi;obtain⟨N,eN⟩:=b4B c hi2;obtain⟨m,ok,hd,hl,eg⟩:=b2H N;obtain⟨w,hw,ew⟩:=b7X (j:=N*950706376 % 999917 % 5) (by lia) (by lia)
 have lw:=(a1H hw).2.2.1;have e1:i7 E7 (a8 (m2 o9 (b0 0) (b0 2)) (a8 (b0 2) b8)) [φ (.list (ns.map .int)),ξ (.own (A.map tvR)),φ (.int (i:Nat)),q3,q4,q5]=φ (.int N):=(S9 (Y8 rfl rfl hc) rfl).trans eN;have e2:m2 o9 (λ_=>M6 []) (m2 Θ (m2 Θ (m2 t8 (b0 3) (mC (.int 950706376))) (mC (.int 999917))) (mC (.int 5))) [φ (.list (ns.map .int)),ξ (.own (A.map tvR)),φ (.int (i:Nat)),φ (.int N),q4,q5]=φ (row w):=Y8 a80 (md (md (ml rfl (by lia)) rfl (by lia)) rfl (by lia)) ew
 have e3:i7 V9 (a8 (b0 3) (a8 a62 (a8 (λ_=>M6 []) (a8 (mC (.int 0)) b8)))) [φ (.list (ns.map .int)),ξ (.own (A.map tvR)),φ (.int (i:Nat)),φ (.int N),φ (row w),q5]=φ (z8 m):=by
  unfold i7 a8;rw [a80];exact eg
 have tt:x9 (m2 B7 (m2 Θ (b0 3) (mC (.int 4))) (mC (.int 1))) [φ (.list (ns.map .int)),ξ (.own (A.map tvR)),φ (.int (i:Nat)),φ (.int N),φ (row w),φ (z8 m)]=ξ (N % 4==1):=W6 (md rfl rfl (by lia)) rfl (b0p _ _)
 unfold a0n
 by_cases hb:(N % 4==1)=true
 ·obtain⟨k,hk,hk2⟩:∃k:Nat,(k:Int)=1+N*742938285 % 999959 % 24∧(1≤k∧k≤24):=⟨(1+N*742938285 % 999959 % 24).toNat,by lia,by lia⟩
  have dl:=b7K (k:=k);refine⟨.againR k w m,φ (.int N),φ (row w),φ (z8 m),⟨⟨⟨hk2,hw⟩,ok,hd, ?_⟩,rfl⟩, ?_⟩
  ·simp only [y6,AQ,AO,AX];lia
  refine(m7 e1).trans ((m7 e2).trans ((m7 e3).trans ((a8X (tt.trans (congrArg ξ hb))).trans (b7u hA ?_))));rw [a2D];refine b4W (ma rfl (ma (p:= .int (k:Nat)) ?_ (ma rfl (ma rfl rfl)))) (by simp)
  rw [hk]
  ext a6
 ·refine⟨.letR w m,φ (.int N),φ (row w),φ (z8 m),⟨⟨hw,ok,hd, ?_⟩,rfl⟩, ?_⟩
  ·simp only [y6,AQ,AO,AX];lia
  refine(m7 e1).trans ((m7 e2).trans ((m7 e3).trans ((a35 (tt.trans (congrArg ξ (Bool.eq_false_iff.mpr hb)))).trans (b7u hA ?_))));rw [a3Z];exact b4W (ma rfl (ma rfl (ma rfl rfl))) (by simp)
theorem b8x{ns:List Int}(hl:ns.length≤63):∃(rs:List Rw) (m:Mo),(∀r∈rs,W8 r∧isK r=false)∧W8 (.knotR m)∧rs.length≤39∧a5v [.list (ns.map .int)]=ξ (.own ((rs++[Rw.knotR m]).map tvR)):=by
 obtain⟨n,hn⟩:∃n:Nat,n=min ns.length 40:=⟨_,rfl⟩;obtain⟨ρ',e1,rs,q2,q3,q4,q5,hr,hrl,rfl⟩:=Z6 (body:=a0n) (tg:=u8 2) (λk ρ=>∃(A:List Rw) (q2 q3 q4 q5:Υ g0),(∀r∈A,W8 r∧isK r=false)∧A.length=k∧ρ=[φ (.list (ns.map .int)),ξ (.own (A.map tvR)),q2,q3,q4,q5])
  (ps:=a2X 1 (n:Nat)) (ρ:=[φ (.list (ns.map .int)),ξ (.own []),ζ,ζ,ζ,ζ])
  (by
   rintro i p hp ρ ⟨A,q2,q3,q4,q5,hA,hAl,rfl⟩;have hi:i<((n:Int) - 1).toNat:=by
    have:=(Au.mp hp).1
    rwa [a6t] at this
   rw [a9l hi] at hp;cases hp;obtain⟨r,a,b,c,hr,h⟩:=b6W (ns:=ns) (i:=i+1) (by lia) (by lia) (A:=A) (by lia) q3 q4 q5
   have ei:((1:Int)+(i:Nat))=((i+1:Nat):Int):=by lia
   rw [ei];exact a3a (ρ1:=[φ (.list (ns.map .int)),ξ (.own (A.map tvR)),φ (.int ((i+1:Nat):Int)),q3,q4,q5]) rfl h ⟨A++[r],_,_,_,_,λx hx=>(Av.mp hx).elim (hA x) (λh=>by rw [List.mem_singleton.mp h];exact hr),by rw [AQ,hAl];rfl,rfl⟩)
  ⟨[],ζ,ζ,ζ,ζ,λ_ h=>(by cases h),rfl,rfl⟩
 rw [a6t] at hrl;have it:b5A (a8 (mC (.int 1)) (a8 (m2 (gI λi j=> .int (if j<i then j else i)) (m1 x8 (b0 0)) (mC (.int 40))) b8)) [φ (.list (ns.map .int)),ξ (.own []),ζ,ζ,ζ,ζ]=ξ (a2X 1 (n:Nat)):=by
  have gl:x8 (.v (.list (ns.map .int)))=φ (.int (ns.length:Nat)):=by rw [R5,AY]
  have em:(if(40:Int)<(ns.length:Nat) then(40:Int) else(ns.length:Nat))=(n:Nat):=by split<;>lia
  have e2:m2 (gI λi j=> .int (if j<i then j else i)) (m1 x8 (b0 0)) (mC (.int 40)) [φ (.list (ns.map .int)),ξ (.own []),ζ,ζ,ζ,ζ]=φ (.int (n:Nat)):=by
   refine Y8 (one rfl gl) rfl ?_;show ξ (g0.v (.int (if(40:Int)<(ns.length:Nat) then(40:Int) else(ns.length:Nat))))=_
   rw [em]
  rw [b6y,ma rfl (ma e2 rfl),AM];exact c1j ⟨by lia,by lia,by lia⟩
 obtain⟨c,hc⟩:=b9Y (ns:=ns);obtain⟨N,eN⟩:=b4B c (k:=5) (by lia)
 obtain⟨m,ok,hd,hml,eg⟩:=b2H N;have e3:i7 E7 (a8 (i7 a0m (a8 (b0 0) (a8 (mC (.int 0)) b8))) (a8 (mC (.int 5)) b8)) [φ (.list (ns.map .int)),ξ (.own (rs.map tvR)),q2,q3,q4,q5]=φ (.int N):=(S9 ((S9 rfl rfl).trans hc) rfl).trans eN;have e4:i7 V9 (a8 (b0 3) (a8 a62 (a8 (λ_=>M6 []) (a8 (mC (.int 0)) b8)))) [φ (.list (ns.map .int)),ξ (.own (rs.map tvR)),q2,φ (.int N),q4,q5]=φ (z8 m):=by
  unfold i7 a8;rw [a80];exact eg
 refine⟨rs,m,hr,⟨trivial,ok,hd,by simp only [y6,AQ,AO,AX];lia⟩,by lia, ?_⟩
 refine Q5 (n:=5) ?_;show a5l [φ (.list (ns.map .int)),ζ,ζ,ζ,ζ,ζ]=_;unfold a5l;refine(J8 (l:=[]) rfl).trans ((a3M it e1).trans ((m7 e3).trans ?_));rw [a8P,Ax];exact c1h (Y8 (r:= .bor (rs.map tvR)) (q:= .own [tvR (.knotR m)]) rfl (b6w (b4W (ps:=[row M1,z8 m]) (ma rfl (ma e4 rfl)) (by simp))) (b1g (by rw [AY,sizeLine_eq];simp;lia)))
theorem a2W{rs:List Rw}{b:List Nat}{ts:List (List Nat)}(hr:∀r∈rs,W8 r∧isK r=false)(hn:rs.length≤40)(hb:b41 (rs.length+(ts.length+1)) rs.length b)(hbt:Tx b)(hts:∀t∈ts,Tx t)(hl:ts.length≤41 - rs.length):u6 [.list ((rs.map y6++b::ts).map row),.int (rs.length:Nat)]=φ (.bool true):=by
 have all:∀t∈rs.map y6++b::ts,Tx t:=λt ht=>by
  rcases Av.mp ht with h|h
  ·obtain⟨r,hr',rfl⟩:=BA.mp h;exact(hr r hr').1.tx
  ·rcases Ah.mp h with rfl|h
   ·exact hbt
   ·exact hts t h
 have len:(rs.map y6++b::ts).length=rs.length+(ts.length+1):=by simp
 exact b1Q (by lia) (λt ht=>(all t ht).len) (b9n hr hn hb all hl)
theorem b7J{α:Type}{l:List α}{k:Nat}(h:k≤l.length):cut l ζ (ξ (k:Int))=l.take k:=by
 unfold cut;rw [HT.sIx_none,HT.sIx_nat,Nat.min_eq_left h,List.drop_zero,Nat.sub_zero]
theorem b7H{α:Type}{l:List α}{k:Nat}(h:k≤l.length):cut l (ξ (k:Int)) ζ=l.drop k:=by
 unfold cut;rw [HT.sIx_none,HT.sIx_nat,Nat.min_eq_left h,List.take_of_length_le (by rw [List.length_drop];lia)]
theorem b7I{α:Type}{l:List α}{x:α}:cut (l++[x]) ζ (ξ (-1))=l:=by
 unfold cut;have:HT.sIx (l++[x]).length (l++[x]).length (ξ (-1))=l.length:=by
  unfold HT.sIx;dsimp only;rw [if_pos (by lia),AQ,List.length_singleton]
  lia
 rw [HT.sIx_none,this,List.drop_zero,Nat.sub_zero,List.take_left]
theorem c1p{L:List (List Nat)}{k:Nat}{i:Nat}{ρ:b9}(h:k≤L.length)(h0:b0 0 ρ=φ (.list (L.map row)))(hi:b0 i ρ=φ (.int (k:Nat))):E3 (b0 0) N5 (C0 (b0 i)) ρ=ξ (.own ((L.take k).map row)):=by
 rw [G1,h0,AM];show(((b0 i ρ).bind a8K).bind _)=_;rw [hi];show ξ (g0.own (cut (L.map row) ζ (ξ ((k:Nat):Int))))=_;rw [b7J (by rw [AY];exact h),List.map_take]
theorem b5Q{L:List (List Nat)}{k:Nat}{e:M}{ρ:b9}(h:k≤L.length)(h0:b0 0 ρ=φ (.list (L.map row)))(hi:e ρ=φ (.int (k:Nat))):E3 (b0 0) (C0 e) N5 ρ=ξ (.own ((L.drop k).map row)):=by
 rw [G1,h0,AM];show(((e ρ).bind a8K).bind _)=_;rw [hi];show ξ (g0.own (cut (L.map row) (ξ ((k:Nat):Int)) ζ))=_;rw [b7H (by rw [AY];exact h),List.map_drop]
theorem a7s{g:RF}{x y:M}{ρ:b9}{l:List PV}{q:PV}(h1:x ρ=ξ (.own l))(h2:y ρ=φ q):i7 g (a8 x (a8 y b8)) ρ=g [.list l,q]:=by
 unfold i7 a8;rw [h1,h2]
 rfl
theorem glued{A B:List (List Nat)}{b:List Nat}{x y:M}{ρ:b9}(h4:b0 4 ρ=ξ (.bor (A.map row)))(hx:x ρ=φ (row b))(hy:y ρ=ξ (.own (B.map row)))(hl:A.length+B.length≤1000):m2 l8 (m2 l8 (b0 4) (B4 (a8 x b8))) y ρ=ξ (.own ((A++b::B).map row)):=by
 have e1:m2 l8 (b0 4) (B4 (a8 x b8)) ρ=ξ (.own (A.map row++[row b])):=Y8 h4 (b6w hx) (b1g (by rw [AY,sizeLine_eq];simp;lia))
 refine(Y8 e1 hy (b5h (by rw [AQ,AY,AY,sizeLine_eq];simp;lia))).trans ?_
 rw [Ax,List.append_assoc]
 rfl
abbrev sA(L:List (List Nat))(N w:Int)(a:Nat)(q:Υ g0):b9:=[φ (.list (L.map row)),φ (.int N),φ (.int w),φ (.int (a:Nat)),ξ (.own ((L.take a).map row)),q]
theorem c49:AD "kk"=S [107,107]:=by decide+kernel
theorem c23:AD "let k = k"=S [108,101,116,32,107,32,61,32,107]:=by decide+kernel
theorem b5v:y6 (.letR [107] (.named [107]))=[108,101,116,32,107,32,61,32,107]:=by
 show a2f++32::([107]++32::61::32::m5 (.named [107]))=_;rw [m5]
 rfl
theorem c0E:W8 (.letR [107] (.named [107])):=by
 have l:=a6Y (w:=[107]) (by decide)
 refine⟨show [107]∈a0E by decide,l.1, ?_, ?_⟩
 ·show B2 (.named [107])≤8;rw [l.2.1]
  lia
 ·rw [b5v]
  decide
theorem b6u:Q0 [row (y6 (.letR [107,107] R9))]=φ .none:=by
 have h:=b1p;have hl:(y6 (.letR [107,107] R9)).length=401:=by simp only [y6,AQ,AO,AX,h]
 have gl:=a0F (l:=y6 (.letR [107,107] R9)) (by lia)
 rw [hl] at gl;have v4:U2= .int 400:=rfl;have d:decide ((400:Int)<((401:Nat):Int))=true:=rfl;unfold Q0 a8t;rw [v4];generalize row (y6 (.letR [107,107] R9))=X at*;simp! [a12,t7,D3,r9,k7,n8,p7,o8,r6,w4,AM,AT,Ae,Ag,Ab,Ac,Aa,Int.cast_ofNat_Int,gl,d]
 try rfl
theorem c0G:Tx (y6 (.letR [107,107] R9)):=by
 have h:=b1p;refine⟨by simp only [y6,AQ,AO,AX,h];lia, ?_⟩
 have e:y6 (.letR [107,107] R9)=[108,101,116,32,107,107,32,61,32]++m5 R9:=rfl;rw [e];exact B0 (by decide) (a5O 8 _ b5w b5y)
theorem b2e{α:Type}{l:List α}{x:α}:L2.atI (l++[x]) (-1)=ξ x:=by
 unfold L2.atI L2.ixN;rw [if_neg (by lia),AQ,List.length_singleton,if_pos (by lia),AM]
 have:(-1+((l.length+1:Nat):Int)).toNat=l.length:=by lia
 rw [this,List.getElem?_append_right (AV _),Nat.sub_self]
 rfl
theorem b7v{rs:List Rw}{m:Mo}(hr:∀r∈rs,W8 r∧isK r=false)(hk:W8 (.knotR m))(hn:rs.length≤39)(N:Int):a3R [.list (((rs++[Rw.knotR m]).map y6).map row),.int N]=φ (.bool true):=by
 obtain⟨L,hL⟩:∃L,L=(rs++[Rw.knotR m]).map y6:=⟨_,rfl⟩;have hL2:L=rs.map y6++[y6 (.knotR m)]:=by rw [hL,Ax];rfl
 rw [←hL];have hlen:L.length=rs.length+1:=by rw [hL];simp
 ext r
 obtain⟨a,ha,ha2⟩:∃a:Nat,(a:Int)=N*48271 % 1000003 %(L.length:Int)∧a≤rs.length:=by
  have h1:=Int.emod_nonneg (N*48271 % 1000003) (b:=(L.length:Int)) (by lia)
  have h2:=Int.emod_lt_of_pos (N*48271 % 1000003) (b:=(L.length:Int)) (by lia)
  exact⟨(N*48271 % 1000003 %(L.length:Int)).toNat,by lia,by lia⟩
 obtain⟨w,hw⟩:∃w:Int,w=N*39373 % 999953 % 6:=⟨_,rfl⟩;have tk:L.take a=(rs.take a).map y6:=by rw [hL2,List.take_append_of_le_length (by rw [AY];exact ha2),List.map_take]
 have tx:∀t∈L,Tx t:=λt ht=>by
  rw [hL] at ht;obtain⟨r,h,rfl⟩:=BA.mp ht;rcases Av.mp h with h|h
  ·exact(hr r h).1.tx
  ·rw [List.mem_singleton.mp h];exact hk.tx
 have tr:∀r∈rs.take a,W8 r∧isK r=false:=λr h=>hr r (List.mem_of_mem_take h);have tl:(rs.take a).length=a:=by rw [List.length_take];lia
 have mid:∀(b:List Nat) (k:Nat),a≤k→k≤L.length→Tx b→b41 (a+((L.drop k).length+1)) a b→u6 [.list ((L.take a++b::L.drop k).map row),.int (a:Nat)]=φ (.bool true):=λb k hak hk2 hb hs=>by
  rw [tk];have:=a2W (rs:=rs.take a) (b:=b) (ts:=L.drop k) tr (by lia) (by rw [tl];exact hs) hb (λt ht=>tx t (List.mem_of_mem_drop ht)) (by rw [List.length_drop,tl];lia)
  rw [tl] at this;exact this
 have s1:m2 Θ (m2 Θ (m2 t8 (b0 1) (mC (.int 39373))) (mC (.int 999953))) (mC (.int 6)) [φ (.list (L.map row)),φ (.int N),ζ,ζ,ζ,ζ]=φ (.int w):=by
  rw [hw];exact md (md (ml rfl (by lia)) rfl (by lia)) rfl (by lia)
 have s2:m2 Θ (m2 Θ (m2 t8 (b0 1) (mC (.int 48271))) (mC (.int 1000003))) (m1 x8 (b0 0)) [φ (.list (L.map row)),φ (.int N),φ (.int w),ζ,ζ,ζ]=φ (.int (a:Nat)):=by
  rw [ha];exact md (md (ml rfl (by lia)) rfl (by lia)) (one rfl gl) (by lia)
 have s3:=c1p (L:=L) (k:=a) (i:=3) (ρ:=[φ (.list (L.map row)),φ (.int N),φ (.int w),φ (.int (a:Nat)),ζ,ζ]) (by lia) rfl rfl
 have tw:∀j:Int,x9 (m2 B7 (b0 2) (mC (.int j))) (sA L N w a ζ)=ξ (w==j):=λj=>W6 rfl rfl (b0p _ _);have yes:∀j:Int,w=j→x9 (m2 B7 (b0 2) (mC (.int j))) (sA L N w a ζ)=ξ true:=λj h=>(tw j).trans (congrArg ξ (beq_iff_eq.mpr h));have nay:∀j:Int,w≠j→x9 (m2 B7 (b0 2) (mC (.int j))) (sA L N w a ζ)=ξ false:=λj h=>(tw j).trans (congrArg ξ (beq_eq_false_iff_ne.mpr h));have dr:(L.drop a).length=L.length - a:=List.length_drop;have sd:=b5Q (L:=L) (k:=a) (e:=b0 3) (ρ:=(sA L N w a ζ)) (by lia) rfl rfl
 have tkl:(L.take a).length+(L.drop a).length≤1000:=by rw [List.length_take,dr];lia
 have lst:m2 o9 (b0 0) (a63 (mC (.int 1))) (sA L N w a ζ)=φ (row (y6 (.knotR m))):=by
  refine Y8 rfl rfl (a59 ?_);rw [hL2,Ax];exact b2e
 refine Q5 (n:=4) ?_;show a3x [φ (.list (L.map row)),φ (.int N),ζ,ζ,ζ,ζ]=_;unfold a3x;refine(m7 s1).trans ((m7 s2).trans ((J8 s3).trans ?_))
 by_cases h0:w=0
 ·obtain⟨b,hb,eb⟩:=b7A N;have sd1:=b5Q (L:=L) (k:=a+1) (e:=m2 l8 (b0 3) (mC (.int 1))) (ρ:=(sA L N w a ζ)) (by lia) rfl (by show m2 l8 _ _ _=φ (.int ((a:Int)+1));exact adI rfl rfl)
  have dr1:(L.drop (a+1)).length=L.length - (a+1):=List.length_drop;exact x4 (yes 0 h0) ((a7s (glued rfl ((V7 rfl).trans eb) sd1 (by lia)) rfl).trans (mid b (a+1) (by lia) (by lia) hb.tx (.inl hb.no)))
 refine(d3 (nay 0 h0)).trans ?_
 by_cases h1:w=1
 ·exact x4 (yes 1 h1) ((a7s (glued rfl lst sd tkl) rfl).trans (mid _ a (by lia) (by lia) hk.tx (.inr ⟨_,a9m hk,.inr (by rw [dr,decide_eq_false (by lia)];exact Bool.noConfusion)⟩)))
 refine(d3 (nay 1 h1)).trans ?_;have t2:x9 (m2 (gI λi j=> .bool (decide (j<i))) (m1 x8 (b0 0)) (mC (.int 1))) (sA L N w a ζ)=ξ (decide ((1:Int)<(L.length:Nat))):=W6 (one rfl gl) rfl rfl
 by_cases h2:w=2∧1<L.length
 ·rw [decide_eq_true (by lia)] at t2
  have hne:rs≠[]:=λz=>by rw [z] at hlen;simp at hlen;lia
  obtain⟨rs',r,hrs⟩:∃rs' r,rs=rs'++[r]:=⟨rs.dropLast,rs.getLast hne,(List.dropLast_concat_getLast hne).symm⟩;have hor:=hr r (by rw [hrs];simp)
  have lr:rs.length=rs'.length+1:=by rw [hrs];simp
  have sl:E3 (b0 0) N5 (C0 (a63 (mC (.int 1)))) (sA L N w a ζ)=ξ (.own ((rs'.map y6++y6 r::[]).map row)):=by
   show ξ (g0.own (cut (L.map row) ζ (ξ (-1))))=_;rw [hL2,Ax,List.map_singleton,b7I,hrs,Ax]
   rfl
  have ix:m2 (gI λi j=> .int (i - j)) (m1 x8 (b0 0)) (mC (.int 2)) (sA L N w a ζ)=φ (.int (rs'.length:Nat)):=by
   rw [show((rs'.length:Nat):Int)=(L.length:Nat) - 2 by lia]
   exact Y8 (one rfl gl) rfl rfl
  refine x4 (b7r (yes 2 h2.1) t2) ((a7s sl ix).trans ?_);exact a2W (λx hx=>hr x (by rw [hrs];exact BG _ hx)) (by lia) (.inr ⟨_,a9m hor.1,.inr (by rw [hor.2,decide_eq_true (by simp)];exact Bool.noConfusion)⟩) hor.1.tx (λt ht=>by cases ht) (by simp)
 have f2:Y9 (x9 (m2 B7 (b0 2) (mC (.int 2)))) (x9 (m2 (gI λi j=> .bool (decide (j<i))) (m1 x8 (b0 0)) (mC (.int 1)))) (sA L N w a ζ)=ξ false:=by
  by_cases hw2:w=2
  ·refine b7r (yes 2 hw2) (t2.trans (congrArg ξ (decide_eq_false ?_)));intro z;exact h2 ⟨hw2,by lia⟩
  ·unfold Y9;rw [nay 2 hw2]
   rfl
 refine(d3 f2).trans ?_
 by_cases h3:w=3
 ·exact x4 (yes 3 h3) ((a7s (glued rfl ((V7 (T1 c49 _)).trans (b5x (by simp))) sd tkl) rfl).trans (mid _ a (by lia) (by lia) c0G (.inl b6u)))
 refine(d3 (nay 3 h3)).trans ?_
 by_cases h4:w=4
 ·obtain⟨x0,L',hx⟩:∃x0 L',L=x0::L':=by
   cases L with
   |nil=>simp at hlen
   |cons x0 L'=>exact⟨_,_,rfl⟩
  have i0:m2 o9 (b0 0) (mC (.int 0)) (sA L N w a ζ)=φ (row x0):=by
   refine Y8 rfl rfl (a59 ?_);rw [hx,AT];exact b7w _ _
  have l2:B4 (a8 (m2 o9 (b0 0) (mC (.int 0))) (a8 (mC (.str (AD "let k = k"))) b8)) (sA L N w a ζ)=ξ (.own [row x0,row (y6 (.letR [107] (.named [107])))]):=by
   unfold B4;rw [ma i0 (ma (T1 c23 _) rfl),b5v];show(if 2≤AN then ξ (g0.own _) else ζ)=_
   rw [if_pos (by rw [sizeLine_eq];decide)]
  have gi:m1 b2A (m2 B7 (m1 x8 (b0 0)) (mC (.int 1))) (sA L N w a ζ)=φ (.int (if((L.length:Int)==1)=true then 1 else 0)):=one (Y8 (one rfl gl) rfl (b0p _ _)) rfl
  obtain⟨r0,o0,e0⟩:∃r0,(W8 r0∧isK r0=false)∧m2 o9 (B4 (a8 (m2 o9 (b0 0) (mC (.int 0))) (a8 (mC (.str (AD "let k = k"))) b8))) (m1 b2A (m2 B7 (m1 x8 (b0 0)) (mC (.int 1)))) (sA L N w a ζ)=φ (row (y6 r0)):=by
   by_cases h:((L.length:Int)==1)=true
   ·rw [if_pos h] at gi;exact⟨_,⟨c0E,rfl⟩,Y8 l2 gi rfl⟩
   ·rw [if_neg h] at gi;have:(L.length:Int)≠1:=λz=>h (beq_iff_eq.mpr z);cases hrs:rs with
    |nil=>rw [hrs] at hlen;simp at hlen;lia
    |cons r0 rs'=>
     have:x0=y6 r0:=by
      rw [hL2,hrs] at hx;injection hx with hx _
      exact hx.symm
     rw [this] at l2;exact⟨r0,hr r0 (by rw [hrs];exact AZ),Y8 l2 gi rfl⟩
  have mu:m2 t8 (B4 (a8 (b0 5) b8)) (mC (.int 40)) (sA L N w a (φ (row (y6 r0))))=ξ (.own (((AU 40 r0).map y6).map row)):=Y8 (b6w rfl) rfl (by rw [a6U ⟨⟨by lia,by lia⟩,by simp⟩];rfl)
  have lst':m2 o9 (b0 0) (a63 (mC (.int 1))) (sA L N w a (φ (row (y6 r0))))=φ (row (y6 (.knotR m))):=by
   refine Y8 rfl rfl (a59 ?_);rw [hL2,Ax];exact b2e
  have ar:=Y8 (g:=l8) (s:= .own (((AU 40 r0).map y6++y6 (.knotR m)::[]).map row)) mu (b6w lst') ((b5h (by rw [AY,AY,List.length_replicate,sizeLine_eq];simp)).trans (by rw [Ax];rfl))
  have rf:=a2W (rs:=AU 40 r0) (b:=y6 (.knotR m)) (ts:=[]) (λx hx=>by rw [(List.mem_replicate.mp hx).2];exact o0) (by simp) (.inr ⟨_,a9m hk,.inl (by simp)⟩) hk.tx (λt ht=>by cases ht) (by simp)
  rw [List.length_replicate] at rf;exact b4S ((a8X (yes 4 h4)).trans ((m7 e0).trans (S6 ((a7s ar rfl).trans rf))))
 refine(d3 (nay 4 h4)).trans ?_;obtain⟨b,hb,eb⟩:=b7A (N / 7);exact S6 ((a7s (glued rfl ((V7 (Y8 rfl rfl (b77 (by lia)))).trans eb) sd tkl) rfl).trans (mid b a (by lia) (by lia) hb.tx (.inl hb.no)))
abbrev sB(ns:List Int)(R:List Rw)(L:List (List Nat))(a b c:Υ g0):b9:=[φ (.list (ns.map .int)),φ (.list (R.map tvR)),a,φ (row (m6 [10] L)),φ (.list (R.map W5)),b,c]
theorem c4V{rs:List Rw}{m:Mo}(hr:∀r∈rs,W8 r∧isK r=false)(hk:W8 (.knotR m))(hn:rs.length≤39){ns:List Int}{i:Nat}(hi:i<ns.length)(hi2:i≤100){L:List (List Nat)}(hL:L=(rs++[Rw.knotR m]).map y6){s2:Υ g0}(h2:s2=ξ (.own (L.map row))∨s2=φ (.list (L.map row)))(q1 q3 q4 q6:Υ g0):a6g [φ (.list (ns.map .int)),q1,s2,q3,q4,φ (.int (i:Nat)),q6]=ξ (.nx [φ (.list (ns.map .int)),q1,φ (.list (L.map row)),q3,q4,φ (.int (i:Nat)),q6]):=by
 have fz:∀nn:MS,a2t 2 nn [φ (.list (ns.map .int)),q1,s2,q3,q4,φ (.int (i:Nat)),q6]=nn [φ (.list (ns.map .int)),q1,φ (.list (L.map row)),q3,q4,φ (.int (i:Nat)),q6]:=λnn=>by rcases h2 with rfl|rfl<;>rfl
 obtain⟨c,hc⟩:=b8k hi;obtain⟨N,eN⟩:=b4B c hi2;have e:m2 l8 (m2 l8 (m2 t8 (i7 E7 (a8 (m2 o9 (b0 0) (b0 5)) (a8 (b0 5) b8))) (mC (.int 5))) (m2 t8 (mC (.int 3)) (b0 5))) (mC (.int 1)) [φ (.list (ns.map .int)),q1,φ (.list (L.map row)),q3,q4,φ (.int (i:Nat)),q6]=φ (.int (N*5+3*(i:Nat)+1)):=adI (adI (ml ((S9 (Y8 rfl rfl hc) rfl).trans eN) (by lia)) (mlv rfl rfl (by lia))) rfl
 unfold a6g;rw [fz];have ask:=b7v hr hk hn (N*5+3*(i:Nat)+1);rw [←hL] at ask;exact(a35 (b6C (a7V ((S9 rfl e).trans ask)))).trans rfl
theorem c4W{p:PV}(h1:F8 "str" (.v p)=φ (.bool false))(h2:F8 "list" (.v p)=φ (.bool false))(q0 q1 q2 q3 q4 q5:Υ g0):a6h [q0,q1,q2,q3,q4,q5,φ p]=ξ (.nx [q0,q1,q2,q3,q4,q5,φ p]):=by
 unfold a6h;exact(a35 (b6C (a7V ((S9 rfl rfl).trans (a92 h1 h2))))).trans rfl
theorem k_S:AD "k"=S [107]:=by decide+kernel
theorem c4t:AD "\nknot k"=S (10::(M1++[32,107])):=by decide+kernel
theorem c44:AD ""=S []:=by decide+kernel
theorem b2O:W8 (.letR [107] R9):=by
 have h:=b1p;exact⟨show [107]∈a0E by decide,b5y,b5w,by simp only [y6,AQ,AO,AX,h];lia⟩
theorem b2N:W8 (.knotR (.named [107])):=by
 have l:=a6Y (w:=[107]) (by decide)
 refine⟨trivial,l.1, ?_, ?_⟩
 ·show B2 (.named [107])≤8;rw [l.2.1]
  lia
 ·have:=l.2.2;simp only [y6,AQ,AO,AX]
  lia
theorem b4n:y6 (.letR [107] R9)++10::(M1++[32,107])=m6 [10] (([Rw.letR [107] R9]++[Rw.knotR (.named [107])]).map y6):=by
 have:y6 (.knotR (.named [107]))=M1++[32,107]:=by
  show M1++32::m5 (.named [107])=_;rw [m5]
 rw [←this];show _=m6 [10] [y6 (.letR [107] R9),y6 (.knotR (.named [107]))];rw [Y0]
 rfl
theorem c2p{g:RF}{x:M}{ρ:b9}{l:List PV}(h1:x ρ=ξ (.own l)):i7 g (a8 x b8) ρ=g [.list l]:=by
 unfold i7 a8;rw [h1]
 rfl
theorem main:∀ns:List Int,ns.length≤63→c1V [.list (ns.map .int)]=φ (.bool true):=by
 intro ns hl;obtain⟨rs,m,hr,hk,hn,er⟩:=b8x hl;obtain⟨R,hR⟩:∃R,R=rs++[Rw.knotR m]:=⟨_,rfl⟩;obtain⟨L,hL⟩:∃L,L=R.map y6:=⟨_,rfl⟩;have rl:=b0I hr hk hn;have all:∀r∈R,W8 r:=λr h=>by
  rw [hR] at h;exact(Av.mp h).elim (λh=>(hr r h).1) λh=>by rw [List.mem_singleton.mp h];exact hk
 have len:R.length=rs.length+1:=by rw [hR];simp
 have M3:L.length=rs.length+1:=by rw [hL,AY,len]
 rw [←hR] at er rl;rw [←hL] at rl;have htx:∀t∈L,t.length≤450:=λt ht=>by
  rw [hL] at ht;obtain⟨r,h,rfl⟩:=BA.mp ht;exact(all r h).tx.len
 have e2:O3 1 (A3 (b0 1)) (u8 7) W3 a6i [φ (.list (ns.map .int)),ξ (.own (R.map tvR)),ζ,ζ,ζ,ζ,ζ]=ξ (.own (L.map row)):=by
  have cm:=W2 (ι:=tvR) (f:=λr=>row (y6 r)) (k:=1) (it:=A3 (b0 1)) (elt:=a6i) (tg:=u8 7) (ρ:=[φ (.list (ns.map .int)),ξ (.own (R.map tvR)),ζ,ζ,ζ,ζ,ζ]) R
   (a32 (r:= .bor (R.map tvR)) rfl rfl) (by lia) λr hr=>⟨_,rfl,by
    have h:=c0F (all r hr);unfold a6i;rw [V7 (p:=tvR r) rfl,h]
    rfl⟩
  rw [cm,hL,BC]
  rfl
 have e3:m2 M5 (mC (.str (AD "\n"))) (b0 2) [φ (.list (ns.map .int)),ξ (.own (R.map tvR)),ξ (.own (L.map row)),ζ,ζ,ζ,ζ]=φ (row (m6 [10] L)):=Y8 (T1 c0P _) rfl (b1m (y:= .bor (L.map row)) rfl (by lia) htx)
 have same:=c1m (rs:=R) (by lia) all
 have shown:=b0S (rs:=R) (by lia) all
 rw [←hL] at shown;have nl:gNe (.v (row (m6 [10] L))) (.v (row (m6 [10] L)))=φ (.bool false):=T5 rfl;have e5:a2t 1 (a2t 4 (n5 (K5 (A4 (V2 (i7 Z9 (a8 (b0 4) (a8 (b0 1) b8))))) (x9 (m2 gNe (i7 a6c (a8 (b0 4) b8)) (b0 3)))) (j4 (mC (.bool false))) j1)) [φ (.list (ns.map .int)),ξ (.own (R.map tvR)),ξ (.own (L.map row)),φ (row (m6 [10] L)),ξ (.own (R.map W5)),ζ,ζ]=ξ (.nx (sB ns R L (ξ (.own (L.map row))) ζ ζ)):=by
  have:=b6L (b6C (a7V ((S9 (x:=b0 4) (y:=b0 1) (ρ:=(sB ns R L (ξ (.own (L.map row))) ζ ζ)) rfl rfl).trans same))) (W6 (y:=b0 3) ((V7 (x:=b0 4) rfl).trans shown) rfl nl);exact(a35 this).trans rfl
 obtain⟨n,hn8⟩:∃n:Nat,n=min ns.length 8:=⟨_,rfl⟩;obtain⟨ρ',e6,s2,q5,hs2,rfl⟩:=Z6 (body:=a6g) (tg:=u8 5) (λ_ ρ=>∃s2 q5:Υ g0,(s2=ξ (.own (L.map row))∨s2=φ (.list (L.map row)))∧ρ=(sB ns R L s2 q5 ζ))
  (ps:=(Aq n).map λk=> .int (k:Nat)) (ρ:=(sB ns R L (ξ (.own (L.map row))) ζ ζ))
  (by
   rintro i p hp ρ ⟨s2,q5,h2,rfl⟩;obtain⟨rfl,hi⟩:=a6r hp;exact a3a (ρ1:=(sB ns R L s2 (φ (.int (i:Nat))) ζ)) rfl (c4V hr hk hn (by lia) (by lia) (by rw [hL,hR]) h2 _ _ _ _) ⟨_,_,.inr rfl,rfl⟩)
  ⟨_,_,.inl rfl,rfl⟩
 have it:a34 (a8 (m2 (gI λi j=> .int (if j<i then j else i)) (m1 x8 (b0 0)) (mC (.int 8))) b8) (sB ns R L (ξ (.own (L.map row))) ζ ζ)=ξ ((Aq n).map λk=> .int (k:Nat)):=by
  refine a4I ?_ (by lia)
  have gl:x8 (.v (.list (ns.map .int)))=φ (.int (ns.length:Nat)):=by rw [R5,AY]
  have em:(if(8:Int)<(ns.length:Nat) then(8:Int) else(ns.length:Nat))=(n:Nat):=by split<;>lia
  refine Y8 (one rfl gl) rfl ?_;show ξ (g0.v (.int (if(8:Int)<(ns.length:Nat) then(8:Int) else(ns.length:Nat))))=_
  rw [em]
 obtain⟨ρ',e7,q6,rfl⟩:=Z6 (body:=a6h) (tg:=u8 6) (λ_ ρ=>∃q6:Υ g0,ρ=(sB ns R L s2 q5 q6))
  (ps:=[.none,.int 1,.bool true,.tuple [.str (AD "knot k")],.dict []]) (ρ:=(sB ns R L s2 q5 ζ))
  (by
   rintro i p hp ρ ⟨q6,rfl⟩;have hp:=BE hp;refine a3a (ρ1:=(sB ns R L s2 q5 (φ p))) rfl (c4W ?_ ?_ _ _ _ _ _ _) ⟨_,rfl⟩
   ·simp only [Ah,List.not_mem_nil,or_false] at hp;rcases hp with rfl|rfl|rfl|rfl|rfl<;>rfl
   ·simp only [Ah,List.not_mem_nil,or_false] at hp;rcases hp with rfl|rfl|rfl|rfl|rfl<;>rfl)
  ⟨_,rfl⟩
 have e8:a2t 2 (n5 (A4 (V2 (i7 u6 (a8 (m2 b2z (b0 2) (B4 (a8 (mC (.str (AD ""))) b8))) (a8 (m2 (gI λi j=> .int (i - j)) (m1 x8 (b0 2)) (mC (.int 1))) b8))))) (j4 (mC (.bool false))) j1) (sB ns R L s2 q5 q6)=ξ (.nx (sB ns R L (φ (.list (L.map row))) q5 q6)):=by
  have fz:∀nn:MS,a2t 2 nn (sB ns R L s2 q5 q6)=nn (sB ns R L (φ (.list (L.map row))) q5 q6):=λnn=>by rcases hs2 with rfl|rfl<;>rfl
  rw [fz]
  ext r
  have ar:m2 b2z (b0 2) (B4 (a8 (mC (.str (AD ""))) b8)) (sB ns R L (φ (.list (L.map row))) q5 q6)=ξ (.own ((rs.map y6++y6 (.knotR m)::[[]]).map row)):=by
   refine Y8 (r:= .v (.list (L.map row))) (q:= .own [row []]) rfl (b6w (T1 c44 _)) ?_;show(if(L.map row).length+1≤AN then ξ (g0.own (L.map row++[row []])) else ζ)=_
   rw [if_pos (by rw [AY,sizeLine_eq];lia),hL,hR]
   simp only [Ax,List.append_assoc,AT,Ae,Ac,Aa]
  have ix:m2 (gI λi j=> .int (i - j)) (m1 x8 (b0 2)) (mC (.int 1)) (sB ns R L (φ (.list (L.map row))) q5 q6)=φ (.int (rs.length:Nat)):=by
   rw [show((rs.length:Nat):Int)=(L.length:Nat) - 1 by lia]
   exact Y8 (one rfl gl) rfl rfl
  have rf:=a2W (ts:=[[]]) hr (by lia) (.inr ⟨_,a9m hk,.inr (by rw [decide_eq_false (by simp)];exact Bool.noConfusion)⟩) hk.tx (λt ht=>by rw [List.mem_singleton.mp ht];exact⟨by simp,λx hx=>by cases hx⟩) (by simp;lia)
  exact(a35 (b6C (a7V ((a7s ar ix).trans rf)))).trans rfl
 have hr1:∀r∈[Rw.letR [107] R9],W8 r∧isK r=false:=λr h=>by rw [List.mem_singleton.mp h];exact⟨b2O,rfl⟩
 have lk:∀ρ:b9,m2 l8 (i7 Z8 (a8 (mC (.str (AD "k"))) b8)) (mC (.str (AD "\nknot k"))) ρ=φ (row (m6 [10] (([Rw.letR [107] R9]++[Rw.knotR (.named [107])]).map y6))):=λρ=>by
  rw [←b4n];exact ad ((V7 (T1 k_S _)).trans (b5x (by simp))) (T1 c4t _) (by have:=b2O.len;simp;lia)
 have rl1:=b0I hr1 b2N (by simp)
 have sh1:=b0S (rs:=[Rw.letR [107] R9]++[Rw.knotR (.named [107])]) (by simp) (λr h=>(Av.mp h).elim (λh=>(hr1 r h).1) λh=>by rw [List.mem_singleton.mp h];exact b2N)
 have nz:gNe (.v (row (m6 [10] (([Rw.letR [107] R9]++[Rw.knotR (.named [107])]).map y6)))) (.v (row (m6 [10] (([Rw.letR [107] R9]++[Rw.knotR (.named [107])]).map y6))))=φ (.bool false):=T5 rfl;generalize row (m6 [10] (([Rw.letR [107] R9]++[Rw.knotR (.named [107])]).map y6))=Z at lk rl1 sh1 nz;refine Q5 (n:=6) ?_;show b7z [φ (.list (ns.map .int)),ζ,ζ,ζ,ζ,ζ,ζ]=_;unfold b7z;refine(J8 ((V7 rfl).trans er)).trans ((J8 e2).trans ((m7 e3).trans ((J8 ((V7 rfl).trans rl)).trans ((a7g e5).trans ((a3M it e6).trans ((a3M rfl e7).trans ((a7g e8).trans ?_)))))));refine(d3 (W6 ((c2p ((V7 (lk _)).trans rl1)).trans sh1) (lk _) nz)).trans ?_;exact S6 ((a7s ((V7 rfl).trans rl) rfl).trans same)
seal L2.PE L2.PS L2.PSs L2.PT L2.PW L2.PA L2.PG L2.PGs L2.PI
def S3(i:Nat):Stmt:=PySem.Challenge.pw_carpetkin_k23_programs_read.main.body.getD i (.Pass ⟨0,0,0,0⟩)
abbrev a20:Stmt:=S3 84
theorem a5b:g8 [ϡi,"_law_at"] [ϡi,"_law_at"] (d4 a20):=S1
abbrev a4d:Stmt:=S3 86
theorem a6z:g8 ["_law_number_here","_law_rows_here","_law_letters","_law_wide","_law_r","_law_row","_law_c","_law_mixed"] ["_law_number_here"] (d4 a4d):=S1
abbrev a5F:Stmt:=S3 87
theorem a7E:g8 ["_law_number_here","_law_names_here"] ["_law_number_here","_law_names_here"] (d4 a5F):=S1
abbrev a5K:Stmt:=S3 89
theorem a7J:g8 ["_law_number_here","_law_tree","_law_other","_law_way","_law_many","_law_letters","_law_turns"] ["_law_number_here","_law_tree","_law_other"] (d4 a5K):=S1
abbrev a5E:Stmt:=S3 90
theorem a7D:g8 ["_law_word","_law_dims",ϡc,"_law_size_here"] ["_law_word","_law_dims"] (d4 a5E):=S1
theorem a9T:List.Nodup (α:=Str) ["_law_tree","_law_known","_law_word","_law_dims","_law_bad_here","_law_size_here","_law_part"]:=by decide+kernel
theorem a9U:List.Nodup (α:=Str) ["_law_tree","_law_known","_law_word","_law_dims","_law_bad_here","0_law_size_here","_law_size_here"]:=by decide+kernel
abbrev a21:Stmt:=S3 91
theorem a4k:g8 ["_law_tree","_law_known","_law_word","_law_dims","_law_bad_here","_law_size_here"] ["_law_tree","_law_known"] (d4 a21):=S1
theorem a9V:List.Nodup (α:=Str) ["_law_tree","_law_word","_law_part"]:=by decide+kernel
abbrev a22:Stmt:=S3 88
theorem a4l:g8 ["_law_tree","_law_word"] ["_law_tree"] (d4 a22):=S1
abbrev a4b:Stmt:=S3 92
theorem a6x:g8 ["_law_number_here","_law_known","_law_names_here","_law_most","_law_tree","_law_step_here","_law_mixed","_law_new","_law_size_here","_law_fits"] ["_law_number_here","_law_known","_law_names_here","_law_most"] (d4 a4b):=S1
abbrev a19:Stmt:=S3 83
theorem a4i:g8 ["_law_script","_law_k"] ["_law_script","_law_k"] (d4 a19):=S1
abbrev a4c:Stmt:=S3 85
theorem a6y:g8 [] [] (d4 a4c):=S1
abbrev a5I:Stmt:=S3 96
theorem a7H:g8 ["_law_script","_law_rows_here","_law_at","_law_number_here","_law_name","_law_tree"] ["_law_script"] (d4 a5I):=S1
abbrev a7e:Stmt:=S3 47
theorem a9v:g8 ["text","at","first","last","end"] ["text","at","first","last"] (d4 a7e):=S1
abbrev a2b:Stmt:=S3 48
theorem a4m:g8 ["text","at"] ["text","at"] (d4 a2b):=S1
abbrev a0Q:Stmt:=S3 52
theorem a2x:g8 ["word"] ["word"] (d4 a0Q):=S1
abbrev a7c:Stmt:=S3 61
theorem a9t:g8 ["word"] ["word"] (d4 a7c):=S1
theorem b2W:List.Nodup (α:=Str) ["thing","sign"]:=by decide+kernel
abbrev a9q:Stmt:=S3 13
theorem b0P:g8 ["thing"] ["thing"] (d4 a9q):=S1
theorem a9R:List.Nodup (α:=Str) ["thing","row"]:=by decide+kernel
theorem a9S:List.Nodup (α:=Str) ["thing","row"]:=by decide+kernel
abbrev a5C:Stmt:=S3 14
theorem a7B:g8 ["thing"] ["thing"] (d4 a5C):=S1
abbrev a25:Stmt:=S3 20
theorem a5c:g8 ["text","cloth"] ["text"] (d4 a25):=S1
abbrev a5L:Stmt:=S3 62
theorem a7K:g8 ["text","at","end","rows"] ["text","at"] (d4 a5L):=S1
abbrev a18:Stmt:=S3 49
theorem a4h:g8 ["text","at"] ["text","at"] (d4 a18):=S1
abbrev a4e:Stmt:=S3 50
theorem a6A:g8 ["word"] ["word"] (d4 a4e):=S1
abbrev a0d:Stmt:=S3 51
theorem a1P:g8 ["word","least","most","number"] ["word","least","most"] (d4 a0d):=S1
abbrev a4g:Stmt:=S3 66
theorem a6C:g8 ["text","at","end"] ["text","at"] (d4 a4g):=S1
abbrev a1n:Stmt:=S3 69
theorem a3g:g8 ["text","at"] ["text","at"] (d4 a1n):=S1
abbrev a4L:Stmt:=S3 70
theorem a5M:g8 ["text","at","left","found"] ["text","at","left"] (d4 a4L):=S1
abbrev a4M:Stmt:=S3 64
theorem a5N:g8 ["text","word","at","left","found"] ["text","word","at","left"] (d4 a4M):=S1
abbrev Y5:Stmt:=S3 65
theorem a0R:g8 ["text","at","left","found"] ["text","at","left"] (d4 Y5):=S1
abbrev N7:Stmt:=S3 71
theorem S7:g8 ["text","word","at","left"] ["text","word","at","left"] (d4 N7):=S1
abbrev a23:Stmt:=S3 72
theorem a4n:g8 ["text","at","left","end","word"] ["text","at","left"] (d4 a23):=S1
abbrev a24:Stmt:=S3 63
theorem a4o:g8 ["text","at","left","parts","found"] ["text","at","left"] (d4 a24):=S1
abbrev a0w:Stmt:=S3 67
theorem a1r:g8 ["text","word","at","left","end","found","many"] ["text","word","at","left"] (d4 a0w):=S1
abbrev a1O:Stmt:=S3 68
theorem a29:g8 ["text","word","at","left","found"] ["text","word","at","left"] (d4 a1O):=S1
abbrev a26:Stmt:=S3 73
theorem a5d:g8 ["text","found"] ["text"] (d4 a26):=S1
abbrev a5B:Stmt:=S3 75
theorem a7A:g8 ["left","motif","words","many"] ["left","motif"] (d4 a5B):=S1
abbrev a9r:Stmt:=S3 74
theorem b0Q:g8 ["left","motif"] ["left","motif"] (d4 a9r):=S1
abbrev a2d:Stmt:=S3 76
theorem a4q:g8 ["word","rest","halves","motif"] ["word","rest"] (d4 a2d):=S1
abbrev a5D:Stmt:=S3 77
theorem a7C:g8 ["rest","motif"] ["rest"] (d4 a5D):=S1
abbrev a9s:Stmt:=S3 78
theorem b0R:g8 ["text","halves"] ["text"] (d4 a9s):=S1
abbrev b4N:Stmt:=S3 79
theorem b5P:g8 ["text","texts","program","place","written","row"] ["text"] (d4 b4N):=S1
abbrev a6v:Stmt:=S3 94
theorem a7f:g8 [ϡc,"_law_tree","_law_word","_law_sort_told","_law_one","_law_part"] [ϡc,"_law_tree"] (d4 a6v):=S1
abbrev a5J:Stmt:=S3 101
theorem a7I:g8 [ϡc,"_law_rows_here","_law_one","_law_row"] [ϡc,"_law_rows_here"] (d4 a5J):=S1
abbrev a5G:Stmt:=S3 95
theorem a7F:g8 ["_law_row"] ["_law_row"] (d4 a5G):=S1
abbrev a2a:Stmt:=S3 97
theorem a4j:g8 ["_law_lines","_law_place","_law_refused_here","e"] ["_law_lines","_law_place"] (d4 a2a):=S1
abbrev a2c:Stmt:=S3 21
theorem a4p:g8 ["cloth"] ["cloth"] (d4 a2c):=S1
abbrev a2Z:Stmt:=a0x (S3 36) 1
theorem a5a:g8 ["self"] ["self"] (d4 a2Z):=S1
abbrev a2Y:Stmt:=a0x (S3 37) 1
theorem a49:g8 ["self"] ["self"] (d4 a2Y):=S1
abbrev a01:Stmt:=a0x (S3 39) 2
theorem a2e:g8 ["self"] ["self"] (d4 a01):=S1
abbrev a0t:Stmt:=a0x (S3 40) 2
theorem a1o:g8 ["self"] ["self"] (d4 a0t):=S1
abbrev a0u:Stmt:=a0x (S3 38) 2
theorem a1p:g8 ["self"] ["self"] (d4 a0u):=S1
abbrev a1M:Stmt:=a0x (S3 41) 2
theorem a27:g8 ["self"] ["self"] (d4 a1M):=S1
abbrev a1N:Stmt:=a0x (S3 43) 2
theorem a28:g8 ["self"] ["self"] (d4 a1N):=S1
abbrev a0v:Stmt:=a0x (S3 42) 2
theorem a1q:g8 ["self"] ["self"] (d4 a0v):=S1
theorem a5y:List.Nodup (α:=Str) ["parts","part"]:=by decide+kernel
abbrev U6:Stmt:=S3 34
theorem a0e:g8 ["parts"] ["parts"] (d4 U6):=S1
abbrev a4f:Stmt:=S3 80
theorem a6B:g8 ["row"] ["row"] (d4 a4f):=S1
theorem b4x:List.Nodup (α:=Str) ["program","row"]:=by decide+kernel
abbrev b1S:Stmt:=S3 81
theorem b3o:g8 ["program"] ["program"] (d4 b1S):=S1
abbrev a7d:Stmt:=S3 98
theorem a9u:g8 ["_law_number_here","_law_some"] ["_law_number_here"] (d4 a7d):=S1
abbrev a5H:Stmt:=S3 99
theorem a7G:g8 ["_law_name"] ["_law_name"] (d4 a5H):=S1
abbrev a4a:Stmt:=S3 100
theorem a6w:g8 ["_law_lines","_law_number_here","_law_way","_law_at","_law_front","_law_first"] ["_law_lines","_law_number_here"] (d4 a4a):=S1
theorem b8M:List.Nodup (α:=Str) ["_law_script","_law_rows_here","_law_lines","_law_text_here",ϡc,"_law_at","_law_thing","_law_row"]:=by decide+kernel
abbrev b9t:Stmt:=S3 102
theorem b9w:g8 ["_law_script","_law_rows_here","_law_lines","_law_text_here",ϡc,"_law_at","_law_thing"] ["_law_script"] (d4 b9t):=S1
structure MoB(K:AE)(mg:Str→Υ AB):Prop where
 Zcb:mg "ValueError"=ζ
 Zfp:mg "all"=ζ
 Zea:mg "bool"=ζ
 Zcu:mg "enumerate"=ζ
 Ze2:mg "int"=ζ
 Zae:mg "isinstance"=ζ
 Za0:mg "len"=ζ
 Zfd:mg "list"=ζ
 Zfq:mg "max"=ζ
 Zge:mg "min"=ζ
 Zcv:mg "range"=ζ
 Zcw:mg "str"=ζ
 Zb7:mg "tuple"=ζ
 Zgf:mg "zip"=ζ
 nl:c0Q K=true
abbrev b0N:Stmt:=a0x (S3 6) 0
theorem b4Q:g8 ["self","row"] ["self","row"] (d4 b0N):=S1
abbrev b3n:Stmt:=a0x (S3 36) 0
theorem b61:g8 ["self","rows"] ["self","rows"] (d4 b3n):=S1
abbrev b3m:Stmt:=a0x (S3 37) 0
theorem b60:g8 ["self","name"] ["self","name"] (d4 b3m):=S1
abbrev b0M:Stmt:=a0x (S3 38) 0
theorem b4P:g8 ["self","parts"] ["self","parts"] (d4 b0M):=S1
abbrev b3l:Stmt:=a0x (S3 39) 0
theorem b6Z:g8 ["self","parts"] ["self","parts"] (d4 b3l):=S1
abbrev b0L:Stmt:=a0x (S3 40) 0
theorem b4O:g8 ["self","many","part"] ["self","many","part"] (d4 b0L):=S1
abbrev b5N:Stmt:=a0x (S3 41) 0
theorem b9u:g8 ["self","many","part"] ["self","many","part"] (d4 b5N):=S1
abbrev b0O:Stmt:=a0x (S3 42) 0
theorem b4R:g8 ["self","way","part"] ["self","way","part"] (d4 b0O):=S1
abbrev b5O:Stmt:=a0x (S3 43) 0
theorem b9v:g8 ["self","one","other","part"] ["self","one","other","part"] (d4 b5O):=S1
structure Ad where
 Zau:AA
 Zav:AA
 Zam:AA
 Zaw:AA
 Zan:AA
 Za9:AA
 Zao:AA
 Zba:AA
 Zc4:AA
 Za1:AA
 Za2:AA
 Zas:AA
 Zap:AA
 Zaq:AA
 Zax:AA
 Zay:AA
 Zar:AA
structure Oc(K:AE)(mg:Str→Υ AB)(a:Ad):Prop where
 kc_Plain:KC K "Plain" a.Zau
 kc_Named:KC K "Named" a.Zav
 kc_Beside:KC K "Beside" a.Zam
 kc_Above:KC K "Above" a.Zaw
 kc_Across:KC K "Across" a.Zan
 kc_Down:KC K "Down" a.Za9
 kc_Turned:KC K "Turned" a.Zao
 kc_Dyed:KC K "Dyed" a.Zba
 fi_Plain_text:PySem.W.findIn K (.ref a.Zau) "text"=ξ (ξ (.ref a.Za1))
 fi_Named_text:PySem.W.findIn K (.ref a.Zav) "text"=ξ (ξ (.ref a.Za2))
 fi_Beside_text:PySem.W.findIn K (.ref a.Zam) "text"=ξ (ξ (.ref a.Zaq))
 fi_Above_text:PySem.W.findIn K (.ref a.Zaw) "text"=ξ (ξ (.ref a.Zas))
 fi_Across_text:PySem.W.findIn K (.ref a.Zan) "text"=ξ (ξ (.ref a.Zap))
 fi_Down_text:PySem.W.findIn K (.ref a.Za9) "text"=ξ (ξ (.ref a.Zax))
 fi_Turned_text:PySem.W.findIn K (.ref a.Zao) "text"=ξ (ξ (.ref a.Zar))
 fi_Dyed_text:PySem.W.findIn K (.ref a.Zba) "text"=ξ (ξ (.ref a.Zay))
 fld_many:a0N K ["Across","Down"] "many"
 fld_name:a0N K ["Named"] "name"
 fld_one:a0N K ["Dyed"] "one"
 fld_other:a0N K ["Dyed"] "other"
 fld_part:a0N K ["Across","Down","Turned","Dyed"] "part"
 fld_parts:a0N K ["Beside","Above"] "parts"
 fld_rows:a0N K ["Plain"] "rows"
 fld_way:a0N K ["Turned"] "way"
 mg_Above:mg "Above"=ξ (.ref a.Zaw)
 mg_Across:mg "Across"=ξ (.ref a.Zan)
 mg_Beside:mg "Beside"=ξ (.ref a.Zam)
 mg_Down:mg "Down"=ξ (.ref a.Za9)
 mg_Dyed:mg "Dyed"=ξ (.ref a.Zba)
 mg_Motif:mg "Motif"=ξ (.ref a.Zc4)
 mg_Named:mg "Named"=ξ (.ref a.Zav)
 mg_Plain:mg "Plain"=ξ (.ref a.Zau)
 mg_Turned:mg "Turned"=ξ (.ref a.Zao)
 iso_Above:U8 K (.ref a.Zaw) [("Plain",false),("Named",false),("Beside",false),("Above",true),("Across",false),("Down",false),("Turned",false),("Dyed",false)]
 iso_Across:U8 K (.ref a.Zan) [("Plain",false),("Named",false),("Beside",false),("Above",false),("Across",true),("Down",false),("Turned",false),("Dyed",false)]
 iso_Beside:U8 K (.ref a.Zam) [("Plain",false),("Named",false),("Beside",true),("Above",false),("Across",false),("Down",false),("Turned",false),("Dyed",false)]
 iso_Down:U8 K (.ref a.Za9) [("Plain",false),("Named",false),("Beside",false),("Above",false),("Across",false),("Down",true),("Turned",false),("Dyed",false)]
 iso_Dyed:U8 K (.ref a.Zba) [("Plain",false),("Named",false),("Beside",false),("Above",false),("Across",false),("Down",false),("Turned",false),("Dyed",true)]
 iso_Motif:U8 K (.ref a.Zc4) [("Plain",true),("Named",true),("Beside",true),("Above",true),("Across",true),("Down",true),("Turned",true),("Dyed",true)]
 iso_Named:U8 K (.ref a.Zav) [("Plain",false),("Named",true),("Beside",false),("Above",false),("Across",false),("Down",false),("Turned",false),("Dyed",false)]
 iso_Plain:U8 K (.ref a.Zau) [("Plain",true),("Named",false),("Beside",false),("Above",false),("Across",false),("Down",false),("Turned",false),("Dyed",false)]
 iso_Turned:U8 K (.ref a.Zao) [("Plain",false),("Named",false),("Beside",false),("Above",false),("Across",false),("Down",false),("Turned",true),("Dyed",false)]
 iso_bool:U8 K (.type "bool") [("Plain",false),("Named",false),("Beside",false),("Above",false),("Across",false),("Down",false),("Turned",false),("Dyed",false)]
section
variable (P:AK)(w:AJ)(K:AE)(mg:Str→Υ AB)(base:Heap)(a:Ad)
abbrev a2B:Prop:=r8 P w K mg base "_law_number" [ϡi,"_law_at"] 1 E7
abbrev a3r:Prop:=r8 P w K mg base "_law_plain" ["_law_number_here"] 1 a1J
abbrev a8h:Prop:=r8 P w K mg base "_law_leaf" ["_law_number_here","_law_names_here"] 2 a1d
abbrev a8l:Prop:=r8 P w K mg base "_law_step" ["_law_number_here","_law_tree","_law_other"] 1 a0a
abbrev a5g:Prop:=r8 P w K mg base "_law_laid" ["_law_word","_law_dims"] 1 a2O
abbrev b3L:Prop:=r8 P w K mg base "_law_size" ["_law_tree","_law_known"] 13 a2P
abbrev a8m:Prop:=r8 P w K mg base "_law_text" ["_law_tree"] 13 E2
abbrev a7k:Prop:=r8 P w K mg base "_law_grown" ["_law_number_here","_law_known","_law_names_here","_law_most"] 14 V9
abbrev a4X:Prop:=r8 P w K mg base "_law_cell_at" ["_law_script","_law_k"] 1 a0m
abbrev a7l:Prop:=r8 P w K mg base "_law_names" [] 1 M6
abbrev a8j:Prop:=r8 P w K mg base "_law_rows" ["_law_script"] 15 a5v
abbrev a6I:Prop:=r8 P w K mg base "run_end" ["text","at","first","last"] 1 a2p
abbrev S8:Prop:=r8 P w K mg base "letters_end" ["text","at"] 2 K2
abbrev a3c:Prop:=r8 P w K mg base "is_small_word" ["word"] 3 a3f
abbrev a2h:Prop:=r8 P w K mg base "is_name" ["word"] 4 a02
abbrev b19:Prop:=r8 P w K mg base "is_row" ["thing"] 1 a6a
abbrev a8f:Prop:=r8 P w K mg base "is_cloth" ["thing"] 2 a2M
abbrev a5Y:Prop:=a6G P w K mg base "read_cloth" ["text"] 3 X8
abbrev a5i:Prop:=r8 P w K mg base "plain_at" ["text","at"] 4 a2Q
abbrev a1R:Prop:=r8 P w K mg base "figures_end" ["text","at"] 2 T9
abbrev a7m:Prop:=r8 P w K mg base "number_in" ["word"] 3 a7u
abbrev Z2:Prop:=r8 P w K mg base "number_between" ["word","least","most"] 4 L6
abbrev a3s:Prop:=r8 P w K mg base "times_end" ["text","at"] 5 a1K
abbrev a05:Prop:=r8 P w K mg base "is_colour_at" ["text","at"] 3 L5
abbrev b3M:Prop:=r8 P w K mg base "motif_at" ["text","at","left"] 45 a5w
structure Q9(k:Nat)(Zah Zai Zab Zaa k9 Zag Zad Zaf:List PV→Υ g0):Prop where
 Zc9:r8 P w K mg base "dyed_at" ["text","at","left"] k Zah
 Zda:r8 P w K mg base "laid_at" ["text","word","at","left"] k Zai
 Zbb:r8 P w K mg base "last_part_at" ["text","at","left"] k Zab
 Zbf:r8 P w K mg base "made_of_parts_at" ["text","word","at","left"] k Zaa
 Zbw:r8 P w K mg base "motif_at" ["text","at","left"] k k9
 Zc5:r8 P w K mg base "parts_at" ["text","at","left"] k Zag
 Zb8:r8 P w K mg base "repeated_at" ["text","word","at","left"] k Zad
 Zcx:r8 P w K mg base "turned_at" ["text","word","at","left"] k Zaf
abbrev a2C:Prop:=r8 P w K mg base "read_motif" ["text"] 46 J5
abbrev a8e:Prop:=r8 P w K mg base "again_of" ["left","motif"] 5 a2L
abbrev b2a:Prop:=r8 P w K mg base "let_of" ["left","motif"] 5 a6b
abbrev a4Z:Prop:=r8 P w K mg base "telling_row" ["word","rest"] 47 O6
abbrev a8g:Prop:=r8 P w K mg base "knot_row" ["rest"] 47 a2N
abbrev b2b:Prop:=r8 P w K mg base "row_of" ["text"] 48 Q0
abbrev b3N:Prop:=a6G P w K mg base "read" ["text"] 49 P9
abbrev b7n:Prop:=r8 P w K mg base "_law_is" [ϡc,"_law_tree"] 13 a8I
abbrev a8k:Prop:=r8 P w K mg base "_law_same" [ϡc,"_law_rows_here"] 14 Z9
abbrev a8i:Prop:=r8 P w K mg base "_law_line" ["_law_row"] 14 a5u
abbrev a1S:Prop:=r8 P w K mg base "_law_refused" ["_law_lines","_law_place"] 50 u6
abbrev a4Y:Prop:=r8 P w K mg base "shown_cloth" ["cloth"] 1 U0
abbrev J4:Prop:=R8 P w K mg base a.Za1 ["self"] 2 t5
abbrev J3:Prop:=R8 P w K mg base a.Za2 ["self"] 1 t4
abbrev b00:Prop:=R8 P w K mg base a.Zas ["self"] 22 X7
abbrev a9K:Prop:=R8 P w K mg base a.Zap ["self"] 22 T6
abbrev a9L:Prop:=R8 P w K mg base a.Zaq ["self"] 22 T7
abbrev b17:Prop:=R8 P w K mg base a.Zax ["self"] 22 a0G
abbrev b18:Prop:=R8 P w K mg base a.Zay ["self"] 22 a0H
abbrev a9M:Prop:=R8 P w K mg base a.Zar ["self"] 22 T8
structure I0(k:Nat)(i9 g9 i4 j5 j6 i5 Zac:List PV→Υ g0):Prop where
 Zbe:R8 P w K mg base a.Zas ["self"] k i9
 Za6:R8 P w K mg base a.Zap ["self"] k g9
 Za5:R8 P w K mg base a.Zaq ["self"] k i4
 Zbj:R8 P w K mg base a.Zax ["self"] k j5
 Zbk:R8 P w K mg base a.Zay ["self"] k j6
 Za7:R8 P w K mg base a.Zar ["self"] k i5
 Zbx:r8 P w K mg base "written_parts" ["parts"] k Zac
abbrev a7n:Prop:=r8 P w K mg base "shown_row" ["row"] 23 a3S
abbrev b43:Prop:=r8 P w K mg base "shown" ["program"] 24 a6c
abbrev a97:Prop:=r8 P w K mg base "_law_bad" ["_law_number_here"] 1 a4E
abbrev a5h:Prop:=r8 P w K mg base "_law_long" ["_law_name"] 1 Z8
abbrev a7j:Prop:=r8 P w K mg base "_law_asked" ["_law_lines","_law_number_here"] 51 a3R
structure Io:Prop where
 i_Above:O7 P w K mg base "Above" ["parts"] 1
 i_Across:O7 P w K mg base "Across" ["many","part"] 1
 i_Beside:O7 P w K mg base "Beside" ["parts"] 1
 i_Down:O7 P w K mg base "Down" ["many","part"] 1
 i_Dyed:O7 P w K mg base "Dyed" ["one","other","part"] 1
 i_Named:O7 P w K mg base "Named" ["name"] 1
 i_Plain:O7 P w K mg base "Plain" ["rows"] 1
 i_Turned:O7 P w K mg base "Turned" ["way","part"] 1
end
section
variable (P:AK)(w:AJ){K:AE}{mg:Str→Υ AB}(base:Heap)(a:Ad)
theorem a9Z(D:Df K mg "_law_number" a20):a2B P w K mg base:=by
 exists z0,0,a5b,el2 λ_ _=>rfl
 exact d0 (d7 (c9 d9 (c9 v9 (c9 v5 (e9 0) (c9 c02 b5 b5)) (c9 d9 (c9 v9 b5 (e9 1)) b5)) (c9 v9 (e9 1) (e9 1))))
theorem b1D(D:Df K mg "_law_plain" a4d)(M:MoB K mg):a3r P w K mg base:=by
 exists z0,0,a6z,el1 λ_=>rfl
 ext b
 ·exact l0 (i:=1) S.nd (y8 c7)
 ext b
 ·exact l0 (i:=2) S.nd (G0 b7 X5 (E6 (i6 (y8 (a9 b5 (a9 b5 (a9 b5 c7)))) (c9 v5 (e9 0) b5))))
 ext b
 ·exact l0 (i:=3) S.nd (c9 d9 b5 (c9 v5 (c9 v5 (c9 v9 (e9 0) b5) b5) b5))
 ext b
 ·refine a56 PassesOwn.never ?_ ?_ M.Zcv ?_ ?_ (a0f 4) ?_
  ·exact rfl
  ·exact rfl
  ·exact a9 (c9 d9 b5 (c9 v5 (c9 v5 (c9 v9 (e9 0) b5) b5) b5)) c7
  ·exact C6 (i:=4) S.nd rfl (Or.inl rfl)
  ext b
  ·exact l0 (i:=5) S.nd b7
  ext b
  ·refine a56 PassesOwn.never ?_ ?_ M.Zcv ?_ ?_ (a0f 6) ?_
   ·exact rfl
   ·exact rfl
   ·exact a9 (e9 3) c7
   ·exact C6 (i:=6) S.nd rfl (Or.inl rfl)
   ext b
   ·exact l0 (i:=7) S.nd (c9 v5 (c9 v9 (e9 0) (c9 d9 (c9 d9 (c9 v9 b5 (e9 4)) (c9 v9 b5 (e9 6))) b5)) b5)
   exact d0 (l0 (i:=5) S.nd (c9 d9 (e9 5) (i6 (e9 2) (c9 v5 (e9 7) (C1 A0 rfl M.Za0 (by rfl) (e9 2))))))
  exact d0 (a2m 1 (pv 1) (e9 5))
 exact d0 (d7 (w6 (a9 b7 (a9 (a3d a8x rfl M.Zb7 (by rfl) (e9 1)) c7))))
theorem b22(D:Df K mg "_law_leaf" a5F)(M:MoB K mg)(a0A:a3r P w K mg base):a8h P w K mg base:=by
 exists z0,1,a7E,el2 λ_ _=>rfl
 ext b
 ·refine j9 (PW.pt (a6Q (l7 (N6 hu) (e9 1) (y8 c7)) (a4D (l7 a6o (c9 v5 (c9 v5 (c9 v9 (e9 0) b5) b5) b5) b5)))) ?_ ?_
  ·exact d0 (d7 (w6 (a9 b7 (a9 (i6 (e9 1) (c9 v5 (c9 v5 (c9 v9 (e9 0) b5) b5) (C1 A0 rfl M.Za0 (by rfl) (e9 1)))) c7))))
  exact g6
 exact d0 (d7 (i8 a0A hr (by decide) rfl (b4 f9) (a9 (e9 0) c7)))
theorem b28(D:Df K mg "_law_step" a5K)(M:MoB K mg):a8l P w K mg base:=by
 exists z0,0,a7J,el3 λ_ _ _=>rfl
 ext b
 ·exact l0 (i:=3) S.nd (c9 v5 (c9 v5 (c9 v9 (e9 0) b5) b5) b5)
 ext b
 ·exact l0 (i:=4) S.nd (c9 d9 b5 (c9 v5 (c9 v5 (c9 v9 (e9 0) b5) b5) (i6 (y8 (a9 b5 (a9 b5 c7))) (a3d b7F rfl M.Ze2 (by rfl) (a0C (m4 hu) (c9 v5 (e9 0) b5) b5)))))
 ext b
 ·exact l0 (i:=5) S.nd b7
 ext b
 ·ext v
  ·exact l7 (m4 hu) (e9 3) b5
  ·exact b6 (l0 (i:=6) S.nd (y8 (a9 b7 (a9 b7 (a9 b7 (a9 b7 (a9 b7 (a9 b7 (a9 b7 c7))))))))) (d0 (d7 (w6 (a9 b7 (a9 (i6 (e9 6) (c9 v5 (e9 0) b5)) (a9 (e9 1) c7))))))
  exact g6
 ext b
 ·exact j9 (l7 (m4 hu) (e9 3) b5) (d0 (d7 (w6 (a9 b7 (a9 (i6 (e9 5) (c9 v5 (e9 0) b5)) (a9 (i6 (e9 5) (c9 v5 (c9 b3d (e9 0) b5) b5)) (a9 (e9 1) c7))))))) g6
 ext b
 ·exact j9 (l7 (m4 hu) (e9 3) b5) (d0 (d7 (w6 (a9 b7 (a9 (e9 4) (a9 (e9 1) c7)))))) g6
 ext b
 ·exact j9 (l7 (m4 hu) (e9 3) b5) (d0 (d7 (w6 (a9 b7 (a9 (e9 4) (a9 (e9 1) c7)))))) g6
 ext b
 ·exact j9 (l7 (m4 hu) (e9 3) b5) (d0 (d7 (w6 (a9 b7 (a9 (y8 (a9 (e9 1) (a9 (e9 2) c7))) c7))))) g6
 ext b
 ·exact j9 (l7 (m4 hu) (e9 3) b5) (d0 (d7 (w6 (a9 b7 (a9 (y8 (a9 (e9 1) (a9 (e9 2) c7))) c7))))) g6
 ext b
 ·exact j9 (l7 (m4 hu) (e9 3) b5) (d0 (d7 (w6 (a9 b7 (a9 (y8 (a9 (e9 1) (a9 (w6 (a9 b7 (a9 b7 (a9 (e9 1) c7)))) c7))) c7))))) g6
 ext b
 ·exact j9 (l7 (m4 hu) (e9 3) b5) (d0 (d7 (w6 (a9 b7 (a9 (y8 (a9 (e9 1) (a9 (w6 (a9 b7 (a9 b7 (a9 (e9 1) c7)))) (a9 (e9 1) c7)))) c7))))) g6
 exact d0 (d7 (w6 (a9 b7 (a9 (G0 (c9 v9 (y8 (a9 (e9 2) (a9 (e9 1) c7))) b5) X5 (E6 (c9 d9 b5 (c9 v5 (e9 0) b5)))) c7))))
theorem b21(D:Df K mg "_law_laid" a5E)(M:MoB K mg):a5g P w K mg base:=by
 exists z0,0,a7D,el2 λ_ _=>rfl
 ext b
 ·exact l0 (i:=2) S.nd (i6 (e9 1) b5)
 ext b
 ·refine b7Q PassesOwn.never ?_ ?_ ?_ (a0f 3) ?_
  ·exact rfl
  ·exact G0 (e9 1) (E6 b5) X5
  ·exact C6 (i:=3) S.nd rfl (Or.inl rfl)
  ext b
  ·ext v
   ·exact l7 (m4 hu) (e9 0) b7
   ·ext b
    ·exact j9 (l7 (N6 hu) (i6 (e9 3) b5) (i6 (e9 2) b5)) (d0 (d7 (w6 (a9 b7 (a9 b7 c7))))) g6
    exact d0 (l0 (i:=2) S.nd (w6 (a9 (i6 (e9 2) b5) (a9 (c9 d9 (i6 (e9 2) b5) (i6 (e9 3) b5)) c7))))
   ext b
   ·exact j9 (l7 (N6 hu) (i6 (e9 3) b5) (i6 (e9 2) b5)) (d0 (d7 (w6 (a9 b7 (a9 b7 c7))))) g6
   exact d0 (l0 (i:=2) S.nd (w6 (a9 (c9 d9 (i6 (e9 2) b5) (i6 (e9 3) b5)) (a9 (i6 (e9 2) b5) c7))))
  exact d0 (j9 (l7 a68 (C1 (b08 rfl) rfl M.Zfq (by rfl) (e9 2)) b5) (d0 (d7 (w6 (a9 b7 (a9 b7 c7))))) g6)
 exact d0 (a0l 2 (pv 2))
theorem b27{k:Nat}(hk0:1≤k){N1:List PV→Υ g0}(D:Df K mg "_law_size" a21)(M:MoB K mg)(a1a:a5g P w K mg base)(U9:r8 P w K mg base "_law_size" ["_law_tree","_law_known"] k N1):r8 P w K mg base "_law_size" ["_law_tree","_law_known"] (k+1) (m8 4 (a07 N1)):=by
 exists z0,k,a4k,el2 λ_ _=>rfl
 ext b
 ·exact l0 (i:=2) S.nd (i6 (e9 0) b5)
 ext b
 ·exact j9 (l7 (m4 hu) (e9 2) b7) (d0 (d7 (w6 (a9 (C1 A0 rfl M.Za0 (by rfl) (i6 (e9 0) b5)) (a9 (C1 A0 rfl M.Za0 (by rfl) (i6 (i6 (e9 0) b5) b5)) c7))))) g6
 ext b
 ·exact j9 (l7 (m4 hu) (e9 2) b7) (d0 (d7 (b6c 1 hu (pv 1) (i6 (e9 0) b5) (w6 (a9 b7 (a9 (i6 (e9 0) b5) c7)))))) g6
 ext b
 ·refine j9 (PW.pt (E8 (l7 (m4 hu) (e9 2) b7) (B3 (l7 (m4 hu) (e9 2) b7)))) ?_ ?_
  ·ext b
   ·refine b1b (i:=3) (ys:=["_law_part"]) (N0:=["_law_tree","_law_known","_law_word","_law_dims","_law_bad_here","_law_size_here"]) ?_ (λ_ _ h=>h) ?_ ⟨by kernel_rfl,rfl,δ rfl,δ rfl,δ rfl⟩ ?_ (λC fp pins s H=>C6 (i:=6) a9T rfl (Or.inl rfl)) (λn h=>N8 (i:=6) (Nat.le_of_eq h)) (λC fp pins s H=>a3H) ?_
    ·exact S.nd
    ·exact rfl
    ·exact a3L (i6 (e9 0) b5)
    intro C fp pins s H;exact i8 U9 hr (by lia) rfl (b4 (b4 f9)) (a9 (e9 6) (a9 (e9 1) c7))
   ext b
   ·refine b1b (i:=4) (ys:=["_law_size_here"]) (N0:=["_law_tree","_law_known","_law_word","_law_dims","_law_bad_here","0_law_size_here"]) ?_ (λ_ _ h=>h) ?_ ⟨by kernel_rfl,rfl,δ rfl,δ rfl,δ rfl⟩ ?_ (λC fp pins s H=>C6 (i:=6) a9U rfl (Or.inl rfl)) (λn h=>N8 (i:=6) (Nat.le_of_eq h)) ?_ (λC fp pins s H=>(e9 6))
    ·exact S.nd
    ·exact rfl
    ·exact a3L (e9 3)
    intro C fp pins s H;exact c2s (u7 (O8 (.inr (.inr (.inl rfl))) rfl M.Zae (i6 (e9 6) b5) (D7 rfl M.Zcw (by rfl) rfl)))
   exact b6 (j9 (l7 (N6 hu) (e9 4) (y8 c7)) (d0 (d7 (i6 (e9 4) b5))) g6) (d0 (a2K 3 (d7 (i8 a1a hr (by lia) rfl (b4 (b4 f9)) (a9 (e9 2) (a9 (e9 3) c7))))))
  exact g6
 ext b
 ·exact l0 (i:=5) S.nd (i8 U9 hr (by lia) rfl (b4 (b4 f9)) (a9 (i6 (e9 0) (a3K b5)) (a9 (e9 1) c7)))
 ext b
 ·exact j9 (PW.pt (E8 (u7 (O8 (.inr (.inr (.inl rfl))) rfl M.Zae (i6 (e9 5) b5) (D7 rfl M.Zcw (by rfl) rfl))) (B3 (l7 (m4 hu) (e9 2) b7)))) (d0 (a0l 5 (pv 5))) g6
 ext b
 ·ext v
  ·exact l7 (m4 hu) (e9 2) b7
  ·exact b6 (j9 (l7 (b5J hu) (i6 (e9 0) b5) (y8 (a9 b7 (a9 b7 (a9 b7 (a9 b7 c7)))))) (d0 (d7 (w6 (a9 (i6 (e9 5) b5) (a9 (i6 (e9 5) b5) c7))))) g6) (d0 (a0l 5 (pv 5)))
  exact g6
 ext b
 ·ext v
  ·exact l7 (m4 hu) (e9 2) b7
  ·exact d0 (l0 (i:=5) S.nd (w6 (a9 (i6 (e9 5) b5) (a9 (c9 v9 (i6 (e9 5) b5) (i6 (e9 0) b5)) c7))))
  exact d0 (l0 (i:=5) S.nd (w6 (a9 (c9 v9 (i6 (e9 5) b5) (i6 (e9 0) b5)) (a9 (i6 (e9 5) b5) c7))))
 exact b6 (j9 (l7 a68 (C1 (b08 rfl) rfl M.Zfq (by rfl) (e9 5)) b5) (d0 (d7 (w6 (a9 b7 (a9 b7 c7))))) g6) (d0 (a0l 5 (pv 5)))
theorem b1w(a2z:Df K mg "_law_size" a21)(M:MoB K mg)(a1a:a5g P w K mg base):∀n:Nat,r8 P w K mg base "_law_size" ["_law_tree","_law_known"] (1+n) (a3U n):=by
 intro n
 induction n with
 |zero=>exact n6 (k:=0) a2z a4k (λ_ _ _ _ _ _=>el2 (λ_ _=>rfl)) λf cdv A outer s H E hr=>C8
 |succ n ih=>
  exact b27 P w base (Nat.le_add_right _ _) a2z M a1a ih
theorem b29{k:Nat}(hk0:1≤k){N2:List PV→Υ g0}(D:Df K mg "_law_text" a22)(M:MoB K mg)(D9:r8 P w K mg base "_law_text" ["_law_tree"] k N2):r8 P w K mg base "_law_text" ["_law_tree"] (k+1) (m8 1 (a08 N2)):=by
 exists z0,k,a4l,el1 λ_=>rfl
 ext b
 ·exact l0 (i:=1) S.nd (i6 (e9 0) b5)
 ext b
 ·exact j9 (l7 (m4 hu) (e9 1) b7) (d0 (d7 (c9 d9 (c9 d9 b7 (a1F b7 (i6 (e9 0) b5))) b7))) g6
 ext b
 ·exact j9 (l7 (m4 hu) (e9 1) b7) (d0 (d7 (i6 (e9 0) b5))) g6
 ext b
 ·ext ao
  ·ext j
   ext ar
   ·ext ar
    ·exact c9 d9 (e9 1) b7
    refine a1F ?_ ?_
    ·exact b7
    exists y0,["_law_part"],["_law_tree","_law_word"],2,a9V
    ·exact rfl
    ·exact a3L (i6 (e9 0) b5)
    intro C fp pins s H;exact i8 D9 hr (by lia) rfl (b4 f9) (a9 (e9 2) c7)
   exact b7
  exact g6
 ext b
 ·ext ao
  ·exact d0 (d7 (c9 d9 (c9 d9 (c9 d9 (c9 d9 (c9 d9 (e9 1) b7) (a3d a8w rfl M.Zcw (by rfl) (i6 (e9 0) b5))) b7) (i8 D9 hr (by lia) rfl (b4 f9) (a9 (i6 (e9 0) b5) c7))) b7))
  exact g6
 ext b
 ·exact j9 (l7 (m4 hu) (e9 1) b7) (d0 (d7 (c9 d9 (c9 d9 (c9 d9 (i6 (e9 0) b5) b7) (i8 D9 hr (by lia) rfl (b4 f9) (a9 (i6 (e9 0) b5) c7))) b7))) g6
 exact d0 (d7 (c9 d9 (c9 d9 (c9 d9 (c9 d9 (c9 d9 (c9 d9 b7 (i6 (e9 0) b5)) b7) (i6 (e9 0) b5)) b7) (i8 D9 hr (by lia) rfl (b4 f9) (a9 (i6 (e9 0) b5) c7))) b7))
theorem b1x(a04:Df K mg "_law_text" a22)(M:MoB K mg):∀n:Nat,r8 P w K mg base "_law_text" ["_law_tree"] (1+n) (a3V n):=by
 intro n
 induction n with
 |zero=>exact n6 (k:=0) a04 a4l (λ_ _ _ _ _ _=>el1 (λ_=>rfl)) λf cdv A outer s H E hr=>C8
 |succ n ih=>
  exact b29 P w base (Nat.le_add_right _ _) a04 M ih
theorem b1B(D:Df K mg "_law_grown" a4b)(M:MoB K mg)(a2H:a8h P w K mg base)(a0A:a3r P w K mg base)(a5r:a8l P w K mg base)(U9:b3L P w K mg base)(D9:a8m P w K mg base):a7k P w K mg base:=by
 exists z0,13,a6x,el4 λ_ _ _ _=>rfl
 ext b
 ·exact l0 (i:=4) S.nd (i8 a2H hr (by decide) rfl (b4 (b4 f9)) (a9 (e9 0) (a9 (e9 2) c7)))
 ext b
 ·refine j9 (PW.pt (a6Q (l7 a68 (e9 3) b5) (a4D (u7 (O8 (.inr (.inr (.inl rfl))) rfl M.Zae (i6 (i8 U9 hr (by decide) rfl (b4 (b4 f9)) (a9 (e9 4) (a9 (e9 1) c7))) b5) (D7 rfl M.Zcw (by rfl) rfl)))))) ?_ ?_
  ·exact d0 (l0 (i:=4) S.nd (i8 a0A hr (by decide) rfl (b4 f9) (a9 (e9 0) c7)))
  exact g6
 ext b
 ·refine a56 PassesOwn.never ?_ ?_ M.Zcv ?_ ?_ (a0f 5) ?_
  ·exact rfl
  ·exact rfl
  ·exact a9 (c9 v5 (c9 v5 (c9 v9 (e9 0) b5) b5) b5) c7
  ·exact C6 (i:=5) S.nd rfl (Or.inl rfl)
  ext b
  ·exact l0 (i:=6) S.nd (c9 v5 (c9 v9 (e9 0) (c9 d9 (c9 v9 b5 (e9 5)) b5)) b5)
  ext b
  ·refine l0 (i:=7) ?_ ?_
   ·exact S.nd
   exact i8 a5r hr (by decide) rfl (b4 (b4 (b4 f9))) (a9 (e9 6) (a9 (e9 4) (a9 (i8 a2H hr (by decide) rfl (b4 (b4 f9)) (a9 (c9 d9 (c9 v9 (e9 6) b5) b5) (a9 (e9 2) c7))) c7)))
  ext b
  ·exact l0 (i:=8) S.nd (i8 U9 hr (by decide) rfl (b4 (b4 f9)) (a9 (e9 7) (a9 (e9 1) c7)))
  ext b
  ·exact l0 (i:=9) S.nd (a6O (c2v (O8 (.inr (.inr (.inl rfl))) rfl M.Zae (i6 (e9 8) b5) (D7 rfl M.Zcw (by rfl) rfl))) (a6P (a0C J7 (C1 (b08 rfl) rfl M.Zfq (by rfl) (e9 8)) (e9 3))))
  refine d0 ?_;refine j9 (PW.pt (a6Q (PW.pt (E8 (u7 (e9 9)) (B3 (l7 (m4 hu) (e9 3) b5)))) (a4D (l7 a6o (C1 A0 rfl M.Za0 (by rfl) (i8 D9 hr (by decide) rfl (b4 f9) (a9 (e9 7) c7))) b5)))) ?_ ?_
  ·exact d0 (l0 (i:=4) S.nd (e9 7))
  exact g6
 exact d0 (a0l 4 (pv 4))
theorem a88(D:Df K mg "_law_cell_at" a19)(M:MoB K mg):a4X P w K mg base:=by
 exists z0,0,a4i,el2 λ_ _=>rfl
 exact b6 (j9 (l7 a6o (e9 1) (C1 A0 rfl M.Za0 (by rfl) (e9 0))) (d0 (d7 (i6 (e9 0) (e9 1)))) g6) (d0 (d7 b5))
theorem b1C(D:Df K mg "_law_names" a4c):a7l P w K mg base:=by
 exists z0,0,a6y,el0 rfl
 exact d0 (d7 (y8 (a9 b7 (a9 b7 (a9 b7 (a9 b7 (a9 b7 c7)))))))
theorem b25(D:Df K mg "_law_rows" a5I)(M:MoB K mg)(R4:a2B P w K mg base)(a1E:a7k P w K mg base)(a1Y:a4X P w K mg base)(a0z:a7l P w K mg base):a8j P w K mg base:=by
 exists z0,14,a7H,el1 λ_=>rfl
 ext b
 ·exact l0 (i:=1) S.nd (y8 c7)
 ext b
 ·refine b7R PassesOwn.never ?_ ?_ M.Zcv ?_ ?_ (a0f 2) ?_
  ·exact rfl
  ·exact rfl
  ·exact a9 b5 (a9 (c1S (b7G rfl) rfl M.Zge (by rfl) (C1 A0 rfl M.Za0 (by rfl) (e9 0)) b5) c7)
  ·exact C6 (i:=2) S.nd rfl (Or.inl rfl)
  ext b
  ·exact l0 (i:=3) S.nd (i8 R4 hr (by decide) rfl (b4 (b4 f9)) (a9 (i6 (e9 0) (e9 2)) (a9 (e9 2) c7)))
  ext b
  ·exact l0 (i:=4) S.nd (i6 (b09 a0z hr (by decide) rfl) (c9 v5 (c9 v5 (c9 v9 (e9 3) b5) b5) b5))
  ext b
  ·exact l0 (i:=5) S.nd (i8 a1E hr (by decide) rfl (b4 (b4 (b4 (b4 f9)))) (a9 (e9 3) (a9 a8B (a9 (b09 a0z hr (by decide) rfl) (a9 b5 c7)))))
  refine d0 ?_
  ext v
  ·exact l7 (m4 hu) (c9 v5 (e9 3) b5) b5
  ·exact d0 (a2m 1 (pv 1) (w6 (a9 b7 (a9 (c9 d9 b5 (c9 v5 (c9 v5 (c9 v9 (e9 3) b5) b5) b5)) (a9 (e9 4) (a9 (e9 5) c7))))))
  exact d0 (a2m 1 (pv 1) (w6 (a9 b7 (a9 (e9 4) (a9 (e9 5) c7)))))
 ext b
 ·exact l0 (i:=3) S.nd (i8 R4 hr (by decide) rfl (b4 (b4 f9)) (a9 (i8 a1Y hr (by decide) rfl (b4 (b4 f9)) (a9 (e9 0) (a9 b5 c7))) (a9 b5 c7)))
 ext j
 exact c9 d9 (e9 1) (y8 (a9 (w6 (a9 b7 (a9 (i8 a1E hr (by decide) rfl (b4 (b4 (b4 (b4 f9)))) (a9 (e9 3) (a9 a8B (a9 (b09 a0z hr (by decide) rfl) (a9 b5 c7))))) c7))) c7))
theorem b4H(D:Df K mg "run_end" a7e)(M:MoB K mg):a6I P w K mg base:=by
 exists z0,0,a9v,el4 λ_ _ _ _=>rfl
 ext b
 ·exact l0 (i:=4) S.nd (e9 1)
 exact b6 (b2u 500 PassesOwn.never (PW.pt (a6Q (l7 a6o (e9 4) (C1 A0 rfl M.Za0 (by rfl) (e9 0))) (a4D (a2n J7 J7 (e9 2) (i6 (e9 0) (e9 4)) (e9 3))))) (d0 (c2x (i:=4) S.nd b5 b8Y))) (d0 (a0l 4 (pv 4)))
theorem a9a(D:Df K mg "letters_end" a2b)(a2k:a6I P w K mg base):S8 P w K mg base:=by
 exists z0,1,a4m,el2 λ_ _=>rfl
 exact d0 (d7 (i8 a2k hr (by decide) rfl (b4 (b4 (b4 (b4 f9)))) (a9 (e9 0) (a9 (e9 1) (a9 b7 (a9 b7 c7))))))
theorem a66(D:Df K mg "is_small_word" a0Q)(M:MoB K mg){Zcq:AB}{Zdv:Nat}(Zdw:mg "LONGEST_WORD"=ξ Zcq)(Zdx:R1 K Zdv Zcq=ξ a1w)(D4:S8 P w K mg base):a3c P w K mg base:=by
 exists z0,2,a2x,el1 λ_=>rfl
 ext j
 refine a6O ?_ ?_
 ·exact b2s J7 J7 b5 (C1 A0 rfl M.Za0 (by rfl) (e9 0)) (U4 rfl Zdw Zdx)
 exact a6P (a0C (m4 hu) (i8 D4 hr (by decide) rfl (b4 (b4 f9)) (a9 (e9 0) (a9 b5 c7))) (C1 A0 rfl M.Za0 (by rfl) (e9 0)))
theorem b4E(D:Df K mg "is_name" a7c){Zfr:AB}{Zgq:Nat}(Zgr:mg "WORDS"=ξ Zfr)(Zgs:R1 K Zgq Zfr=ξ b1X)(a0P:a3c P w K mg base):a2h P w K mg base:=by
 exists z0,3,a9t,el1 λ_=>rfl
 exact d0 (d7 (a6O (i8 a0P hr (by decide) rfl (b4 f9) (a9 (e9 0) c7)) (a6P (a0C (b4J hu) (e9 0) (U4 rfl Zgr Zgs)))))
theorem b6E(D:Df K mg "is_row" a9q)(M:MoB K mg){Zcc:AB}{Zdb:Nat}(Zdc:mg "LONGEST"=ξ Zcc)(Zdd:R1 K Zdb Zcc=ξ a03):b19 P w K mg base:=by
 exists z0,0,b0P,el1 λ_=>rfl
 ext b
 ·exact j9 (PW.pt (E8 (y9 (u7 (O8 (.inr (.inr (.inl rfl))) rfl M.Zae (e9 0) (D7 rfl M.Zcw (by rfl) rfl)))) (B3 (y9 (a2n J7 J7 b5 (C1 A0 rfl M.Za0 (by rfl) (e9 0)) (U4 rfl Zdc Zdd)))))) (d0 (d7 L4)) g6
 ext j
 refine C1 (b3Z rfl) ?_ M.Zfp ?_ ?_
 ·exact rfl
 ·rfl
 refine a4C (ys:=["sign"]) (N0:=["thing"]) (λ_ _ h=>h) ?_ ⟨by kernel_rfl,rfl,δ rfl,δ rfl,δ rfl⟩ (EIF.ei (b98 (e9 0))) (λC fp pins s H=>C6 (i:=1) b2W rfl (Or.inl rfl)) (λn h=>N8 (i:=1) (Nat.le_of_eq h)) (λC fp pins s H=>a3H) ?_
 ·exact rfl
 intro C fp pins s H;exact b2s J7 J7 b7 (e9 1) b7
theorem b2Z(D:Df K mg "is_cloth" a5C)(M:MoB K mg){Zcc:AB}{Zdb:Nat}(Zdc:mg "LONGEST"=ξ Zcc)(Zdd:R1 K Zdb Zcc=ξ a03)(a8y:b19 P w K mg base):a8f P w K mg base:=by
 exists z0,1,a7B,el1 λ_=>rfl
 ext b
 ·refine j9 (PW.pt (E8 (y9 (u7 (O8 (.inr (.inr (.inr (.inr (.inl rfl))))) rfl M.Zae (e9 0) (D7 rfl M.Zb7 (by rfl) rfl)))) (B3 (y9 (a2n J7 J7 b5 (C1 A0 rfl M.Za0 (by rfl) (e9 0)) (U4 rfl Zdc Zdd)))))) ?_ ?_
  ·ext au
  exact g6
 ext b
 ·ext v
  ·refine y9 ?_;refine u7 ?_;refine C1 (b3Z rfl) ?_ M.Zfp ?_ ?_
   ·exact rfl
   ·rfl
   exists y0,["row"],["thing"],1,a9R
   ·exact rfl
   ·exact a3L (e9 0)
   intro C fp pins s H;exact i8 a8y hr (by decide) rfl (b4 f9) (a9 (e9 1) c7)
  ·ext au
  exact g6
 ext j
 refine C1 (b3Z rfl) ?_ M.Zfp ?_ ?_
 ·exact rfl
 ·rfl
 exists y0,["row"],["thing"],1,a9S
 ·exact rfl
 ·exact a3L (e9 0)
 intro C fp pins s H;exact a0C (m4 hu) (C1 A0 rfl M.Za0 (by rfl) (e9 1)) (C1 A0 rfl M.Za0 (by rfl) (i6 (e9 0) b5))
theorem a90(D:Df K mg "read_cloth" a25)(M:MoB K mg)(kb:K.In base){Zak:AA}(Zat:XC K mg "NoCloth" Zak)(Zco:PySem.W.excIn K Zak a6k "ValueError.__new__"=true)(a5n:a8f P w K mg base):a5Y P w K mg base:=by
 exists z1,2,a5c,el1 λ_=>rfl
 refine T3 ?_ ?_
 ·exact b0j (y9 (u7 (O8 (.inr (.inr (.inl rfl))) rfl M.Zae (e9 0) (D7 rfl M.Zcw (by rfl) rfl)))) (a0X (b2v rfl rfl rfl Zat.mg (b50 kb Zco) (a9 b7 c7) (λpins σ H s a I x h0 hn e=>a0L I x h0 hn e))) (a1G g6)
 refine T3 ?_ ?_
 ·exact b1c (l0 (i:=1) S.nd (a3d a8x rfl M.Zb7 (by rfl) (a8C (e9 0) b7)))
 refine T3 ?_ ?_
 ·exact b0j (y9 (u7 (i8 a5n hr (by decide) rfl (b4 f9) (a9 (e9 1) c7)))) (a0X (b2v rfl rfl rfl Zat.mg (b50 kb Zco) (a9 b7 c7) (λpins σ H s a I x h0 hn e=>a0L I x h0 hn e))) (a1G g6)
 exact a1G (d0 (a0l 1 (pv 1)))
theorem b3c(D:Df K mg "plain_at" a5L)(I:Io P w K mg base){Zak:AA}(Zat:XC K mg "NoCloth" Zak)(Zbg:a6e K Zak Zak=true)(a2J:a5Y P w K mg base):a5i P w K mg base:=by
 exists z0,3,a7K,el2 λ_ _=>rfl
 ext b
 ·exact l0 (i:=2) S.nd (b96 (e9 0) b7 (e9 1))
 ext b
 ·exact j9 (l7 a6o (e9 2) b5) (d0 (d7 v0)) g6
 ext b
 ·refine c0a Zat (a8J Zat Zat Zbg b5m) ?_ ?_
  ·intro Y pn E hx;exact a0X (c0b (i:=3) S.nd a2J hr (by decide) rfl hx (b4 f9) (a9 (G0 (e9 0) (E6 (c9 d9 (e9 1) b5)) (E6 (e9 2))) c7))
  intro a Y;exact d0 (d7 v0)
 exact d0 (d7 (w6 (a9 (a3J I.i_Plain hr (by decide) rfl (b4 f9) (a9 (e9 3) c7)) (a9 (c9 d9 (e9 2) b5) c7))))
theorem a87(D:Df K mg "figures_end" a18)(a2k:a6I P w K mg base):a1R P w K mg base:=by
 exists z0,1,a4h,el2 λ_ _=>rfl
 exact d0 (d7 (i8 a2k hr (by decide) rfl (b4 (b4 (b4 (b4 f9)))) (a9 (e9 0) (a9 (e9 1) (a9 b7 (a9 b7 c7))))))
theorem b1E(D:Df K mg "number_in" a4e)(M:MoB K mg){Zcr:AB}{Zdy:Nat}(Zdz:mg "MOST_FIGURES"=ξ Zcr)(Zd0:R1 K Zdy Zcr=ξ a1x)(T2:a1R P w K mg base):a7m P w K mg base:=by
 exists z0,2,a6A,el1 λ_=>rfl
 ext b
 ·refine j9 (PW.pt (E8 (y9 (a2n J7 J7 b5 (C1 A0 rfl M.Za0 (by rfl) (e9 0)) (U4 rfl Zdz Zd0))) (B3 (l7 (N6 hu) (i8 T2 hr (by decide) rfl (b4 (b4 f9)) (a9 (e9 0) (a9 b5 c7))) (C1 A0 rfl M.Za0 (by rfl) (e9 0)))))) ?_ ?_
  ·exact d0 (d7 v0)
  exact g6
 exact b6 (j9 (PW.pt (a6Q (l7 (m4 hu) (i6 (e9 0) b5) b7) (a4D (l7 a68 (C1 A0 rfl M.Za0 (by rfl) (e9 0)) b5)))) (d0 (d7 v0)) g6) (d0 (d7 (a3d b48 rfl M.Ze2 (by rfl) (e9 0))))
theorem a6n(D:Df K mg "number_between" a0d)(a3E:a7m P w K mg base):Z2 P w K mg base:=by
 exists z0,3,a1P,el3 λ_ _ _=>rfl
 ext b
 ·exact l0 (i:=3) S.nd (i8 a3E hr (by decide) rfl (b4 f9) (a9 (e9 0) c7))
 exact b6 (j9 (PW.pt (E8 (l7 P3 (e9 3) v0) (B3 (y9 (a2n J7 J7 (e9 1) (e9 3) (e9 2)))))) (d0 (d7 v0)) g6) (d0 (a0l 3 (pv 3)))
theorem b1G(D:Df K mg "times_end" a4g){Zbo:AB}{Zcd:Nat}(Zce:mg "MOST_TIMES"=ξ Zbo)(Zcf:R1 K Zcd Zbo=ξ N9)(T2:a1R P w K mg base)(L3:Z2 P w K mg base):a3s P w K mg base:=by
 exists z0,4,a6C,el2 λ_ _=>rfl
 ext b
 ·exact l0 (i:=2) S.nd (i8 T2 hr (by decide) rfl (b4 (b4 f9)) (a9 (e9 0) (a9 (e9 1) c7)))
 ext b
 ·refine j9 (PW.pt (E8 (l7 P3 (i8 L3 hr (by decide) rfl (b4 (b4 (b4 f9))) (a9 (G0 (e9 0) (E6 (e9 1)) (E6 (e9 2))) (a9 b5 (a9 (U4 rfl Zce Zcf) c7)))) v0) (B3 (y9 (u7 (Z4 (e9 0) b7 (e9 2))))))) ?_ ?_
  ·exact d0 (d7 v0)
  exact g6
 exact d0 (a0l 2 (pv 2))
theorem a7T(D:Df K mg "is_colour_at" a1n)(D4:S8 P w K mg base):a05 P w K mg base:=by
 exists z0,2,a3g,el2 λ_ _=>rfl
 exact d0 (d7 (a6O (a0C (m4 hu) (i8 D4 hr (by decide) rfl (b4 (b4 f9)) (a9 (e9 0) (a9 (e9 1) c7))) (c9 d9 (e9 1) b5)) (a6P (Z4 (e9 0) b7 (c9 d9 (e9 1) b5)))))
theorem b4D{k:Nat}(hk0:5≤k){Zah Zai Zab Zaa k9 Zag Zad Zaf:List PV→Υ g0}(D:Df K mg "dyed_at" a4L)(I:Io P w K mg base)(K9:a05 P w K mg base)(g:Q9 P w K mg base k Zah Zai Zab Zaa k9 Zag Zad Zaf):r8 P w K mg base "dyed_at" ["text","at","left"] (k+1) (m8 1 (a4w Zah Zai Zab Zaa k9 Zag Zad Zaf)):=by
 exists z0,k,a5M,el3 λ_ _ _=>rfl
 ext b
 ·refine j9 (PW.pt (E8 (y9 (u7 (i8 K9 hr (by lia) rfl (b4 (b4 f9)) (a9 (e9 0) (a9 (e9 1) c7))))) (B3 (y9 (u7 (i8 K9 hr (by lia) rfl (b4 (b4 f9)) (a9 (e9 0) (a9 (c9 d9 (e9 1) b5) c7)))))))) ?_ ?_
  ·exact d0 (d7 v0)
  exact g6
 ext b
 ·exact l0 (i:=3) S.nd (i8 g.Zbb hr (by lia) rfl (b4 (b4 (b4 f9))) (a9 (e9 0) (a9 (c9 d9 (e9 1) b5) (a9 (e9 2) c7))))
 ext b
 ·exact j9 (l7 P3 (e9 3) v0) (d0 (d7 v0)) g6
 exact d0 (d7 (w6 (a9 (a3J I.i_Dyed hr (by lia) rfl (b4 (b4 (b4 f9))) (a9 (i6 (e9 0) (e9 1)) (a9 (i6 (e9 0) (c9 d9 (e9 1) b5)) (a9 (i6 (e9 3) b5) c7)))) (a9 (i6 (e9 3) b5) c7))))
theorem b4F{k:Nat}(hk0:5≤k){Zah Zai Zab Zaa k9 Zag Zad Zaf:List PV→Υ g0}(D:Df K mg "laid_at" a4M)(M:MoB K mg)(I:Io P w K mg base){Zbp:AB}{Zcg:Nat}(Zch:mg "MOST_PARTS"=ξ Zbp)(Zci:R1 K Zcg Zbp=ξ Y6)(g:Q9 P w K mg base k Zah Zai Zab Zaa k9 Zag Zad Zaf):r8 P w K mg base "laid_at" ["text","word","at","left"] (k+1) (m8 1 (a4x Zah Zai Zab Zaa k9 Zag Zad Zaf)):=by
 exists z0,k,a5N,el4 λ_ _ _ _=>rfl
 ext b
 ·exact l0 (i:=4) S.nd (i8 g.Zc5 hr (by lia) rfl (b4 (b4 (b4 f9))) (a9 (e9 0) (a9 (e9 2) (a9 (e9 3) c7))))
 ext b
 ·exact j9 (PW.pt (E8 (l7 P3 (e9 4) v0) (B3 (y9 (u7 (Z4 (e9 0) b7 (i6 (e9 4) b5))))))) (d0 (d7 v0)) g6
 ext b
 ·exact j9 (y9 (a2n J7 J7 b5 (C1 A0 rfl M.Za0 (by rfl) (i6 (e9 4) b5)) (U4 rfl Zch Zci))) (d0 (d7 v0)) g6
 ext b
 ·exact j9 (l7 (m4 hu) (e9 1) b7) (d0 (d7 (w6 (a9 (a3J I.i_Beside hr (by lia) rfl (b4 f9) (a9 (i6 (e9 4) b5) c7)) (a9 (c9 d9 (i6 (e9 4) b5) b5) c7))))) g6
 exact d0 (d7 (w6 (a9 (a3J I.i_Above hr (by lia) rfl (b4 f9) (a9 (i6 (e9 4) b5) c7)) (a9 (c9 d9 (i6 (e9 4) b5) b5) c7))))
theorem a7U{k:Nat}(hk0:5≤k){Zah Zai Zab Zaa k9 Zag Zad Zaf:List PV→Υ g0}(D:Df K mg "last_part_at" Y5)(g:Q9 P w K mg base k Zah Zai Zab Zaa k9 Zag Zad Zaf):r8 P w K mg base "last_part_at" ["text","at","left"] (k+1) (m8 1 (X1 Zah Zai Zab Zaa k9 Zag Zad Zaf)):=by
 exists z0,k,a0R,el3 λ_ _ _=>rfl
 ext b
 ·exact l0 (i:=3) S.nd (i8 g.Zbw hr (by lia) rfl (b4 (b4 (b4 f9))) (a9 (e9 0) (a9 (e9 1) (a9 (e9 2) c7))))
 exact b6 (j9 (PW.pt (E8 (l7 P3 (e9 3) v0) (B3 (y9 (u7 (Z4 (e9 0) b7 (i6 (e9 3) b5))))))) (d0 (d7 v0)) g6) (d0 (d7 (w6 (a9 (i6 (e9 3) b5) (a9 (c9 d9 (i6 (e9 3) b5) b5) c7)))))
theorem a4U{k:Nat}(hk0:5≤k){Zah Zai Zab Zaa k9 Zag Zad Zaf:List PV→Υ g0}(D:Df K mg "made_of_parts_at" N7){Zcj:AB}{Zde:Nat}(Zdf:mg "TURNING"=ξ Zcj)(Zdg:R1 K Zde Zcj=ξ a0g)(g:Q9 P w K mg base k Zah Zai Zab Zaa k9 Zag Zad Zaf):r8 P w K mg base "made_of_parts_at" ["text","word","at","left"] (k+1) (m8 0 (t6 Zah Zai Zab Zaa k9 Zag Zad Zaf)):=by
 exists z0,k,S7,el4 λ_ _ _ _=>rfl
 ext b
 ·exact j9 (PW.pt (E8 (l7 (m4 hu) (e9 1) b7) (B3 (l7 (m4 hu) (e9 1) b7)))) (d0 (d7 (i8 g.Zda hr (by lia) rfl (b4 (b4 (b4 (b4 f9)))) (a9 (e9 0) (a9 (e9 1) (a9 (e9 2) (a9 (e9 3) c7))))))) g6
 ext b
 ·ext ao
  ·exact d0 (d7 (i8 g.Zb8 hr (by lia) rfl (b4 (b4 (b4 (b4 f9)))) (a9 (e9 0) (a9 (e9 1) (a9 (e9 2) (a9 (e9 3) c7))))))
  exact g6
 ext b
 ·exact j9 (l7 (b5J hu) (e9 1) (U4 rfl Zdf Zdg)) (d0 (d7 (i8 g.Zcx hr (by lia) rfl (b4 (b4 (b4 (b4 f9)))) (a9 (e9 0) (a9 (e9 1) (a9 (e9 2) (a9 (e9 3) c7))))))) g6
 exact b6 (j9 (l7 (m4 hu) (e9 1) b7) (d0 (d7 (i8 g.Zc9 hr (by lia) rfl (b4 (b4 (b4 f9))) (a9 (e9 0) (a9 (e9 2) (a9 (e9 3) c7)))))) g6) (d0 (d7 v0))
theorem b3a{k:Nat}(hk0:5≤k){Zah Zai Zab Zaa k9 Zag Zad Zaf:List PV→Υ g0}(D:Df K mg "motif_at" a23)(I:Io P w K mg base)(D4:S8 P w K mg base)(R3:a2h P w K mg base)(a1b:a5i P w K mg base)(g:Q9 P w K mg base k Zah Zai Zab Zaa k9 Zag Zad Zaf):r8 P w K mg base "motif_at" ["text","at","left"] (k+1) (m8 2 (N3 Zah Zai Zab Zaa k9 Zag Zad Zaf)):=by
 exists z0,k,a4n,el3 λ_ _ _=>rfl
 ext b
 ·exact j9 (l7 (m4 hu) (e9 2) b5) (d0 (d7 v0)) g6
 ext b
 ·exact j9 (u7 (Z4 (e9 0) b7 (e9 1))) (d0 (d7 (i8 a1b hr (by lia) rfl (b4 (b4 f9)) (a9 (e9 0) (a9 (e9 1) c7))))) g6
 ext b
 ·exact l0 (i:=3) S.nd (i8 D4 hr (by lia) rfl (b4 (b4 f9)) (a9 (e9 0) (a9 (e9 1) c7)))
 ext b
 ·exact l0 (i:=4) S.nd (G0 (e9 0) (E6 (e9 1)) (E6 (e9 3)))
 ext b
 ·ext v
  ·exact u7 (Z4 (e9 0) b7 (e9 3))
  ·exact d0 (a2K 4 (d7 (i8 g.Zbf hr (by lia) rfl (b4 (b4 (b4 (b4 f9)))) (a9 (e9 0) (a9 (e9 4) (a9 (c9 d9 (e9 3) b5) (a9 (c9 a76 (e9 2) b5) c7)))))))
  exact g6
 exact b6 (a2K 4 (j9 (u7 (i8 R3 hr (by lia) rfl (b4 f9) (a9 (e9 4) c7))) (d0 (d7 (w6 (a9 (a3J I.i_Named hr (by lia) rfl (b4 f9) (a9 (e9 4) c7)) (a9 (e9 3) c7))))) g6)) (d0 (d7 v0))
theorem b3b{k:Nat}(hk0:5≤k){Zah Zai Zab Zaa k9 Zag Zad Zaf:List PV→Υ g0}(D:Df K mg "parts_at" a24)(M:MoB K mg)(g:Q9 P w K mg base k Zah Zai Zab Zaa k9 Zag Zad Zaf):r8 P w K mg base "parts_at" ["text","at","left"] (k+1) (m8 2 (a2F Zah Zai Zab Zaa k9 Zag Zad Zaf)):=by
 exists z0,k,a4o,el3 λ_ _ _=>rfl
 ext b
 ·exact l0 (i:=3) S.nd (y8 c7)
 refine d0 ?_;refine b2u 500 PassesOwn.never ?_ ?_
 ·exact u7 L4
 ext b
 ·exact l0 (i:=4) S.nd (i8 g.Zbw hr (by lia) rfl (b4 (b4 (b4 f9))) (a9 (e9 0) (a9 (e9 1) (a9 (e9 2) c7))))
 ext b
 ·exact j9 (l7 P3 (e9 4) v0) (d0 (d7 v0)) g6
 ext b
 ·exact a2m 3 (pv 3) (i6 (e9 4) b5)
 exact b6 (j9 (y9 (u7 (Z4 (e9 0) b7 (i6 (e9 4) b5)))) (d0 (d7 (w6 (a9 (a3d a8x rfl M.Zb7 (by rfl) (e9 3)) (a9 (i6 (e9 4) b5) c7))))) g6) (d0 (l0 (i:=1) S.nd (c9 d9 (i6 (e9 4) b5) b5)))
theorem a9b{k:Nat}(hk0:5≤k){Zah Zai Zab Zaa k9 Zag Zad Zaf:List PV→Υ g0}(D:Df K mg "repeated_at" a0w)(M:MoB K mg)(I:Io P w K mg base)(a0B:a3s P w K mg base)(g:Q9 P w K mg base k Zah Zai Zab Zaa k9 Zag Zad Zaf):r8 P w K mg base "repeated_at" ["text","word","at","left"] (k+1) (m8 3 (a0k Zah Zai Zab Zaa k9 Zag Zad Zaf)):=by
 exists z0,k,a1r,el4 λ_ _ _ _=>rfl
 ext b
 ·exact l0 (i:=4) S.nd (i8 a0B hr (by lia) rfl (b4 (b4 f9)) (a9 (e9 0) (a9 (e9 2) c7)))
 ext b
 ·exact j9 (l7 P3 (e9 4) v0) (d0 (d7 v0)) g6
 ext b
 ·exact l0 (i:=5) S.nd (i8 g.Zbb hr (by lia) rfl (b4 (b4 (b4 f9))) (a9 (e9 0) (a9 (c9 d9 (e9 4) b5) (a9 (e9 3) c7))))
 ext b
 ·exact j9 (l7 P3 (e9 5) v0) (d0 (d7 v0)) g6
 ext b
 ·exact l0 (i:=6) S.nd (a3d b48 rfl M.Ze2 (by rfl) (G0 (e9 0) (E6 (e9 2)) (E6 (e9 4))))
 ext b
 ·exact j9 (l7 (m4 hu) (e9 1) b7) (d0 (d7 (w6 (a9 (a3J I.i_Across hr (by lia) rfl (b4 (b4 f9)) (a9 (e9 6) (a9 (i6 (e9 5) b5) c7))) (a9 (i6 (e9 5) b5) c7))))) g6
 exact d0 (d7 (w6 (a9 (a3J I.i_Down hr (by lia) rfl (b4 (b4 f9)) (a9 (e9 6) (a9 (i6 (e9 5) b5) c7))) (a9 (i6 (e9 5) b5) c7))))
theorem b1H{k:Nat}(hk0:5≤k){Zah Zai Zab Zaa k9 Zag Zad Zaf:List PV→Υ g0}(D:Df K mg "turned_at" a1O)(I:Io P w K mg base)(g:Q9 P w K mg base k Zah Zai Zab Zaa k9 Zag Zad Zaf):r8 P w K mg base "turned_at" ["text","word","at","left"] (k+1) (m8 1 (a1D Zah Zai Zab Zaa k9 Zag Zad Zaf)):=by
 exists z0,k,a29,el4 λ_ _ _ _=>rfl
 ext b
 ·exact l0 (i:=4) S.nd (i8 g.Zbb hr (by lia) rfl (b4 (b4 (b4 f9))) (a9 (e9 0) (a9 (e9 2) (a9 (e9 3) c7))))
 exact b6 (j9 (l7 P3 (e9 4) v0) (d0 (d7 v0)) g6) (d0 (d7 (w6 (a9 (a3J I.i_Turned hr (by lia) rfl (b4 (b4 f9)) (a9 (e9 1) (a9 (i6 (e9 4) b5) c7))) (a9 (i6 (e9 4) b5) c7)))))
theorem b2X(Zdh:Df K mg "dyed_at" a4L)(Zdi:Df K mg "laid_at" a4M)(Zb5:Df K mg "last_part_at" Y5)(Zbh:Df K mg "made_of_parts_at" N7)(a2A:Df K mg "motif_at" a23)(Zc6:Df K mg "parts_at" a24)(Zb9:Df K mg "repeated_at" a0w)(Zcy:Df K mg "turned_at" a1O)(M:MoB K mg)(I:Io P w K mg base){Zbp:AB}{Zcg:Nat}(Zch:mg "MOST_PARTS"=ξ Zbp)(Zci:R1 K Zcg Zbp=ξ Y6){Zcj:AB}{Zde:Nat}(Zdf:mg "TURNING"=ξ Zcj)(Zdg:R1 K Zde Zcj=ξ a0g)(K9:a05 P w K mg base)(D4:S8 P w K mg base)(R3:a2h P w K mg base)(a1b:a5i P w K mg base)(a0B:a3s P w K mg base):∀n:Nat,Q9 P w K mg base (5+n) (a1h n) (a1i n) (G8 n) (C2 n) (M7 n) (a0I n) (Q1 n) (Y1 n):=by
 intro n
 induction n with
 |zero=>exact⟨n6 (k:=4) Zdh a5M (λ_ _ _ _ _ _=>el3 (λ_ _ _=>rfl)) λf cdv A outer s H E hr=>C8,n6 (k:=4) Zdi a5N (λ_ _ _ _ _ _=>el4 (λ_ _ _ _=>rfl)) λf cdv A outer s H E hr=>C8,n6 (k:=4) Zb5 a0R (λ_ _ _ _ _ _=>el3 (λ_ _ _=>rfl)) λf cdv A outer s H E hr=>C8,n6 (k:=4) Zbh S7 (λ_ _ _ _ _ _=>el4 (λ_ _ _ _=>rfl)) λf cdv A outer s H E hr=>C8,n6 (k:=4) a2A a4n (λ_ _ _ _ _ _=>el3 (λ_ _ _=>rfl)) λf cdv A outer s H E hr=>C8,n6 (k:=4) Zc6 a4o (λ_ _ _ _ _ _=>el3 (λ_ _ _=>rfl)) λf cdv A outer s H E hr=>C8,n6 (k:=4) Zb9 a1r (λ_ _ _ _ _ _=>el4 (λ_ _ _ _=>rfl)) λf cdv A outer s H E hr=>C8,n6 (k:=4) Zcy a29 (λ_ _ _ _ _ _=>el4 (λ_ _ _ _=>rfl)) λf cdv A outer s H E hr=>C8⟩
 |succ n ih=>
  exact⟨b4D P w base (Nat.le_add_right _ _) Zdh I K9 ih,b4F P w base (Nat.le_add_right _ _) Zdi M I Zch Zci ih,a7U P w base (Nat.le_add_right _ _) Zb5 ih,a4U P w base (Nat.le_add_right _ _) Zbh Zdf Zdg ih,b3a P w base (Nat.le_add_right _ _) a2A I D4 R3 a1b ih,b3b P w base (Nat.le_add_right _ _) Zc6 M ih,a9b P w base (Nat.le_add_right _ _) Zb9 M I a0B ih,b1H P w base (Nat.le_add_right _ _) Zcy I ih⟩
theorem a91(D:Df K mg "read_motif" a26)(M:MoB K mg){Zet:AB}{Zfs:Nat}(Zft:mg "DEEPEST"=ξ Zet)(Zfu:R1 K Zfs Zet=ξ a4O)(Zbw:b3M P w K mg base):a2C P w K mg base:=by
 exists z0,45,a5d,el1 λ_=>rfl
 ext b
 ·exact j9 (y9 (u7 (O8 (.inr (.inr (.inl rfl))) rfl M.Zae (e9 0) (D7 rfl M.Zcw (by rfl) rfl)))) (d0 (d7 v0)) g6
 ext b
 ·exact l0 (i:=1) S.nd (i8 Zbw hr (by decide) rfl (b4 (b4 (b4 f9))) (a9 (e9 0) (a9 b5 (a9 (U4 rfl Zft Zfu) c7))))
 exact b6 (j9 (PW.pt (E8 (l7 P3 (e9 1) v0) (B3 (l7 (N6 hu) (i6 (e9 1) b5) (C1 A0 rfl M.Za0 (by rfl) (e9 0)))))) (d0 (d7 v0)) g6) (d0 (d7 (i6 (e9 1) b5)))
theorem b2Y(D:Df K mg "again_of" a5B)(M:MoB K mg){Zbo:AB}{Zcd:Nat}(Zce:mg "MOST_TIMES"=ξ Zbo)(Zcf:R1 K Zcd Zbo=ξ N9)(L3:Z2 P w K mg base)(R3:a2h P w K mg base):a8e P w K mg base:=by
 exists z0,4,a7A,el2 λ_ _=>rfl
 ext b
 ·exact l0 (i:=2) S.nd (a8C (e9 0) b7)
 ext b
 ·exact j9 (PW.pt (E8 (l7 (N6 hu) (C1 A0 rfl M.Za0 (by rfl) (e9 2)) b5) (B3 (y9 (u7 (i8 R3 hr (by decide) rfl (b4 f9) (a9 (i6 (e9 2) b5) c7))))))) (d0 (d7 v0)) g6
 ext b
 ·exact l0 (i:=3) S.nd (i8 L3 hr (by decide) rfl (b4 (b4 (b4 f9))) (a9 (i6 (e9 2) b5) (a9 b5 (a9 (U4 rfl Zce Zcf) c7))))
 exact b6 (j9 (l7 P3 (e9 3) v0) (d0 (d7 v0)) g6) (d0 (d7 (w6 (a9 b7 (a9 (e9 3) (a9 (i6 (e9 2) b5) (a9 (e9 1) c7)))))))
theorem b6G(D:Df K mg "let_of" a9r)(R3:a2h P w K mg base):b2a P w K mg base:=by
 exists z0,4,b0Q,el2 λ_ _=>rfl
 exact b6 (j9 (y9 (u7 (i8 R3 hr (by decide) rfl (b4 f9) (a9 (e9 0) c7)))) (d0 (d7 v0)) g6) (d0 (d7 (w6 (a9 b7 (a9 (e9 0) (a9 (e9 1) c7))))))
theorem a9d(D:Df K mg "telling_row" a2d)(X4:a2C P w K mg base)(a5m:a8e P w K mg base)(a8z:b2a P w K mg base):a4Z P w K mg base:=by
 exists z0,46,a4q,el2 λ_ _=>rfl
 ext b
 ·exact l0 (i:=2) S.nd (b5a (e9 1) b7)
 ext b
 ·exact l0 (i:=3) S.nd (i8 X4 hr (by decide) rfl (b4 f9) (a9 (i6 (e9 2) b5) c7))
 ext b
 ·exact j9 (l7 P3 (e9 3) v0) (d0 (d7 v0)) g6
 ext b
 ·exact j9 (l7 (m4 hu) (e9 0) b7) (d0 (d7 (i8 a8z hr (by decide) rfl (b4 (b4 f9)) (a9 (i6 (e9 2) b5) (a9 (e9 3) c7))))) g6
 exact d0 (d7 (i8 a5m hr (by decide) rfl (b4 (b4 f9)) (a9 (i6 (e9 2) b5) (a9 (e9 3) c7))))
theorem b20(D:Df K mg "knot_row" a5D)(X4:a2C P w K mg base):a8g P w K mg base:=by
 exists z0,46,a7C,el1 λ_=>rfl
 exact b6 (l0 (i:=1) S.nd (i8 X4 hr (by decide) rfl (b4 f9) (a9 (e9 0) c7))) (b6 (j9 (l7 P3 (e9 1) v0) (d0 (d7 v0)) g6) (d0 (d7 (w6 (a9 b7 (a9 (e9 1) c7))))))
theorem b6H(D:Df K mg "row_of" a9s)(M:MoB K mg){Zc0:AB}{Zef:Nat}(Zeg:mg "LONGEST_ROW"=ξ Zc0)(Zeh:R1 K Zef Zc0=ξ U2)(a10:a4Z P w K mg base)(a5o:a8g P w K mg base):b2b P w K mg base:=by
 exists z0,47,b0R,el1 λ_=>rfl
 ext b
 ·exact j9 (l7 a68 (C1 A0 rfl M.Za0 (by rfl) (e9 0)) (U4 rfl Zeg Zeh)) (d0 (d7 v0)) g6
 ext b
 ·exact l0 (i:=1) S.nd (b5a (e9 0) b7)
 ext b
 ·refine j9 (PW.pt (E8 (l7 (m4 hu) (i6 (e9 1) b5) b7) (B3 (l7 (m4 hu) (i6 (e9 1) b5) b7)))) ?_ ?_
  ·exact d0 (d7 (i8 a10 hr (by decide) rfl (b4 (b4 f9)) (a9 (i6 (e9 1) b5) (a9 (i6 (e9 1) b5) c7))))
  exact g6
 exact b6 (j9 (l7 (m4 hu) (i6 (e9 1) b5) b7) (d0 (d7 (i8 a5o hr (by decide) rfl (b4 f9) (a9 (i6 (e9 1) b5) c7)))) g6) (d0 (d7 v0))
theorem c0V(D:Df K mg "read" b4N)(M:MoB K mg)(Zcz:b9R P w K mg base "NoText" ["row"] 1){Zdj:AB}{Ze3:Nat}(Ze4:mg "MOST_ROWS"=ξ Zdj)(Ze5:R1 K Ze3 Zdj=ξ W7)(a8A:b2b P w K mg base):b3N P w K mg base:=by
 exists z1,48,b5P,el1 λ_=>rfl
 refine T3 ?_ ?_
 ·refine b0j ?_ ?_ ?_
  ·exact y9 (u7 (O8 (.inr (.inr (.inl rfl))) rfl M.Zae (e9 0) (D7 rfl M.Zcw (by rfl) rfl)))
  ·exact a0X (a6S rfl rfl rfl Zcz hr (by decide) (b4 f9) (a9 b5 c7) (λpins σ H s a C dd I x h0 hn e=>a0L I x h0 hn e))
  exact a1G g6
 refine T3 ?_ ?_
 ·exact b1c (l0 (i:=1) S.nd (a8C (e9 0) b7))
 refine T3 ?_ ?_
 ·exact b1c (a2K 1 (l0 (i:=2) S.nd (y8 c7)))
 refine T3 ?_ ?_
 ·refine c0c PassesOwn.leaving ?_ ?_ M.Zcu ?_ ?_ (a9B [3,4]) ?_
  ·exact rfl
  ·exact rfl
  ·exact a9 (e9 1) c7
  ·exact b4K rfl (a2v (C6 (i:=3) S.nd rfl (Or.inl rfl)) (a2v (C6 (i:=4) S.nd rfl (Or.inl rfl)) b1M))
  refine T3 ?_ ?_
  ·exact b1c (l0 (i:=5) S.nd (i8 a8A hr (by decide) rfl (b4 f9) (a9 (e9 4) c7)))
  refine T3 ?_ ?_
  ·refine b0j (PW.pt (E8 (l7 c3n (e9 3) (U4 rfl Ze4 Ze5)) (B3 (l7 P3 (e9 5) v0)))) ?_ ?_
   ·ext a5
   exact a1G g6
  refine T3 ?_ ?_
  ·refine b0j ?_ ?_ ?_
   ·exact l7 (N6 hu) (a0C (m4 hu) (i6 (e9 5) b5) b7) (a0C (m4 hu) (e9 3) (c9 a76 (C1 A0 rfl M.Za0 (by rfl) (e9 1)) b5))
   ·ext a5
   exact a1G g6
  exact a1G (d0 (a2m 2 (pv 2) (e9 5)))
 exact a1G (d0 (a0l 2 (pv 2)))
theorem b6F{k:Nat}(hk0:1≤k){X0:List PV→Υ g0}(D:Df K mg "_law_is" a6v)(M:MoB K mg)(O:Oc K mg a)(a0y:r8 P w K mg base "_law_is" [ϡc,"_law_tree"] k X0):r8 P w K mg base "_law_is" [ϡc,"_law_tree"] (k+1) (m8 4 (a3z X0)):=by
 exists z0,k,a7f,el2 λ_ _=>rfl
 ext b
 ·exact l0 (i:=2) S.nd (i6 (e9 1) b5)
 ext b
 ·exact j9 (y9 (u7 (a11 (cV:= .ref _) O.iso_Motif (λu h=>h) rfl M.Zae (e9 0) (K7 rfl O.mg_Motif rfl)))) (d0 (d7 L4)) g6
 ext b
 ·ext v
  ·exact l7 (m4 hu) (e9 2) b7
  ·ext b
   ·refine j9 (PW.pt (E8 (y9 (u7 (a11 (cV:= .ref _) O.iso_Plain (λu h=>h) rfl M.Zae (e9 0) (K7 rfl O.mg_Plain rfl)))) (B3 (y9 (u7 (O8 (.inr (.inr (.inr (.inr (.inl rfl))))) rfl M.Zae (C9 O.fld_rows (e9 0)) (D7 rfl M.Zb7 (by rfl) rfl))))))) ?_ ?_
    ·ext au
    exact g6
   exact d0 (d7 (a0C (m4 hu) (C9 O.fld_rows (e9 0)) (i6 (e9 1) b5)))
  exact g6
 ext b
 ·exact j9 (l7 (m4 hu) (e9 2) b7) (d0 (d7 (a6O (a11 (cV:= .ref _) O.iso_Named (λu h=>h) rfl M.Zae (e9 0) (K7 rfl O.mg_Named rfl)) (a6P (a0C (m4 hu) (C9 O.fld_name (e9 0)) (i6 (e9 1) b5)))))) g6
 ext b
 ·refine j9 (PW.pt (E8 (l7 (m4 hu) (e9 2) b7) (B3 (l7 (m4 hu) (e9 2) b7)))) ?_ ?_
  ·ext b
   ·exact l0 (i:=3) S.nd (y8 (a9 (a11 (cV:= .ref _) O.iso_Beside (λu h=>h) rfl M.Zae (e9 0) (K7 rfl O.mg_Beside rfl)) (a9 (a11 (cV:= .ref _) O.iso_Above (λu h=>h) rfl M.Zae (e9 0) (K7 rfl O.mg_Above rfl)) c7)))
   ext b
   ·exact j9 (l7 (N6 hu) (e9 3) (y8 (a9 (a0C (m4 hu) (e9 2) b7) (a9 (a0C (m4 hu) (e9 2) b7) c7)))) (d0 (d7 L4)) g6
   ext b
   ·refine j9 (PW.pt (E8 (y9 (u7 (O8 (.inr (.inr (.inr (.inr (.inl rfl))))) rfl M.Zae (C9 O.fld_parts (e9 0)) (D7 rfl M.Zb7 (by rfl) rfl)))) (B3 (l7 (N6 hu) (C1 A0 rfl M.Za0 (by rfl) (C9 O.fld_parts (e9 0))) (C1 A0 rfl M.Za0 (by rfl) (i6 (e9 1) b5)))))) ?_ ?_
    ·ext au
    exact g6
   ext b
   ·refine b7T PassesOwn.never ?_ ?_ M.Zgf ?_ ?_ (a9B [4,5]) ?_
    ·exact rfl
    ·exact rfl
    ·exact a9 (C9 O.fld_parts (e9 0)) (a9 (i6 (e9 1) b5) c7)
    ·exact b4K rfl (a2v (C6 (i:=4) S.nd rfl (Or.inl rfl)) (a2v (C6 (i:=5) S.nd rfl (Or.inl rfl)) b1M))
    exact d0 (j9 (y9 (u7 (i8 a0y hr (by lia) rfl (b4 (b4 f9)) (a9 (e9 4) (a9 (e9 5) c7))))) (d0 (d7 L4)) g6)
   ext au
  exact g6
 ext b
 ·ext v
  ·exact l7 (m4 hu) (e9 2) b7
  ·ext b
   ·exact j9 (PW.pt (E8 (y9 (u7 (a11 (cV:= .ref _) O.iso_Turned (λu h=>h) rfl M.Zae (e9 0) (K7 rfl O.mg_Turned rfl)))) (B3 (l7 (N6 hu) (C9 O.fld_way (e9 0)) (i6 (e9 1) b5))))) (d0 (d7 L4)) g6
   exact d0 (d7 (i8 a0y hr (by lia) rfl (b4 (b4 f9)) (a9 (C9 O.fld_part (e9 0)) (a9 (i6 (e9 1) b5) c7))))
  exact g6
 ext b
 ·ext v
  ·exact l7 (m4 hu) (e9 2) b7
  ·ext b
   ·exact j9 (y9 (u7 (a11 (cV:= .ref _) O.iso_Dyed (λu h=>h) rfl M.Zae (e9 0) (K7 rfl O.mg_Dyed rfl)))) (d0 (d7 L4)) g6
   ext b
   ·exact j9 (PW.pt (E8 (l7 (N6 hu) (C9 O.fld_one (e9 0)) (i6 (e9 1) b5)) (B3 (l7 (N6 hu) (C9 O.fld_other (e9 0)) (i6 (e9 1) b5))))) (d0 (d7 L4)) g6
   exact d0 (d7 (i8 a0y hr (by lia) rfl (b4 (b4 f9)) (a9 (C9 O.fld_part (e9 0)) (a9 (i6 (e9 1) b5) c7))))
  exact g6
 ext b
 ·exact l0 (i:=3) S.nd (y8 (a9 (a11 (cV:= .ref _) O.iso_Across (λu h=>h) rfl M.Zae (e9 0) (K7 rfl O.mg_Across rfl)) (a9 (a11 (cV:= .ref _) O.iso_Down (λu h=>h) rfl M.Zae (e9 0) (K7 rfl O.mg_Down rfl)) c7)))
 ext b
 ·refine j9 (PW.pt (E8 (l7 (N6 hu) (e9 3) (y8 (a9 (a0C (m4 hu) (e9 2) b7) (a9 (a0C (m4 hu) (e9 2) b7) c7)))) (B3 (u7 (O8 (.inr (.inl rfl)) rfl M.Zae (C9 O.fld_many (e9 0)) (D7 rfl M.Zea (by rfl) rfl)))))) ?_ ?_
  ·ext au
  exact g6
 exact d0 (d7 (a6O (a0C (m4 hu) (C9 O.fld_many (e9 0)) (i6 (e9 1) b5)) (a6P (i8 a0y hr (by lia) rfl (b4 (b4 f9)) (a9 (C9 O.fld_part (e9 0)) (a9 (i6 (e9 1) b5) c7))))))
theorem b4C(a5V:Df K mg "_law_is" a6v)(M:MoB K mg)(O:Oc K mg a):∀n:Nat,r8 P w K mg base "_law_is" [ϡc,"_law_tree"] (1+n) (a6V n):=by
 intro n
 induction n with
 |zero=>exact n6 (k:=0) a5V a7f (λ_ _ _ _ _ _=>el2 (λ_ _=>rfl)) λf cdv A outer s H E hr=>C8
 |succ n ih=>
  exact b6F P w base a (Nat.le_add_right _ _) a5V M O ih
theorem b26(D:Df K mg "_law_same" a5J)(M:MoB K mg)(O:Oc K mg a)(a0y:b7n P w K mg base):a8k P w K mg base:=by
 exists z0,13,a7I,el2 λ_ _=>rfl
 ext b
 ·exact j9 (PW.pt (E8 (y9 (u7 (O8 (.inr (.inr (.inr (.inl rfl)))) rfl M.Zae (e9 0) (D7 rfl M.Zfd (by rfl) rfl)))) (B3 (l7 (N6 hu) (C1 A0 rfl M.Za0 (by rfl) (e9 0)) (C1 A0 rfl M.Za0 (by rfl) (e9 1)))))) (d0 (d7 L4)) g6
 ext b
 ·refine b7S PassesOwn.never ?_ ?_ M.Zgf ?_ ?_ (a9B [2,3]) ?_
  ·exact rfl
  ·exact rfl
  ·exact a9 (e9 0) (a9 (e9 1) c7)
  ·exact b4K rfl (a2v (C6 (i:=2) S.nd rfl (Or.inl rfl)) (a2v (C6 (i:=3) S.nd rfl (Or.inl rfl)) b1M))
  ext b
  ·refine j9 (PW.pt (E8 (y9 (u7 (O8 (.inr (.inr (.inr (.inr (.inl rfl))))) rfl M.Zae (e9 2) (D7 rfl M.Zb7 (by rfl) rfl)))) (E8 (l7 (N6 hu) (C1 A0 rfl M.Za0 (by rfl) (e9 2)) (C1 A0 rfl M.Za0 (by rfl) (e9 3))) (B3 (l7 (N6 hu) (G0 (e9 2) X5 (E6 (a3K b5))) (G0 (e9 3) X5 (E6 (a3K b5)))))))) ?_ ?_
   ·ext au
   exact g6
  refine d0 ?_;refine j9 (PW.pt (E8 (u7 (c2t (O8 (.inr (.inl rfl)) rfl M.Zae (i6 (e9 2) b5) (D7 rfl M.Zea (by rfl) rfl)) (a11 (cV:= .ty "bool") O.iso_bool (λu h=>h) rfl M.Zae (i6 (e9 2) b5) (D7 rfl M.Zea (by rfl) rfl)))) (B3 (y9 (u7 (i8 a0y hr (by decide) rfl (b4 (b4 f9)) (a9 (i6 (e9 2) (a3K b5)) (a9 (i6 (e9 3) (a3K b5)) c7)))))))) ?_ ?_
  ·ext au
  exact g6
 ext au
theorem b23(D:Df K mg "_law_line" a5G)(M:MoB K mg)(D9:a8m P w K mg base):a8i P w K mg base:=by
 exists z0,13,a7F,el1 λ_=>rfl
 ext b
 ·exact j9 (l7 (m4 hu) (i6 (e9 0) b5) b7) (d0 (d7 (c9 d9 (c9 d9 (c9 d9 b7 (i6 (e9 0) b5)) b7) (i8 D9 hr (by decide) rfl (b4 f9) (a9 (i6 (e9 0) b5) c7))))) g6
 ext b
 ·ext v
  ·exact l7 (m4 hu) (i6 (e9 0) b5) b7
  ·refine d0 ?_;exact d7 (c9 d9 (c9 d9 (c9 d9 (c9 d9 (c9 d9 b7 (a3d a8w rfl M.Zcw (by rfl) (i6 (e9 0) b5))) b7) (i6 (e9 0) b5)) b7) (i8 D9 hr (by decide) rfl (b4 f9) (a9 (i6 (e9 0) b5) c7)))
  exact g6
 exact d0 (d7 (c9 d9 b7 (i8 D9 hr (by decide) rfl (b4 f9) (a9 (i6 (e9 0) b5) c7))))
theorem a89(D:Df K mg "_law_refused" a2a)(M:MoB K mg){Zal:AA}(Zbi:XC K mg "CarpetError" Zal){Zb0:AA}(Zei:XC K mg "Misfit" Zb0){Zak:AA}(Zat:XC K mg "NoCloth" Zak){Zck:AA}(Ze6:XC K mg "NoFit" Zck){Zb1:AA}(Zej:XC K mg "NoName" Zb1){Zaj:AA}(Zca:XC K mg "NoText" Zaj){Zbq:AA}(Zdk:XC K mg "TooWide" Zbq)(Zbl:PySem.W.kitOne K (.ref Zak) (.ref Zaj)=ξ false)(Za3:PySem.W.kitOne K (.ref Zak) (.type "ValueError")=ξ true)(Zbs:PySem.W.kitOne K (.ref Zaj) (.ref Zb0)=ξ false)(Zbm:PySem.W.kitOne K (.ref Zaj) (.ref Zak)=ξ false)(Zby:PySem.W.kitOne K (.ref Zaj) (.ref Zck)=ξ false)(Zbt:PySem.W.kitOne K (.ref Zaj) (.ref Zb1)=ξ false)(Zbu:PySem.W.kitOne K (.ref Zaj) (.ref Zaj)=ξ true)(Zbn:PySem.W.kitOne K (.ref Zaj) (.ref Zbq)=ξ false)(Za8:PySem.W.kitOne K (.ref Zaj) (.type "ValueError")=ξ true)(Zcp:b3w K Zak=true)(Zcl:b3w K Zaj=true)(Zeu:a96 K ["NoText"] "row")(Zaz:a6e K Zak Zal=true)(Za4:a6e K Zaj Zal=true)(a3F:b3N P w K mg base):a1S P w K mg base:=by
 exists z0,49,a4j,el2 λ_ _=>rfl
 ext b
 ·exact l0 (i:=2) S.nd v0
 ext b
 ·refine b6f (i:=3) ?_ Zbi (a8J Zbi Zat Zaz (a8J Zbi Zca Za4 b5m)) ?_ ?_
  ·exact S.nd
  ·intro Y pn E hx;refine a0X ?_;refine b0j ?_ ?_ ?_
   ·exact u7 (O8 (.inr (.inr (.inr (.inl rfl)))) rfl M.Zae (e9 0) (D7 rfl M.Zfd (by rfl) rfl))
   ·exact a0X (b5b a3F hr (by decide) rfl hx (b4 f9) (a9 (a1F b7 (e9 0)) c7))
   exact a0X (b5b a3F hr (by decide) rfl hx (b4 f9) (a9 (e9 0) c7))
  intro a Y;exact d0 (l0 (i:=2) S.nd (e9 3))
 ext b
 ·refine j9 (PW.pt (E8 (y9 (u7 (b7O (cV:= .ref _) (a4N Zat Zcp Zbl (a4N Zca Zcl Zbu b3s)) (λu h=>h) rfl M.Zae (e9 2) (K7 rfl Zca.mg rfl)))) (B3 (y9 (u7 (b7O (cV:= .ty "ValueError") (a4N Zat Zcp Za3 (a4N Zca Zcl Za8 b3s)) (λu h=>h) rfl M.Zae (e9 2) (D7 rfl M.Zcb (by rfl) rfl))))))) ?_ ?_
  ·ext au
  exact g6
 ext b
 ·ext v
  ·refine u7 ?_;refine b97 (b66 Zca Zcl (a2i Zbm (a2i Zby (a2i Zbt (a2i Zbs (a2i Zbn b7q))))) b9D) ?_ ?_ M.Zae (e9 2) (z7 (K7 (v:= .ref _) rfl Zat.mg rfl) (z7 (K7 (v:= .ref _) rfl Ze6.mg rfl) (z7 (K7 (v:= .ref _) rfl Zej.mg rfl) (z7 (K7 (v:= .ref _) rfl Zei.mg rfl) (z7 (K7 (v:= .ref _) rfl Zdk.mg rfl) S5))))) (λ_ _ _ h=>h)
   ·rw [sizeLine_eq];exact Nat.le_of_ble_eq_true rfl
   exact rfl
  ·ext au
  exact g6
 ext b
 ·exact j9 (PW.pt (E8 (y9 (u7 (O8 (.inl rfl) rfl M.Zae (b7N Zeu (e9 2)) (D7 rfl M.Ze2 (by rfl) rfl)))) (B3 (u7 (O8 (.inr (.inl rfl)) rfl M.Zae (b7N Zeu (e9 2)) (D7 rfl M.Zea (by rfl) rfl)))))) (d0 (d7 L4)) g6
 exact d0 (d7 (a0C (m4 hu) (b7N Zeu (e9 2)) (e9 1)))
theorem a9c(D:Df K mg "shown_cloth" a2c):a4Y P w K mg base:=by
 exists z0,0,a4p,el1 λ_=>rfl
 exact d0 (d7 (a1F b7 (e9 0)))
theorem a9Y(D:Dm K "text" "Plain.text" a2Z a.Za1)(O:Oc K mg a)(a1Z:a4Y P w K mg base):J4 P w K mg base a:=by
 exists z2,1,a5a,el1 λ_=>rfl
 exact d0 (d7 (c9 d9 (c9 d9 b7 (i8 a1Z hr (by decide) rfl (b4 f9) (a9 (C9 O.fld_rows (e9 0)) c7))) b7))
theorem a9X(D:Dm K "text" "Named.text" a2Y a.Za2)(O:Oc K mg a):J3 P w K mg base a:=by
 exists z2,0,a49,el1 λ_=>rfl
 exact d0 (d7 (C9 O.fld_name (e9 0)))
theorem a9W{k:Nat}(hk0:2≤k){i9 g9 i4 j5 j6 i5 Zac:List PV→Υ g0}(D:Dm K "text" "Above.text" a01 a.Zas)(O:Oc K mg a)(g:I0 P w K mg base a k i9 g9 i4 j5 j6 i5 Zac):R8 P w K mg base a.Zas ["self"] (k+1) (m8 0 (a2E i9 g9 i4 j5 j6 i5 Zac)):=by
 exists z2,k,a2e,el1 λ_=>rfl
 ext bj
theorem a84{k:Nat}(hk0:2≤k){i9 g9 i4 j5 j6 i5 Zac:List PV→Υ g0}(D:Dm K "text" "Across.text" a0t a.Zap)(M:MoB K mg)(O:Oc K mg a)(p6:J4 P w K mg base a)(p5:J3 P w K mg base a)(g:I0 P w K mg base a k i9 g9 i4 j5 j6 i5 Zac):R8 P w K mg base a.Zap ["self"] (k+1) (m8 0 (a1T i9 g9 i4 j5 j6 i5 Zac)):=by
 exists z2,k,a1o,el1 λ_=>rfl
 ext j
 ext ar
 ·ext ar
  ·exact c9 d9 (c9 d9 b7 (a3d a8w rfl M.Zcw (by rfl) (C9 O.fld_many (e9 0)))) b7
  ext a
  exact C9 O.fld_part (e9 0)
 exact b7
theorem a85{k:Nat}(hk0:2≤k){i9 g9 i4 j5 j6 i5 Zac:List PV→Υ g0}(D:Dm K "text" "Beside.text" a0u a.Zaq)(O:Oc K mg a)(g:I0 P w K mg base a k i9 g9 i4 j5 j6 i5 Zac):R8 P w K mg base a.Zaq ["self"] (k+1) (m8 0 (a1U i9 g9 i4 j5 j6 i5 Zac)):=by
 exists z2,k,a1p,el1 λ_=>rfl
 ext bj
theorem b1y{k:Nat}(hk0:2≤k){i9 g9 i4 j5 j6 i5 Zac:List PV→Υ g0}(D:Dm K "text" "Down.text" a1M a.Zax)(M:MoB K mg)(O:Oc K mg a)(p6:J4 P w K mg base a)(p5:J3 P w K mg base a)(g:I0 P w K mg base a k i9 g9 i4 j5 j6 i5 Zac):R8 P w K mg base a.Zax ["self"] (k+1) (m8 0 (a3u i9 g9 i4 j5 j6 i5 Zac)):=by
 exists z2,k,a27,el1 λ_=>rfl
 ext j
 ext ar
 ·ext ar
  ·exact c9 d9 (c9 d9 b7 (a3d a8w rfl M.Zcw (by rfl) (C9 O.fld_many (e9 0)))) b7
  ext a
  exact C9 O.fld_part (e9 0)
 exact b7
theorem b1z{k:Nat}(hk0:2≤k){i9 g9 i4 j5 j6 i5 Zac:List PV→Υ g0}(D:Dm K "text" "Dyed.text" a1N a.Zay)(O:Oc K mg a)(p6:J4 P w K mg base a)(p5:J3 P w K mg base a)(g:I0 P w K mg base a k i9 g9 i4 j5 j6 i5 Zac):R8 P w K mg base a.Zay ["self"] (k+1) (m8 0 (a3v i9 g9 i4 j5 j6 i5 Zac)):=by
 exists z2,k,a28,el1 λ_=>rfl
 ext j
 ext ar
 ·ext ar
  ·exact c9 d9 (c9 d9 (c9 d9 (c9 d9 b7 (C9 O.fld_one (e9 0))) b7) (C9 O.fld_other (e9 0))) b7
  ext a
  exact C9 O.fld_part (e9 0)
 exact b7
theorem a86{k:Nat}(hk0:2≤k){i9 g9 i4 j5 j6 i5 Zac:List PV→Υ g0}(D:Dm K "text" "Turned.text" a0v a.Zar)(O:Oc K mg a)(p6:J4 P w K mg base a)(p5:J3 P w K mg base a)(g:I0 P w K mg base a k i9 g9 i4 j5 j6 i5 Zac):R8 P w K mg base a.Zar ["self"] (k+1) (m8 0 (a1V i9 g9 i4 j5 j6 i5 Zac)):=by
 exists z2,k,a1q,el1 λ_=>rfl
 ext j
 ext ar
 ·ext ar
  ·exact c9 d9 (C9 O.fld_way (e9 0)) b7
  ext a
  exact C9 O.fld_part (e9 0)
 exact b7
theorem a67{k:Nat}(hk0:2≤k){i9 g9 i4 j5 j6 i5 Zac:List PV→Υ g0}(D:Df K mg "written_parts" U6)(O:Oc K mg a)(p6:J4 P w K mg base a)(p5:J3 P w K mg base a)(g:I0 P w K mg base a k i9 g9 i4 j5 j6 i5 Zac):r8 P w K mg base "written_parts" ["parts"] (k+1) (m8 0 (a0O i9 g9 i4 j5 j6 i5 Zac)):=by
 exists z0,k,a0e,el1 λ_=>rfl
 ext j
 refine a1F ?_ ?_
 ·exact b7
 exists y0,["part"],["parts"],1,a5y
 ·exact rfl
 ·exact a3L (e9 0)
 intro C fp pins s H;exact a0D (d5 p6 O.kc_Plain O.fi_Plain_text (by lia) rfl (d5 p5 O.kc_Named O.fi_Named_text (by lia) rfl (d5 g.Za5 O.kc_Beside O.fi_Beside_text (by lia) rfl (d5 g.Zbe O.kc_Above O.fi_Above_text (by lia) rfl (d5 g.Za6 O.kc_Across O.fi_Across_text (by lia) rfl (d5 g.Zbj O.kc_Down O.fi_Down_text (by lia) rfl (d5 g.Za7 O.kc_Turned O.fi_Turned_text (by lia) rfl (d5 g.Zbk O.kc_Dyed O.fi_Dyed_text (by lia) rfl M8)))))))) hr (e9 1)
theorem a83(a0V:Dm K "text" "Above.text" a01 a.Zas)(a0h:Dm K "text" "Across.text" a0t a.Zap)(a0i:Dm K "text" "Beside.text" a0u a.Zaq)(a1B:Dm K "text" "Down.text" a1M a.Zax)(a1C:Dm K "text" "Dyed.text" a1N a.Zay)(a0j:Dm K "text" "Turned.text" a0v a.Zar)(Zbz:Df K mg "written_parts" U6)(M:MoB K mg)(O:Oc K mg a)(p6:J4 P w K mg base a)(p5:J3 P w K mg base a):∀n:Nat,I0 P w K mg base a (2+n) (a14 n) (a1e n) (a1f n) (a2R n) (a2S n) (a1g n) (a0b n):=by
 intro n
 induction n with
 |zero=>exact⟨P0 (k:=1) a0V a2e (λ_ _ _ _ _ _=>el1 (λ_=>rfl)) λcdv A outer s H E hr=>C8,P0 (k:=1) a0h a1o (λ_ _ _ _ _ _=>el1 (λ_=>rfl)) λcdv A outer s H E hr=>C8,P0 (k:=1) a0i a1p (λ_ _ _ _ _ _=>el1 (λ_=>rfl)) λcdv A outer s H E hr=>C8,P0 (k:=1) a1B a27 (λ_ _ _ _ _ _=>el1 (λ_=>rfl)) λcdv A outer s H E hr=>C8,P0 (k:=1) a1C a28 (λ_ _ _ _ _ _=>el1 (λ_=>rfl)) λcdv A outer s H E hr=>C8,P0 (k:=1) a0j a1q (λ_ _ _ _ _ _=>el1 (λ_=>rfl)) λcdv A outer s H E hr=>C8,n6 (k:=1) Zbz a0e (λ_ _ _ _ _ _=>el1 (λ_=>rfl)) λf cdv A outer s H E hr=>C8⟩
 |succ n ih=>
  exact⟨a9W P w base a (Nat.le_add_right _ _) a0V O ih,a84 P w base a (Nat.le_add_right _ _) a0h M O p6 p5 ih,a85 P w base a (Nat.le_add_right _ _) a0i O ih,b1y P w base a (Nat.le_add_right _ _) a1B M O p6 p5 ih,b1z P w base a (Nat.le_add_right _ _) a1C O p6 p5 ih,a86 P w base a (Nat.le_add_right _ _) a0j O p6 p5 ih,a67 P w base a (Nat.le_add_right _ _) Zbz O p6 p5 ih⟩
theorem b1F(D:Df K mg "shown_row" a4f)(M:MoB K mg)(O:Oc K mg a)(p6:J4 P w K mg base a)(p5:J3 P w K mg base a)(Za5:a9L P w K mg base a)(Zbe:b00 P w K mg base a)(Za6:a9K P w K mg base a)(Zbj:b17 P w K mg base a)(Za7:a9M P w K mg base a)(Zbk:b18 P w K mg base a):a7n P w K mg base:=by
 exists z0,22,a6B,el1 λ_=>rfl
 ext b
 ·ext v
  ·exact l7 (m4 hu) (i6 (e9 0) b5) b7
  ·ext j
   ext ar
   ·exact c9 d9 (c9 d9 b7 (i6 (e9 0) b5)) b7
   ext c
   exact i6 (e9 0) b5
  exact g6
 ext b
 ·ext v
  ·exact l7 (m4 hu) (i6 (e9 0) b5) b7
  ·ext j
   ext ar
   ·exact c9 d9 (c9 d9 (c9 d9 (c9 d9 b7 (a3d a8w rfl M.Zcw (by rfl) (i6 (e9 0) b5))) b7) (i6 (e9 0) b5)) b7
   ext c
   exact i6 (e9 0) b5
  exact g6
 ext j
 ext ar
 ·exact b7
 ext c
 exact i6 (e9 0) b5
theorem b8V(D:Df K mg "shown" b1S)(a3G:a7n P w K mg base):b43 P w K mg base:=by
 exists z0,23,b3o,el1 λ_=>rfl
 ext j
 refine a1F ?_ ?_
 ·exact b7
 exists y0,["row"],["program"],1,b4x
 ·exact rfl
 ·exact a3L (e9 0)
 intro C fp pins s H;exact i8 a3G hr (by decide) rfl (b4 f9) (a9 (e9 1) c7)
theorem b4G(D:Df K mg "_law_bad" a7d):a97 P w K mg base:=by
 exists z0,0,a9u,el1 λ_=>rfl
 ext b
 ·exact l0 (i:=1) S.nd (y8 (a9 b7 (a9 b7 (a9 b7 (a9 b7 (a9 b7 (a9 b7 (a9 b7 (a9 b7 (a9 b7 (a9 b7 c7)))))))))))
 ext b
 ·exact l0 (i:=1) S.nd (c9 d9 (e9 1) (y8 (a9 b7 (a9 b7 (a9 b7 (a9 b7 (a9 b7 (a9 b7 c7))))))))
 ext b
 ·exact l0 (i:=1) S.nd (c9 d9 (e9 1) (y8 (a9 b7 (a9 b7 (a9 b7 (a9 b7 (a9 b7 (a9 b7 c7))))))))
 ext b
 ·exact l0 (i:=1) S.nd (c9 d9 (e9 1) (y8 (a9 b7 (a9 b7 (a9 b7 (a9 b7 (a9 b7 c7)))))))
 ext b
 ·exact l0 (i:=1) S.nd (c9 d9 (e9 1) (y8 (a9 b7 (a9 b7 (a9 b7 (a9 b7 (a9 b7 (a9 b7 (a9 b7 c7)))))))))
 exact b6 (l0 (i:=1) S.nd (c9 d9 (e9 1) (y8 (a9 b7 (a9 b7 (a9 b7 (a9 b7 (a9 b7 (a9 b7 c7))))))))) (d0 (d7 (i6 (e9 1) (c9 v5 (e9 0) b5))))
theorem b24(D:Df K mg "_law_long" a5H):a5h P w K mg base:=by
 exists z0,0,a7G,el1 λ_=>rfl
 exact d0 (d7 (c9 d9 (c9 d9 (c9 d9 (c9 d9 b7 (e9 0)) b7) (a1F b7 (c9 v9 (y8 (a9 (c9 v9 b7 b5) c7)) b5))) b7))
theorem b1A(D:Df K mg "_law_asked" a4a)(M:MoB K mg)(A9:a1S P w K mg base)(a4z:a97 P w K mg base)(Z3:a5h P w K mg base):a7j P w K mg base:=by
 exists z0,50,a6w,el2 λ_ _=>rfl
 ext b
 ·exact l0 (i:=2) S.nd (c9 v5 (c9 v5 (c9 v9 (e9 1) b5) b5) b5)
 ext b
 ·exact l0 (i:=3) S.nd (c9 v5 (c9 v5 (c9 v9 (e9 1) b5) b5) (C1 A0 rfl M.Za0 (by rfl) (e9 0)))
 ext b
 ·exact l0 (i:=4) S.nd (G0 (e9 0) X5 (E6 (e9 3)))
 ext b
 ·ext v
  ·exact l7 (m4 hu) (e9 2) b5
  ·ext j
   refine i8 A9 hr ?_ ?_ ?_ ?_
   ·decide
   ·exact rfl
   ·exact b4 (b4 f9)
   exact a9 (c9 d9 (c9 d9 (e9 4) (y8 (a9 (i8 a4z hr (by decide) rfl (b4 f9) (a9 (e9 1) c7)) c7))) (G0 (e9 0) (E6 (c9 d9 (e9 3) b5)) X5)) (a9 (e9 3) c7)
  exact g6
 ext b
 ·ext v
  ·exact l7 (m4 hu) (e9 2) b5
  ·exact d0 (d7 (i8 A9 hr (by decide) rfl (b4 (b4 f9)) (a9 (c9 d9 (c9 d9 (e9 4) (y8 (a9 (i6 (e9 0) (a3K b5)) c7))) (G0 (e9 0) (E6 (e9 3)) X5)) (a9 (e9 3) c7))))
  exact g6
 ext b
 ·refine j9 (PW.pt (a6Q (l7 (m4 hu) (e9 2) b5) (a4D (l7 a68 (C1 A0 rfl M.Za0 (by rfl) (e9 0)) b5)))) ?_ ?_
  ·exact d0 (d7 (i8 A9 hr (by decide) rfl (b4 (b4 f9)) (a9 (G0 (e9 0) X5 (E6 (a3K b5))) (a9 (c9 a76 (C1 A0 rfl M.Za0 (by rfl) (e9 0)) b5) c7))))
  exact g6
 ext b
 ·ext v
  ·exact l7 (m4 hu) (e9 2) b5
  ·ext j
   refine i8 A9 hr ?_ ?_ ?_ ?_
   ·decide
   ·exact rfl
   ·exact b4 (b4 f9)
   exact a9 (c9 d9 (c9 d9 (e9 4) (y8 (a9 (i8 Z3 hr (by decide) rfl (b4 f9) (a9 b7 c7)) c7))) (G0 (e9 0) (E6 (e9 3)) X5)) (a9 (e9 3) c7)
  exact g6
 ext b
 ·ext v
  ·exact l7 (m4 hu) (e9 2) b5
  ·ext b
   ·exact l0 (i:=5) S.nd (i6 (y8 (a9 (i6 (e9 0) b5) (a9 b7 c7))) (a3d b7F rfl M.Ze2 (by rfl) (a0C (m4 hu) (C1 A0 rfl M.Za0 (by rfl) (e9 0)) b5)))
   exact d0 (d7 (i8 A9 hr (by decide) rfl (b4 (b4 f9)) (a9 (c9 d9 (c9 v9 (y8 (a9 (e9 5) c7)) b5) (y8 (a9 (i6 (e9 0) (a3K b5)) c7))) (a9 b5 c7))))
  exact g6
 ext j
 refine i8 A9 hr ?_ ?_ ?_ ?_
 ·decide
 ·exact rfl
 ·exact b4 (b4 f9)
 exact a9 (c9 d9 (c9 d9 (e9 4) (y8 (a9 (i8 a4z hr (by decide) rfl (b4 f9) (a9 (c9 b3d (e9 1) b5) c7)) c7))) (G0 (e9 0) (E6 (e9 3)) X5)) (a9 (e9 3) c7)
theorem c3d{f:AA}{fd:FuncData}(F:Fun K "law" "law" b9t f fd)(M:MoB K mg)(a5q:a8j P w K mg base)(a3F:b3N P w K mg base)(a2I:a8k P w K mg base)(a5p:a8i P w K mg base)(A9:a1S P w K mg base)(a70:b43 P w K mg base)(a3D:a7j P w K mg base)(Z3:a5h P w K mg base)(R4:a2B P w K mg base):P4 P w K mg base CX0 52 f fd ["_law_script"] (spP K 1 c1V):=by
 refine b71 (k:=51) F b9w λcdv A outer s H E hr=> ?_;have S:=b9w;have hu:=hr.units
 ext b
 ·exact l0 (i:=1) S.nd (i8 a5q hr (by decide) rfl (b4 f9) (a9 (e9 0) c7))
 ext b
 ·refine b1b (i:=2) (ys:=["_law_row"]) (N0:=["_law_script","_law_rows_here","_law_lines","_law_text_here",ϡc,"_law_at","_law_thing"]) ?_ (λ_ _ h=>h) ?_ ⟨by kernel_rfl,rfl,δ rfl,δ rfl,δ rfl⟩ ?_ (λC fp pins s H=>C6 (i:=7) b8M rfl (Or.inl rfl)) (λn h=>N8 (i:=7) (Nat.le_of_eq h)) (λC fp pins s H=>a3H) ?_
  ·exact S.nd
  ·exact rfl
  ·exact a3L (e9 1)
  intro C fp pins s H;exact i8 a5p hr (by decide) rfl (b4 f9) (a9 (e9 7) c7)
 ext b
 ·exact l0 (i:=3) S.nd (a1F b7 (e9 2))
 ext b
 ·exact l0 (i:=4) S.nd (b1a a3F hr (by decide) rfl (b4 f9) (a9 (e9 3) c7))
 ext b
 ·refine a2K 1 ?_;refine a2K 4 ?_;refine j9 (PW.pt (E8 (y9 (u7 (i8 a2I hr (by decide) rfl (b4 (b4 f9)) (a9 (e9 4) (a9 (e9 1) c7))))) (B3 (l7 (N6 hu) (i8 a70 hr (by decide) rfl (b4 f9) (a9 (e9 4) c7)) (e9 3))))) ?_ ?_
  ·ext au
  exact g6
 ext b
 ·refine a56 PassesOwn.never ?_ ?_ M.Zcv ?_ ?_ (a0f 5) ?_
  ·exact rfl
  ·exact rfl
  ·exact a9 (c1S (b7G rfl) rfl M.Zge (by rfl) (C1 A0 rfl M.Za0 (by rfl) (e9 0)) b5) c7
  ·exact C6 (i:=5) S.nd rfl (Or.inl rfl)
  refine d0 ?_;refine a2K 2 ?_
  ext v
  ·refine y9 ?_;refine u7 ?_;refine i8 a3D hr ?_ ?_ ?_ ?_
   ·decide
   ·exact rfl
   ·exact b4 (b4 f9)
   exact a9 (e9 2) (a9 (c9 d9 (c9 d9 (c9 v9 (i8 R4 hr (by decide) rfl (b4 (b4 f9)) (a9 (i6 (e9 0) (e9 5)) (a9 (e9 5) c7))) b5) (c9 v9 b5 (e9 5))) b5) c7)
  ·ext au
  exact g6
 ext b
 ·refine b7Q PassesOwn.never ?_ ?_ ?_ (a0f 6) ?_
  ·exact rfl
  ·exact y8 (a9 v0 (a9 b5 (a9 L4 (a9 (w6 (a9 b7 c7)) (a9 a8B c7)))))
  ·exact C6 (i:=6) S.nd rfl (Or.inl rfl)
  exact d0 (j9 (y9 (u7 (i8 A9 hr (by decide) rfl (b4 (b4 f9)) (a9 (e9 6) (a9 b5 c7))))) (d0 (d7 L4)) g6)
 ext b
 ·refine a2K 2 ?_;exact j9 (y9 (u7 (i8 A9 hr (by decide) rfl (b4 (b4 f9)) (a9 (c9 (b8X M.nl) (e9 2) (y8 (a9 b7 c7))) (a9 (c9 a76 (C1 A0 rfl M.Za0 (by rfl) (e9 2)) b5) c7))))) (d0 (d7 L4)) g6
 ext b
 ·ext v
  ·refine l7 (N6 hu) ?_ ?_
   ·exact i8 a70 hr (by decide) rfl (b4 f9) (a9 (b1a a3F hr (by decide) rfl (b4 f9) (a9 (c9 d9 (i8 Z3 hr (by decide) rfl (b4 f9) (a9 b7 c7)) b7) c7)) c7)
   exact c9 d9 (i8 Z3 hr (by decide) rfl (b4 f9) (a9 b7 c7)) b7
  ·ext au
  exact g6
 exact d0 (a2K 1 (d7 (i8 a2I hr (by decide) rfl (b4 (b4 f9)) (a9 (b1a a3F hr (by decide) rfl (b4 f9) (a9 (e9 3) c7)) (a9 (e9 1) c7)))))
end
theorem c2h{l:PySem.W.OpenLaw}{w:AJ}{K:AE}{h:Heap}{mg:Str→Υ AB}{fa:AA}(X:K.In h)(G:h.Ns mainGlobals mg)(hfa:mg "law"=ξ (.ref fa))
 {Zau:AA}
 {Zav:AA}
 {Zam:AA}
 {Zaw:AA}
 {Zan:AA}
 {Za9:AA}
 {Zao:AA}
 {Zba:AA}
 {Zc4:AA}
 {Zek:AA}
 {Zel:AA}
 {Zdl:AA}
 {Zem:AA}
 {Zdm:AA}
 {Ze7:AA}
 {Zdn:AA}
 {Ze8:AA}
 {Za1:AA}
 {Za2:AA}
 {Zas:AA}
 {Zap:AA}
 {Zaq:AA}
 {Zax:AA}
 {Zay:AA}
 {Zar:AA}
 {Zal:AA}
 {Zb0:AA}
 {Zak:AA}
 {Zck:AA}
 {Zb1:AA}
 {Zaj:AA}
 {Zbq:AA}
 {Zdo:AA}
 {Zeb:AB}
 {Zcm:AB}
 {Zcn:AB}
 {Zfe:AB}
 {Zec:AB}
 {Zed:AB}
 {Zc1:AB}
 {Zc2:AB}
 {Zc7:AB}
 {Zcs:AB}
 (R4:Df0 K "_law_number" a20)
 (a0A:Df0 K "_law_plain" a4d)
 (a2H:Df0 K "_law_leaf" a5F)
 (a5r:Df0 K "_law_step" a5K)
 (a1a:Df0 K "_law_laid" a5E)
 (U9:Df0 K "_law_size" a21)
 (D9:Df0 K "_law_text" a22)
 (a1E:Df0 K "_law_grown" a4b)
 (a1Y:Df0 K "_law_cell_at" a19)
 (a0z:Df0 K "_law_names" a4c)
 (a5q:Df0 K "_law_rows" a5I)
 (a2k:Df0 K "run_end" a7e)
 (D4:Df0 K "letters_end" a2b)
 (a0P:Df0 K "is_small_word" a0Q)
 (R3:Df0 K "is_name" a7c)
 (a8y:Df0 K "is_row" a9q)
 (a5n:Df0 K "is_cloth" a5C)
 (a2J:Df0 K "read_cloth" a25)
 (a1b:Df0 K "plain_at" a5L)
 (T2:Df0 K "figures_end" a18)
 (a3E:Df0 K "number_in" a4e)
 (L3:Df0 K "number_between" a0d)
 (a0B:Df0 K "times_end" a4g)
 (K9:Df0 K "is_colour_at" a1n)
 (Zc9:Df0 K "dyed_at" a4L)
 (Zda:Df0 K "laid_at" a4M)
 (Zbb:Df0 K "last_part_at" Y5)
 (Zbf:Df0 K "made_of_parts_at" N7)
 (Zbw:Df0 K "motif_at" a23)
 (Zc5:Df0 K "parts_at" a24)
 (Zb8:Df0 K "repeated_at" a0w)
 (Zcx:Df0 K "turned_at" a1O)
 (X4:Df0 K "read_motif" a26)
 (a5m:Df0 K "again_of" a5B)
 (a8z:Df0 K "let_of" a9r)
 (a10:Df0 K "telling_row" a2d)
 (a5o:Df0 K "knot_row" a5D)
 (a8A:Df0 K "row_of" a9s)
 (a3F:Df0 K "read" b4N)
 (a0y:Df0 K "_law_is" a6v)
 (a2I:Df0 K "_law_same" a5J)
 (a5p:Df0 K "_law_line" a5G)
 (A9:Df0 K "_law_refused" a2a)
 (a1Z:Df0 K "shown_cloth" a2c)
 (Zbx:Df0 K "written_parts" U6)
 (a3G:Df0 K "shown_row" a4f)
 (a70:Df0 K "shown" b1S)
 (a4z:Df0 K "_law_bad" a7d)
 (Z3:Df0 K "_law_long" a5H)
 (a3D:Df0 K "_law_asked" a4a)
 (c39:Df0 K "law" b9t)
 (Zen:PySem.W.nsIn K mainGlobals "Plain"=ξ (ξ (.ref Zau)))
 (Zeo:PySem.W.nsIn K mainGlobals "Named"=ξ (ξ (.ref Zav)))
 (Zdp:PySem.W.nsIn K mainGlobals "Beside"=ξ (ξ (.ref Zam)))
 (Zep:PySem.W.nsIn K mainGlobals "Above"=ξ (ξ (.ref Zaw)))
 (Zdq:PySem.W.nsIn K mainGlobals "Across"=ξ (ξ (.ref Zan)))
 (Ze9:PySem.W.nsIn K mainGlobals "Down"=ξ (ξ (.ref Za9)))
 (Zdr:PySem.W.nsIn K mainGlobals "Turned"=ξ (ξ (.ref Zao)))
 (Zfa:PySem.W.nsIn K mainGlobals "Dyed"=ξ (ξ (.ref Zba)))
 (Zgg:PySem.W.nsIn K mainGlobals "Motif"=ξ (ξ (.ref Zc4)))
 (oi_Plain:PySem.W.findIn K (.ref Zau) "__init__"=ξ (ξ (.ref Zek))) (ck_Plain:ckC K Zau "Plain" Zek ["rows"]=true) (Zfv:Dm K "__init__" "Plain.__init__" b3n Zek)
 (oi_Named:PySem.W.findIn K (.ref Zav) "__init__"=ξ (ξ (.ref Zel))) (ck_Named:ckC K Zav "Named" Zel ["name"]=true) (Zfw:Dm K "__init__" "Named.__init__" b3m Zel)
 (oi_Beside:PySem.W.findIn K (.ref Zam) "__init__"=ξ (ξ (.ref Zdl))) (ck_Beside:ckC K Zam "Beside" Zdl ["parts"]=true) (Zff:Dm K "__init__" "Beside.__init__" b0M Zdl)
 (oi_Above:PySem.W.findIn K (.ref Zaw) "__init__"=ξ (ξ (.ref Zem))) (ck_Above:ckC K Zaw "Above" Zem ["parts"]=true) (Zfx:Dm K "__init__" "Above.__init__" b3l Zem)
 (oi_Across:PySem.W.findIn K (.ref Zan) "__init__"=ξ (ξ (.ref Zdm))) (ck_Across:ckC K Zan "Across" Zdm ["many","part"]=true) (Zfg:Dm K "__init__" "Across.__init__" b0L Zdm)
 (oi_Down:PySem.W.findIn K (.ref Za9) "__init__"=ξ (ξ (.ref Ze7))) (ck_Down:ckC K Za9 "Down" Ze7 ["many","part"]=true) (Zgh:Dm K "__init__" "Down.__init__" b5N Ze7)
 (oi_Turned:PySem.W.findIn K (.ref Zao) "__init__"=ξ (ξ (.ref Zdn))) (ck_Turned:ckC K Zao "Turned" Zdn ["way","part"]=true) (Zfh:Dm K "__init__" "Turned.__init__" b0O Zdn)
 (oi_Dyed:PySem.W.findIn K (.ref Zba) "__init__"=ξ (ξ (.ref Ze8))) (ck_Dyed:ckC K Zba "Dyed" Ze8 ["one","other","part"]=true) (Zgi:Dm K "__init__" "Dyed.__init__" b5O Ze8)
 (fi_Plain_text:PySem.W.findIn K (.ref Zau) "text"=ξ (ξ (.ref Za1)))
 (fi_Named_text:PySem.W.findIn K (.ref Zav) "text"=ξ (ξ (.ref Za2)))
 (fi_Beside_text:PySem.W.findIn K (.ref Zam) "text"=ξ (ξ (.ref Zaq)))
 (fi_Above_text:PySem.W.findIn K (.ref Zaw) "text"=ξ (ξ (.ref Zas)))
 (fi_Across_text:PySem.W.findIn K (.ref Zan) "text"=ξ (ξ (.ref Zap)))
 (fi_Down_text:PySem.W.findIn K (.ref Za9) "text"=ξ (ξ (.ref Zax)))
 (fi_Turned_text:PySem.W.findIn K (.ref Zao) "text"=ξ (ξ (.ref Zar)))
 (fi_Dyed_text:PySem.W.findIn K (.ref Zba) "text"=ξ (ξ (.ref Zay)))
 (p6:Dm K "text" "Plain.text" a2Z Za1)
 (p5:Dm K "text" "Named.text" a2Y Za2)
 (Zbe:Dm K "text" "Above.text" a01 Zas)
 (Za6:Dm K "text" "Across.text" a0t Zap)
 (Za5:Dm K "text" "Beside.text" a0u Zaq)
 (Zbj:Dm K "text" "Down.text" a1M Zax)
 (Zbk:Dm K "text" "Dyed.text" a1N Zay)
 (Za7:Dm K "text" "Turned.text" a0v Zar)
 (Zgj:a6X K (.ref Zaw) [("Plain",Zau),("Named",Zav),("Beside",Zam),("Above",Zaw),("Across",Zan),("Down",Za9),("Turned",Zao),("Dyed",Zba)] [false,false,false,true,false,false,false,false]=true)
 (Zfy:a6X K (.ref Zan) [("Plain",Zau),("Named",Zav),("Beside",Zam),("Above",Zaw),("Across",Zan),("Down",Za9),("Turned",Zao),("Dyed",Zba)] [false,false,false,false,true,false,false,false]=true)
 (Zfz:a6X K (.ref Zam) [("Plain",Zau),("Named",Zav),("Beside",Zam),("Above",Zaw),("Across",Zan),("Down",Za9),("Turned",Zao),("Dyed",Zba)] [false,false,true,false,false,false,false,false]=true)
 (Zgt:a6X K (.ref Za9) [("Plain",Zau),("Named",Zav),("Beside",Zam),("Above",Zaw),("Across",Zan),("Down",Za9),("Turned",Zao),("Dyed",Zba)] [false,false,false,false,false,true,false,false]=true)
 (Zgu:a6X K (.ref Zba) [("Plain",Zau),("Named",Zav),("Beside",Zam),("Above",Zaw),("Across",Zan),("Down",Za9),("Turned",Zao),("Dyed",Zba)] [false,false,false,false,false,false,false,true]=true)
 (Zgk:a6X K (.ref Zc4) [("Plain",Zau),("Named",Zav),("Beside",Zam),("Above",Zaw),("Across",Zan),("Down",Za9),("Turned",Zao),("Dyed",Zba)] [true,true,true,true,true,true,true,true]=true)
 (Zgl:a6X K (.ref Zav) [("Plain",Zau),("Named",Zav),("Beside",Zam),("Above",Zaw),("Across",Zan),("Down",Za9),("Turned",Zao),("Dyed",Zba)] [false,true,false,false,false,false,false,false]=true)
 (Zgm:a6X K (.ref Zau) [("Plain",Zau),("Named",Zav),("Beside",Zam),("Above",Zaw),("Across",Zan),("Down",Za9),("Turned",Zao),("Dyed",Zba)] [true,false,false,false,false,false,false,false]=true)
 (Zf0:a6X K (.ref Zao) [("Plain",Zau),("Named",Zav),("Beside",Zam),("Above",Zaw),("Across",Zan),("Down",Za9),("Turned",Zao),("Dyed",Zba)] [false,false,false,false,false,false,true,false]=true)
 (Zgv:a6X K (.type "bool") [("Plain",Zau),("Named",Zav),("Beside",Zam),("Above",Zaw),("Across",Zan),("Down",Za9),("Turned",Zao),("Dyed",Zba)] [false,false,false,false,false,false,false,false]=true)
 (k2:PySem.W.specialIn K (.builtin "object.__class__") "__get__"=ξ (ξ (.builtin "getset_descriptor.__get__"))) (k3:PySem.W.takesIn K (.builtin "object.__class__")=ξ true)
 (nl:c0Q K=true)
 (Zct:PySem.W.nsIn K mainGlobals "CarpetError"=ξ (ξ (.ref Zal))) (Zd1:(V3 K Zal "CarpetError" && a5t K Zal)=true)
 (Zf1:PySem.W.nsIn K mainGlobals "Misfit"=ξ (ξ (.ref Zb0))) (Zf2:(V3 K Zb0 "Misfit" && a5t K Zb0)=true)
 (Zfi:PySem.W.nsIn K mainGlobals "NoCloth"=ξ (ξ (.ref Zak))) (Zfj:(V3 K Zak "NoCloth" && a5t K Zak)=true)
 (Zgn:PySem.W.nsIn K mainGlobals "NoFit"=ξ (ξ (.ref Zck))) (Zgo:(V3 K Zck "NoFit" && a5t K Zck)=true)
 (Zf3:PySem.W.nsIn K mainGlobals "NoName"=ξ (ξ (.ref Zb1))) (Zf4:(V3 K Zb1 "NoName" && a5t K Zb1)=true)
 (Zds:PySem.W.nsIn K mainGlobals "NoText"=ξ (ξ (.ref Zaj))) (Zf5:(V3 K Zaj "NoText" && a5t K Zaj)=true)
 (Zfk:PySem.W.nsIn K mainGlobals "TooWide"=ξ (ξ (.ref Zbq))) (Zfl:(V3 K Zbq "TooWide" && a5t K Zbq)=true)
 (Zcp:b3w K Zak=true)
 (Zcl:b3w K Zaj=true)
 (Zco:PySem.W.excIn K Zak a6k "ValueError.__new__"=true)
 (Zgy:PySem.W.findIn K (.ref Zaj) "__init__"=ξ (ξ (.ref Zdo))) (Zf6:(V3 K Zaj "NoText" && c21 K Zaj)=true) (Zf7:a8E K Zaj Zdo=true) (Zf8:(["row"]:List Str).all (λg=>PySem.W.findIn K (.ref Zaj) g==ξ ζ)=true) (Zfm:Dm K "__init__" "NoText.__init__" b0N Zdo)
 (Zd2:PySem.W.readsIn K Zal (.type "type")=true) (Zd3:PySem.W.findCls K (.ref Zal) (.type "type") "__init__"=ξ (.val (.builtin "ValueError.__init__"))) (Zd4:PySem.W.specialIn K (.ref Zal) "__getattribute__"=ξ (ξ (.builtin "type.__getattribute__")))
 (Zbl:PySem.W.kitOne K (.ref Zak) (.ref Zaj)=ξ false)
 (Za3:PySem.W.kitOne K (.ref Zak) (.type "ValueError")=ξ true)
 (Zbs:PySem.W.kitOne K (.ref Zaj) (.ref Zb0)=ξ false)
 (Zbm:PySem.W.kitOne K (.ref Zaj) (.ref Zak)=ξ false)
 (Zby:PySem.W.kitOne K (.ref Zaj) (.ref Zck)=ξ false)
 (Zbt:PySem.W.kitOne K (.ref Zaj) (.ref Zb1)=ξ false)
 (Zbu:PySem.W.kitOne K (.ref Zaj) (.ref Zaj)=ξ true)
 (Zbn:PySem.W.kitOne K (.ref Zaj) (.ref Zbq)=ξ false)
 (Za8:PySem.W.kitOne K (.ref Zaj) (.type "ValueError")=ξ true)
 (Zaz:a6e K Zak Zal=true)
 (Zbg:a6e K Zak Zak=true)
 (Za4:a6e K Zaj Zal=true)
 (Zcb:PySem.W.nsIn K mainGlobals "ValueError"=ξ ζ)
 (Zfp:PySem.W.nsIn K mainGlobals "all"=ξ ζ)
 (Zea:PySem.W.nsIn K mainGlobals "bool"=ξ ζ)
 (Zcu:PySem.W.nsIn K mainGlobals "enumerate"=ξ ζ)
 (Ze2:PySem.W.nsIn K mainGlobals "int"=ξ ζ)
 (Zae:PySem.W.nsIn K mainGlobals "isinstance"=ξ ζ)
 (Za0:PySem.W.nsIn K mainGlobals "len"=ξ ζ)
 (Zfd:PySem.W.nsIn K mainGlobals "list"=ξ ζ)
 (Zfq:PySem.W.nsIn K mainGlobals "max"=ξ ζ)
 (Zge:PySem.W.nsIn K mainGlobals "min"=ξ ζ)
 (Zcv:PySem.W.nsIn K mainGlobals "range"=ξ ζ)
 (Zcw:PySem.W.nsIn K mainGlobals "str"=ξ ζ)
 (Zb7:PySem.W.nsIn K mainGlobals "tuple"=ξ ζ)
 (Zgf:PySem.W.nsIn K mainGlobals "zip"=ξ ζ)
 (Zf9:PySem.W.nsIn K mainGlobals "LONGEST"=ξ (ξ Zeb)) (Zev:R1 K 40 Zeb=ξ a03)
 (Zd5:PySem.W.nsIn K mainGlobals "MOST_FIGURES"=ξ (ξ Zcm)) (Zd6:R1 K 40 Zcm=ξ a1x)
 (Zd7:PySem.W.nsIn K mainGlobals "LONGEST_WORD"=ξ (ξ Zcn)) (Zd8:R1 K 40 Zcn=ξ a1w)
 (Zgw:PySem.W.nsIn K mainGlobals "WORDS"=ξ (ξ Zfe)) (Zgx:R1 K 40 Zfe=ξ b1X)
 (Zga:PySem.W.nsIn K mainGlobals "TURNING"=ξ (ξ Zec)) (Zgb:R1 K 40 Zec=ξ a0g)
 (Zgc:PySem.W.nsIn K mainGlobals "DEEPEST"=ξ (ξ Zed)) (Zgd:R1 K 40 Zed=ξ a4O)
 (Zew:PySem.W.nsIn K mainGlobals "MOST_PARTS"=ξ (ξ Zc1)) (Zex:R1 K 40 Zc1=ξ Y6)
 (Zey:PySem.W.nsIn K mainGlobals "MOST_TIMES"=ξ (ξ Zc2)) (Zc8:R1 K 40 Zc2=ξ N9)
 (Zfb:PySem.W.nsIn K mainGlobals "MOST_ROWS"=ξ (ξ Zc7)) (Zfc:R1 K 40 Zc7=ξ W7)
 (Zeq:PySem.W.nsIn K mainGlobals "LONGEST_ROW"=ξ (ξ Zcs)) (Zer:R1 K 40 Zcs=ξ U2)
 :∃fd:FuncData,(∀(s:AC) (v:AB),BindsTo s fd ⟨[v],[]⟩ [("_law_script",v)])∧∀base:Heap,K.In base→base.Ns mainGlobals mg→P4 l.prog w K mg base CX0 52 fa fd ["_law_script"] (b3p K):=by
 have Zbi:XC K mg "CarpetError" Zal:=a9D X G Zct Zd1
 have Zei:XC K mg "Misfit" Zb0:=a9D X G Zf1 Zf2
 have Zat:XC K mg "NoCloth" Zak:=a9D X G Zfi Zfj
 have Ze6:XC K mg "NoFit" Zck:=a9D X G Zgn Zgo
 have Zej:XC K mg "NoName" Zb1:=a9D X G Zf3 Zf4
 have Zca:XC K mg "NoText" Zaj:=a9D X G Zds Zf5
 have Zdk:XC K mg "TooWide" Zbq:=a9D X G Zfk Zfl
 have M:MoB K mg:=⟨PySem.W.mg_none_of X G Zcb,PySem.W.mg_none_of X G Zfp,PySem.W.mg_none_of X G Zea,PySem.W.mg_none_of X G Zcu,PySem.W.mg_none_of X G Ze2,PySem.W.mg_none_of X G Zae,PySem.W.mg_none_of X G Za0,PySem.W.mg_none_of X G Zfd,PySem.W.mg_none_of X G Zfq,PySem.W.mg_none_of X G Zge,PySem.W.mg_none_of X G Zcv,PySem.W.mg_none_of X G Zcw,PySem.W.mg_none_of X G Zb7,PySem.W.mg_none_of X G Zgf,nl⟩
 have Zee:=PySem.W.mg_of X G Zf9
 have Zdt:=PySem.W.mg_of X G Zd5
 have Zdu:=PySem.W.mg_of X G Zd7
 have Zgp:=PySem.W.mg_of X G Zgw
 have Zfn:=PySem.W.mg_of X G Zga
 have Zfo:=PySem.W.mg_of X G Zgc
 have Zes:=PySem.W.mg_of X G Zew
 have Zc3:=PySem.W.mg_of X G Zey
 have Zez:=PySem.W.mg_of X G Zfb
 have Zd9:=PySem.W.mg_of X G Zeq
 have Zb2:=a7t Zen oi_Plain ck_Plain
 have Zb3:=a7t Zeo oi_Named ck_Named
 have Zbr:=a7t Zdp oi_Beside ck_Beside
 have Zb4:=a7t Zep oi_Above ck_Above
 have Zbc:=a7t Zdq oi_Across ck_Across
 have Zb6:=a7t Ze9 oi_Down ck_Down
 have Zbd:=a7t Zdr oi_Turned ck_Turned
 have Zbv:=a7t Zfa oi_Dyed ck_Dyed
 have kk:=(a0K Zb2.kc (Zb2.ki k2 k3) (a0K Zb3.kc (Zb3.ki k2 k3) (a0K Zbr.kc (Zbr.ki k2 k3) (a0K Zb4.kc (Zb4.ki k2 k3) (a0K Zbc.kc (Zbc.ki k2 k3) (a0K Zb6.kc (Zb6.ki k2 k3) (a0K Zbd.kc (Zbd.ki k2 k3) (a0K Zbv.kc (Zbv.ki k2 k3) c0A))))))))
 obtain⟨a,ha⟩:∃a:Ad,a=⟨Zau,Zav,Zam,Zaw,Zan,Za9,Zao,Zba,Zc4,Za1,Za2,Zas,Zap,Zaq,Zax,Zay,Zar⟩:=⟨_,rfl⟩
 have O:Oc K mg a:=by
  rw [ha];exact⟨Zb2.kc,Zb3.kc,Zbr.kc,Zb4.kc,Zbc.kc,Zb6.kc,Zbd.kc,Zbv.kc,fi_Plain_text,fi_Named_text,fi_Beside_text,fi_Above_text,fi_Across_text,fi_Down_text,fi_Turned_text,fi_Dyed_text,(B6 Zbc.kc (Zbc.na _ (by decide)) (B6 Zb6.kc (Zb6.na _ (by decide)) P8)),(B6 Zb3.kc (Zb3.na _ (by decide)) P8),(B6 Zbv.kc (Zbv.na _ (by decide)) P8),(B6 Zbv.kc (Zbv.na _ (by decide)) P8),(B6 Zbc.kc (Zbc.na _ (by decide)) (B6 Zb6.kc (Zb6.na _ (by decide)) (B6 Zbd.kc (Zbd.na _ (by decide)) (B6 Zbv.kc (Zbv.na _ (by decide)) P8)))),(B6 Zbr.kc (Zbr.na _ (by decide)) (B6 Zb4.kc (Zb4.na _ (by decide)) P8)),(B6 Zb2.kc (Zb2.na _ (by decide)) P8),(B6 Zbd.kc (Zbd.na _ (by decide)) P8),PySem.W.mg_of X G Zep,PySem.W.mg_of X G Zdq,PySem.W.mg_of X G Zdp,PySem.W.mg_of X G Ze9,PySem.W.mg_of X G Zfa,PySem.W.mg_of X G Zgg,PySem.W.mg_of X G Zeo,PySem.W.mg_of X G Zen,PySem.W.mg_of X G Zdr,a1j kk Zgj,a1j kk Zfy,a1j kk Zfz,a1j kk Zgt,a1j kk Zgu,a1j kk Zgk,a1j kk Zgl,a1j kk Zgm,a1j kk Zf0,a1j kk Zgv⟩
 have Ze0:KX K "NoText" Zaj:=c4q Zds Zf6
 have Ze1:∀g∈(["row"]:List Str),G5 K Zaj g:=c2i Zf8
 have Zeu:a96 K ["NoText"] "row":=(b33 Ze0 (Ze1 _ (by decide)) b6i)
 refine c0C (c39.to X G) hfa (λ_ _ _ _ _ _ _=>rfl) main λbase f fd kb F=> ?_
 have Zcz:b9R l.prog w K mg base "NoText" ["row"] 1:=b8j (k:=0) Zfm b4Q rfl Ze0 (PySem.W.mg_of X G Zds) Zf7 Ze1 (by decide+kernel) (by decide) (λ_ _ _ _ _ _=>el2 (λ_ _=>rfl)) λcdv A outer s H E hr=>(D6 (b9i rfl (PySem.W.mg_of X G Zct) Zd2 Zd3 Zd4 (z7 (pv 0) (z7 (pv 1) S5))) (D6 (c1c rfl (pv 0) (pv 1)) a0s))
 have i_Above:O7 l.prog w K mg base "Above" ["parts"] 1:=a0J (k:=0) Zfx b6Z rfl Zb4.kc (PySem.W.mg_of X G Zep) Zb4.mo Zb4.na (by decide+kernel) (by decide) (λ_ _ _ _ _ _=>el2 (λ_ _=>rfl)) λcdv A outer s H E hr=>(D6 (a0c (pv 0) (pv 1) rfl) a0s)
 have i_Across:O7 l.prog w K mg base "Across" ["many","part"] 1:=a0J (k:=0) Zfg b4O rfl Zbc.kc (PySem.W.mg_of X G Zdq) Zbc.mo Zbc.na (by decide+kernel) (by decide) (λ_ _ _ _ _ _=>el3 (λ_ _ _=>rfl)) λcdv A outer s H E hr=>(D6 (a0c (pv 0) (pv 1) rfl) (D6 (a0c (pv 0) (pv 2) rfl) a0s))
 have i_Beside:O7 l.prog w K mg base "Beside" ["parts"] 1:=a0J (k:=0) Zff b4P rfl Zbr.kc (PySem.W.mg_of X G Zdp) Zbr.mo Zbr.na (by decide+kernel) (by decide) (λ_ _ _ _ _ _=>el2 (λ_ _=>rfl)) λcdv A outer s H E hr=>(D6 (a0c (pv 0) (pv 1) rfl) a0s)
 have i_Down:O7 l.prog w K mg base "Down" ["many","part"] 1:=a0J (k:=0) Zgh b9u rfl Zb6.kc (PySem.W.mg_of X G Ze9) Zb6.mo Zb6.na (by decide+kernel) (by decide) (λ_ _ _ _ _ _=>el3 (λ_ _ _=>rfl)) λcdv A outer s H E hr=>(D6 (a0c (pv 0) (pv 1) rfl) (D6 (a0c (pv 0) (pv 2) rfl) a0s))
 have i_Dyed:O7 l.prog w K mg base "Dyed" ["one","other","part"] 1:=a0J (k:=0) Zgi b9v rfl Zbv.kc (PySem.W.mg_of X G Zfa) Zbv.mo Zbv.na (by decide+kernel) (by decide) (λ_ _ _ _ _ _=>el4 (λ_ _ _ _=>rfl)) λcdv A outer s H E hr=>(D6 (a0c (pv 0) (pv 1) rfl) (D6 (a0c (pv 0) (pv 2) rfl) (D6 (a0c (pv 0) (pv 3) rfl) a0s)))
 have i_Named:O7 l.prog w K mg base "Named" ["name"] 1:=a0J (k:=0) Zfw b60 rfl Zb3.kc (PySem.W.mg_of X G Zeo) Zb3.mo Zb3.na (by decide+kernel) (by decide) (λ_ _ _ _ _ _=>el2 (λ_ _=>rfl)) λcdv A outer s H E hr=>(D6 (a0c (pv 0) (pv 1) rfl) a0s)
 have i_Plain:O7 l.prog w K mg base "Plain" ["rows"] 1:=a0J (k:=0) Zfv b61 rfl Zb2.kc (PySem.W.mg_of X G Zen) Zb2.mo Zb2.na (by decide+kernel) (by decide) (λ_ _ _ _ _ _=>el2 (λ_ _=>rfl)) λcdv A outer s H E hr=>(D6 (a0c (pv 0) (pv 1) rfl) a0s)
 have i_Turned:O7 l.prog w K mg base "Turned" ["way","part"] 1:=a0J (k:=0) Zfh b4R rfl Zbd.kc (PySem.W.mg_of X G Zdr) Zbd.mo Zbd.na (by decide+kernel) (by decide) (λ_ _ _ _ _ _=>el3 (λ_ _ _=>rfl)) λcdv A outer s H E hr=>(D6 (a0c (pv 0) (pv 1) rfl) (D6 (a0c (pv 0) (pv 2) rfl) a0s))
 have I:Io l.prog w K mg base:=⟨i_Above,i_Across,i_Beside,i_Down,i_Dyed,i_Named,i_Plain,i_Turned⟩
 have a5W:=a9Z l.prog w base (R4.to X G)
 have a7i:=b1D l.prog w base (a0A.to X G) M
 have b3D:=b22 l.prog w base (a2H.to X G) M a7i
 have b3H:=b28 l.prog w base (a5r.to X G) M
 have b3C:=b21 l.prog w base (a1a.to X G) M
 obtain a2z:=b1w l.prog w base (U9.to X G) M b3C 12
 obtain a04:=b1x l.prog w base (D9.to X G) M 12
 have b11:=b1B l.prog w base (a1E.to X G) M b3D a7i b3H a2z a04
 have a9H:=a88 l.prog w base (a1Y.to X G) M
 have b12:=b1C l.prog w base (a0z.to X G)
 have b3F:=b25 l.prog w base (a5q.to X G) M a5W b11 a9H b12
 have a95:=b4H l.prog w base (a2k.to X G) M
 have a1Q:=a9a l.prog w base (D4.to X G) a95
 have a7L:=a66 l.prog w base (a0P.to X G) M Zdu Zd8 a1Q
 have a6F:=b4E l.prog w base (R3.to X G) Zgp Zgx a7L
 have b7f:=b6E l.prog w base (a8y.to X G) M Zee Zev
 have b3A:=b2Z l.prog w base (a5n.to X G) M Zee Zev b7f
 have b0Z:=a90 l.prog w base (a2J.to X G) M kb Zat Zco b3A
 have b3I:=b3c l.prog w base (a1b.to X G) I Zat Zbg b0Z
 have a4V:=a87 l.prog w base (T2.to X G) a95
 have b13:=b1E l.prog w base (a3E.to X G) M Zdt Zd6 a4V
 have a2g:=a6n l.prog w base (L3.to X G) b13
 have b15:=b1G l.prog w base (a0B.to X G) Zc3 Zc8 a4V a2g
 have a8b:=a7T l.prog w base (K9.to X G) a1Q
 obtain⟨Zdh,Zdi,Zb5,Zbh,a2A,Zc6,Zb9,Zcy⟩:=b2X l.prog w base (Zc9.to X G) (Zda.to X G) (Zbb.to X G) (Zbf.to X G) (Zbw.to X G) (Zc5.to X G) (Zb8.to X G) (Zcx.to X G) M I Zes Zex Zfn Zgb a8b a1Q a6F b3I b15 40
 have a5X:=a91 l.prog w base (X4.to X G) M Zfo Zgd a2A
 have b3z:=b2Y l.prog w base (a5m.to X G) M Zc3 Zc8 a2g a6F
 have b7g:=b6G l.prog w base (a8z.to X G) a6F
 have a9J:=a9d l.prog w base (a10.to X G) a5X b3z b7g
 have b3B:=b20 l.prog w base (a5o.to X G) a5X
 have b7i:=b6H l.prog w base (a8A.to X G) M Zd9 Zer a9J b3B
 have b7h:=c0V l.prog w base (a3F.to X G) M Zcz Zez Zfc b7i
 obtain a5V:=b4C l.prog w base a (a0y.to X G) M O 12
 have b3G:=b26 l.prog w base a (a2I.to X G) M O a5V
 have b3E:=b23 l.prog w base (a5p.to X G) M a04
 have a4W:=a89 l.prog w base (A9.to X G) M Zbi Zei Zat Ze6 Zej Zca Zdk Zbl Za3 Zbs Zbm Zby Zbt Zbu Zbn Za8 Zcp Zcl Zeu Zaz Za4 b7h
 have a9I:=a9c l.prog w base (a1Z.to X G)
 have a5U:=a9Y l.prog w base a (mg:=mg) (by rw [ha];exact p6) O a9I
 have a5T:=a9X l.prog w base a (mg:=mg) (by rw [ha];exact p5) O
 obtain⟨a0V,a0h,a0i,a1B,a1C,a0j,Zbz⟩:=a83 l.prog w base a (by rw [ha];exact Zbe) (by rw [ha];exact Za6) (by rw [ha];exact Za5) (by rw [ha];exact Zbj) (by rw [ha];exact Zbk) (by rw [ha];exact Za7) (Zbx.to X G) M O a5U a5T 20
 have b14:=b1F l.prog w base a (a3G.to X G) M O a5U a5T a0i a0V a0h a1B a0j a1C
 have b9Q:=b8V l.prog w base (a70.to X G) b14
 have b54:=b4G l.prog w base (a4z.to X G)
 have a8c:=b24 l.prog w base (Z3.to X G)
 have b10:=b1A l.prog w base (a3D.to X G) M a4W b54 a8c
 exact c3d l.prog w base F M b3F b7h b3G b3E a4W b9Q b10 a8c a5W
end LW
open PySem PySem.W PyProof.Rows
theorem PySem.Challenge.cw_carpetkin_k23_programs_read_holds : PySem.Challenge.rw_carpetkin_k23_programs_read.Holds := by
 w_on;refine topX ?_
 k_fill
 refine PU.c4Y (k:=52) (x:="_law_script") (l:=PySem.Challenge.rw_carpetkin_k23_programs_read) (by decide) rfl rfl (fun w h Y=>PySem.W.kIn_of Y) ?F
 case F=>
  intro w mg fa h KX G hmg;apply LW.c2h KX G hmg
  all_goals first|(apply PU.c4a<;>k_is)|(apply PU.c4b<;>first|k_is|kernel_rfl)|k_is|kernel_rfl|skip
