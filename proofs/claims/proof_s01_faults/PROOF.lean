import PyProof.Rows.All
import Wide.All
import OpenK.AllK
import VanbkcSpec
import Wide.FinOn
import PyProof.EqAt
import PyProof.EqKinds
import PyProof.TupleCall
import KE.BitLaws
import OpenK.KOwn
import KE.KMinKey
import Open.SpecLaws
import KE.OsHead
import KE.OsGo
import PySem.SetTable
import PyProof.SetScanFacts
import PyProof.TupleKey
import PyProof.SetKind
import PyProof.IsRules
import PyProof.DictStraight
import PyProof.Rows.SetFrom
import PyProof.CollectWalk
import KE.KSortTupG
import PySem.Challenge.RW_cellnames_s01_faults
import PyVanbkc
set_option hygiene false
set_option maxRecDepth 100000
set_option maxHeartbeats 8000000
local macro_rules|`([2])=>`(by omega)|`([3])=>`(by decide)|`([4])=>`(by simp)|`([5])=>`(List Tok)|`([6])=>`(List Value)|`([8])=>`(Nat.le_refl _)|`([9])=>`([17,H,s])|`([10])=>`(.ref a)|`([11])=>`(⟨rfl,rfl,rfl,[32],rfl,[32],[32]⟩)|`([12])=>`(hd ts)|`([13])=>`(List V)|`([14])=>`(List Addr)|`([15])=>`(List Vanbka.Tok)|`([16])=>`(Str->[174])|`([17])=>`(List (Addr×Obj))|`([18])=>`(Addr->Prop)|`([19])=>`(List Str)|`([20])=>`(λvs H Q E h=> ?_)|`([21])=>`(λbU A outer s H vs Q E hr h=> ?_)|`([22])=>`(R.W.na _ [4])
local macro_rules|`([23])=>`(List Bytes)|`([24])=>`(List T)|`([25])=>`(.ref b)|`([26])=>`(List Int)|`([27])=>`([26,Value])|`([28])=>`(aj hb)|`([29])=>`(List CN.T)|`([30])=>`(List Nat)|`([31])=>`(kdOf t.lex)|`([32])=>`(by decide+kernel)|`([33])=>`(Nat.zero_le _)|`([34])=>`(List α)|`([35])=>`(aS H H')|`([36])=>`(List Pl)|`([37])=>`(aJ (pv 0) rfl)|`([38])=>`(.inl rfl)|`([39])=>`([136,H])|`([40])=>`(.ref l)|`([41])=>`(Nat->Addr)|`([42])=>`(Nat->FuncData)
local macro_rules|`([43])=>`(Rd P w K mg base C CC TC NC fI fA fS fT fF fN kj lF gR je de jc jv jw bm newId aP B fa fm)|`([44])=>`((·.1))|`([45])=>`([16,pv 1])|`([46])=>`(aF [175])|`([47])=>`(Inv w)|`([48])=>`(if_neg h)|`([49])=>`(Wd P w K mg c fB fU fV fS fW j7 ja kM kN de jy fa fm)|`([50])=>`(envOf w)|`([51])=>`(wpAny_pure ?_)|`([52])=>`(λh1=> ?_)|`([53])=>`([34,rfl])|`([54])=>`(.ref x)|`([55])=>`(bg ?_)|`([56])=>`(if_pos h)|`([57])=>`(λbU A' outer s H vs Q E hr h=> ?_)|`([58])=>`(Res T)|`([59])=>`(iO d ts)|`([60])=>`(.lst xs)|`([61])=>`(ts.drop 1)|`([62])=>`(cQ P w C)
local macro_rules|`([63])=>`([2,n])|`([64])=>`(s.heap.objs.size+1)|`([65])=>`(Res α)|`([66])=>`(λh2=> ?_)|`([67])=>`([102,V])|`([68])=>`(cN I q [4])|`([69])=>`(All P w K mg base C CC TC NC fa fm n k F)|`([70])=>`(as.map V.ref)|`([71])=>`(Option V)|`([72])=>`(Heap.lt_size e)|`([73])=>`(w.lG [38,t])|`([74])=>`(Option Bytes)|`([75])=>`([5,b])|`([76])=>`(λH' a' kk cc _ t=>q H' kk cc a' t)|`([77])=>`(aJ (pv 1) rfl)|`([78])=>`(wpAny_bind ?_)|`([79])=>`(lY P w H h)|`([80])=>`(List Key)|`([81])=>`(aE c H H')|`([82])=>`(R.B.na _ [4])
local macro_rules|`([83])=>`(kdOf l)|`([84])=>`(["cursor"])|`([85])=>`(List ([26]×Addr))|`([86])=>`([333,H])|`([87])=>`(.ref C)|`([88])=>`(h.get? a)|`([89])=>`(h'.get? b)|`([90])=>`(r.length+1)|`([91])=>`((t.put j).1)|`([92])=>`(λpl bQ=> ?_)|`([93])=>`(Array Value)|`([94])=>`(bs.drop p)|`([95])=>`(["text"])|`([96])=>`(by simpa using hb)|`([97])=>`(λ_=> .out)|`([98])=>`(λ_=>cS)|`([99])=>`(λ_=>cb)|`([100])=>`(List [24])|`([101])=>`([35,z])|`([102])=>`(List ([80]×[493]))
local macro_rules|`([103])=>`(aa ay af)|`([104])=>`(V.ref a)|`([105])=>`([3,[272]])|`([106])=>`(.lst [])|`([107])=>`(home<w.met)|`([108])=>`(Heap.get?_push_size _ rfl)|`([109])=>`(gX [3])|`([110])=>`(.ref f)|`([111])=>`(List Ev)|`([112])=>`(.int i)|`([113])=>`(Nat×Nat)|`([114])=>`([102,Addr])|`([115])=>`(List Expr)|`([116])=>`(RelV v u)|`([117])=>`([24,x,("__debug__":Str)])|`([118])=>`(∀H',E [87] none H')|`([119])=>`(.tup xs)|`([120])=>`([2,p])|`([121])=>`(Option Int)|`([122])=>`(r.drop 1)
local macro_rules|`([123])=>`(List Env)|`([124])=>`([18,?_])|`([125])=>`({s with heap:=h'})|`([126])=>`(bP K H a xs)|`([127])=>`(PySem.intKind prog w)|`([128])=>`(Value.ref a)|`([129])=>`(by simp at h)|`([130])=>`(.ref s.heap.objs.size)|`([131])=>`(Vanbkc.faults p)|`([132])=>`(CN.strength (hd r))|`([133])=>`(RelV y u)|`([134])=>`(List ([80]×V))|`([135])=>`([87,"len"])|`([136])=>`(List (Nat×Nat))|`([137])=>`([16,pv 0])|`([138])=>`(["byte"])|`([139])=>`(I.tok _)|`([140])=>`([2,st])|`([141])=>`([2,c.toNat])|`([142])=>`(some x)
local macro_rules|`([143])=>`(λa x r e p=> ?_)|`([144])=>`(k≠.fin)|`([145])=>`(nz [3])|`([146])=>`([9,?_])|`([147])=>`(wordOf l)|`([148])=>`(List (NK.PK×Addr))|`([149])=>`([8,H4,nl,ny.map V.ref,Br])|`([150])=>`(.inl z)|`([151])=>`(K.In h)|`([152])=>`(t.advance p)|`([153])=>`(PE X a ta)|`([154])=>`(ik [32] [32])|`([155])=>`(iR K mg TC fI gR)|`([156])=>`(λhh=> ?_)|`([157])=>`(λ_ _=>rfl)|`([158])=>`(model prog w)|`([159])=>`(below t.place j)|`([160])=>`(CN.iE p)|`([161])=>`(fL CC TC l all H' c r)|`([162])=>`(.ref p)
local macro_rules|`([163])=>`(.ref wa)|`([164])=>`(gj NC G H a t)|`([165])=>`(K w.params)|`([166])=>`(Gm G nl)|`([167])=>`(p1.sub p)|`([168])=>`(s1.heap.objs.size+1)|`([169])=>`([10,St])|`([170])=>`(Bool.noConfusion [44,false,p])|`([171])=>`([103,rfl,?_])|`([172])=>`(i0 w a ep es)|`([173])=>`(Or.inl rfl)|`([174])=>`(Option Value)|`([175])=>`(aD (pv 0) R.Z.cl R.Z.mT GT eP R.Z.bT .nil ao [103])|`([176])=>`(Vanbka.b p.1)|`([177])=>`(h.get? b)|`([178])=>`([45,t.kind])|`([179])=>`([2,lv])|`([180])=>`(by cases h)|`([181])=>`(.lst [70])|`([182])=>`(dr c G H wa w lv st)
local macro_rules|`([183])=>`([76,mK])|`([184])=>`(bR (n:=[649]) [2])|`([185])=>`(Vals xs us)|`([186])=>`(RelV x v)|`([187])=>`(if_neg Bool.false_ne_true)|`([188])=>`(by simpa using h2)|`([189])=>`(Pl->Prop)|`([190])=>`(List [29])|`([191])=>`(tupleKind (bw P w))|`([192])=>`(Gl X x)|`([193])=>`(if_neg h2)|`([194])=>`(k _ _ [38] e)|`([195])=>`(nW [1075])|`([196])=>`(eE h [3])|`([197])=>`(R.U.na _ [4])|`([198])=>`(er [156] [156])|`([199])=>`(Q .cg H')|`([200])=>`(xs.map [44])|`([201])=>`([120,H'])|`([202])=>`((t.put j).2)
local macro_rules|`([203])=>`(λ_ _ z=>z)|`([204])=>`(scope.names.lookup y)|`([205])=>`([2,t.depth])|`([206])=>`([3,xs,x])|`([207])=>`(List Stmt)|`([208])=>`(I.list hq)|`([209])=>`(Array.getElem?_eq_getElem ez)|`([210])=>`(λh3=> ?_)|`([211])=>`(V.int 0)|`([212])=>`(K2.trans k3)|`([213])=>`(if_neg [3])|`([214])=>`(if_neg [4])|`([215])=>`(A.handled=none)|`([216])=>`(aS H H2)|`([217])=>`([10,L2.St])|`([218])=>`(List (Key×V))|`([219])=>`(.type "tuple")|`([220])=>`([106,tk])|`([221])=>`(if_neg h1)|`([222])=>`(λz=>by cases z)
local macro_rules|`([223])=>`(Array (Int×Value))|`([224])=>`([807]=(false,[52,e])::[396])|`([225])=>`([9,A.expr,R.aT.m,R.aT.F.kp,R.aT.b])|`([226])=>`(Ng K mg base C bm newId aP B)|`([227])=>`([4,Hp,VK])|`([228])=>`(["walk","node","home"])|`([229])=>`(t.mask+1)|`([230])=>`(Nat.lt_irrefl _)|`([231])=>`(t.probeStart h)|`([232])=>`(k∈[200])|`([233])=>`([4,pl])|`([234])=>`(tk k ts)|`([235])=>`([216,.dy])|`([236])=>`(D.nx σ H)|`([237])=>`(gh cF k)|`([238])=>`(CN.nR t lv st w)|`([239])=>`(dg (aD (pv 0) R.Z.cl R.Z.mF GF eP R.Z.bF .nil ao [103]))|`([240])=>`(nW X.stack)|`([241])=>`(Option Addr)|`([242])=>`(sel p.kind)
local macro_rules|`([243])=>`(by simpa using hq)|`([244])=>`(λp hp=> ?_)|`([245])=>`(l.take i)|`([246])=>`(by simpa using e)|`([247])=>`(by simpa using h)|`([248])=>`(λl hl=> ?_)|`([249])=>`(λhb=> ?_)|`([250])=>`(s1.trans s2)|`([251])=>`(aS.refl _)|`([252])=>`(Paired.length hP)|`([253])=>`(all.drop p)|`([254])=>`(strength [12])|`([255])=>`([102,NameKind])|`([256])=>`(false=true)|`([257])=>`(List (String×Kd))|`([258])=>`(Kind->Bool)|`([259])=>`(Sum.inl [141])|`([260])=>`([105,.param])|`([261])=>`([77,cP h])|`([262])=>`([45,"tuple",.seq vs.toArray])
local macro_rules|`([263])=>`([45,"list",.seq vs.toArray])|`([264])=>`(V->([13])->[227])|`([265])=>`(A.units+1<cLine)|`([266])=>`(p.more+1)|`([267])=>`(.inr rfl)|`([268])=>`(∀a∈A,nT h A a)|`([269])=>`(16*ts.length+1<=m)|`([270])=>`(kq k p b n ns v d)|`([271])=>`(model X.prog X.w)|`([272])=>`(s.heap.get? b)|`([273])=>`(At ts 0 1)|`([274])=>`(wipe σ vs)|`([275])=>`([12,c,[31,k]])|`([276])=>`(of_decide_eq_true h1)|`([277])=>`([56,pv 1])|`([278])=>`([117,s.heap.objs.size,cd])|`([279])=>`(λb hb=> ?_)|`([280])=>`(hV w.holding)|`([281])=>`(List (T×Kd))|`([282])=>`({s with toks:=s.toks+1})
local macro_rules|`([283])=>`(aY ps (lv+1) w0.met st [399])|`([284])=>`(Option Nat)|`([285])=>`(w.hold nums)|`([286])=>`(List β)|`([287])=>`(I.tuple hq)|`([288])=>`(rel.val k)|`([289])=>`(vs.map toV)|`([290])=>`(V.int.inj z)|`([291])=>`(by simp[hm])|`([292])=>`(s2.heap.objs.size+1)|`([293])=>`(HO->Prop)|`([294])=>`(aS H H1)|`([295])=>`(List (κ×V))|`([296])=>`([3,X.N,x])|`([297])=>`(Vals vs us)|`([298])=>`([53,13])|`([299])=>`(k<w.places.length)|`([300])=>`(by rw[e])|`([301])=>`([178,[104]])|`([302])=>`([18,pv 0,pv 1])
local macro_rules|`([303])=>`(["text","start"])|`([304])=>`([81,dx,h1])|`([305])=>`(kT K H a xs)|`([306])=>`(o.data= .set es ep t)|`([307])=>`(by simp[W.block])|`([308])=>`(PE X e te)|`([309])=>`(CN.join st x gI)|`([310])=>`(R.S.na _ [4])|`([311])=>`(C.na _ [4])|`([312])=>`(CN.aQ t lv)|`([313])=>`(PE X b tb)|`([314])=>`(GY H pl sl)|`([315])=>`(At T0 k c ts)|`([316])=>`(PA X (e::es) t)|`([317])=>`(.for x e l)|`([318])=>`((lo+hi)/2)|`([319])=>`((leap t.mask p.i p.perturb).1)|`([320])=>`(⟨_,rfl,_,_,rfl,rfl,_,rfl,?_⟩)|`([321])=>`(oo [62] P w K mg base N qual scope f cd A outer s0 H0 E)|`([322])=>`(At.refl ts)
local macro_rules|`([323])=>`(Value.int n tv)|`([324])=>`([16,[37]])|`([325])=>`([2,p.home])|`([326])=>`(λp=>[45,p.2])|`([327])=>`(List Bound)|`([328])=>`(λx=>x !=10)|`([329])=>`(sp vs H Q E)|`([330])=>`(rp.map V.ref)|`([331])=>`(start N vs)|`([332])=>`(CN.aQ v.node v.level)|`([333])=>`(iN t.blocks)|`([334])=>`(fs.lookup f)|`([335])=>`(λlx r3 e3 q H3 v k3 c3 hv=> ?_)|`([336])=>`(cK.map V.ref)|`([337])=>`(H' b=none)|`([338])=>`([176].headD 0)|`([339])=>`(λb=>G b/\b≠p)|`([340])=>`(pyNext (.ref I))|`([341])=>`(i9.cells.lookup y=some c)|`([342])=>`(bs.length -n)
local macro_rules|`([343])=>`(if_neg e)|`([344])=>`(by simp[e])|`([345])=>`(λ_=>false)|`([346])=>`(λ_ _=>False)|`([347])=>`(I.ok.hd hc)|`([348])=>`(K.In s.heap)|`([349])=>`(List WData)|`([350])=>`(.type "set")|`([351])=>`(s1.seq hS)|`([352])=>`(λtp ou=> ?_)|`([353])=>`(K3.trans k4)|`([354])=>`(ps.take i)|`([355])=>`([2,bs.length])|`([356])=>`(X.calm=true)|`([357])=>`(([5])->Prop)|`([358])=>`(aJ (pv 2) rfl)|`([359])=>`(i<xs.length)|`([360])=>`(RelV x u)|`([361])=>`(keyOf [176])|`([362])=>`(List (CN.T×Kd))
local macro_rules|`([363])=>`([3,[177]])|`([364])=>`(V->V->[227])|`([365])=>`((live.map (·.2)))|`([366])=>`(Ch NC G G' H H')|`([367])=>`(TI t es.toList)|`([368])=>`([16,pv 3])|`([369])=>`([3,as,a])|`([370])=>`(mX TC H a t)|`([371])=>`(aS H1 H2)|`([372])=>`([218,[324]])|`([373])=>`(jg t n p)|`([374])=>`(bP.of hL)|`([375])=>`(Vals xs bo)|`([376])=>`([16,pv 2])|`([377])=>`(cj H l ns)|`([378])=>`(PE X o td)|`([379])=>`(if_pos e)|`([380])=>`(Binds X.K fd ps ds)|`([381])=>`(if_pos rfl)|`([382])=>`(aQ v.node v.level)
local macro_rules|`([383])=>`(Vals qJ ds)|`([384])=>`(Ce.na _ [4])|`([385])=>`([63] -[120])|`([386])=>`([39,",",.comma])|`([387])=>`(Passes CX X E)|`([388])=>`(m3 K h A)|`([389])=>`(SetTable.insertAt es [202] ([502],Value.ref x))|`([390])=>`(uI CC H c)|`([391])=>`([Kd.lpar,.iU,.dot])|`([392])=>`(aD (pv 0) R.Z.cl R.Z.mA GA jx R.Z.bA .nil ao (aa aH af))|`([393])=>`(aC X.prog X.w X.K X.mg X.base CX k f fd ps sp)|`([394])=>`(evsS s [50] w.places.length lv (home==0) here)|`([395])=>`(mQ K mg CC fA fS fT fF je de jc jv)|`([396])=>`(starEach es X.env)|`([397])=>`(reserved.contains w)|`([398])=>`(eK.map V.ref)|`([399])=>`(kI own (lv+1) w0.met st w0.block)|`([400])=>`(ps.zip us)|`([401])=>`(bP K H t (bV bs))|`([402])=>`(aE x H H')
local macro_rules|`([403])=>`(s2.trans s3)|`([404])=>`(p.more -1)|`([405])=>`(e.2 _ I.pP)|`([406])=>`(t.name.getD [])|`([407])=>`(.builtin id)|`([408])=>`([56,pv 2])|`([409])=>`(s.heap.push (sO w))|`([410])=>`(by simp at e)|`([411])=>`(Ch.same s)|`([412])=>`(some [10])|`([413])=>`([102,Value])|`([414])=>`((es[·]?))|`([415])=>`(∀u∈vs,Gk A u)|`([416])=>`([21,_,[108],rfl])|`([417])=>`([94].take (n -p))|`([418])=>`(h1.push (seqObj "list" vs.toArray 0))|`([419])=>`(zl K3 c3)|`([420])=>`([56,jB H,H']->Q [10] H')|`([421])=>`(iX _ _ _ _ _ _ _)|`([422])=>`(λ_ _=> .out)
local macro_rules|`([423])=>`(λ_ _=>cS)|`([424])=>`(λ_ _=>cb)|`([425])=>`(h1.get? b)|`([426])=>`(sc.names.lookup x)|`([427])=>`(λx hx=> ?_)|`([428])=>`(λ_ _ _=>False)|`([429])=>`(ns.map V.int)|`([430])=>`(by cases x)|`([431])=>`(Value.type "list")|`([432])=>`(arrOf st')|`([433])=>`(take_drop hc)|`([434])=>`(kc.trans k3)|`([435])=>`(aE.same s6)|`([436])=>`(c5.same s6)|`([437])=>`(ra.reverse.map V.ref)|`([438])=>`(fM.map V.ref)|`([439])=>`(UInt8.toNat_inj.mp [2])|`([440])=>`(I.cH.fresh [8])|`([441])=>`(I1.cH.fresh [8])|`([442])=>`(Nat->Nat)
local macro_rules|`([443])=>`(ps.take (i+1))|`([444])=>`([56,pv 3])|`([445])=>`(aE c H H2)|`([446])=>`([3,[88]])|`([447])=>`(α->Bool)|`([448])=>`(.type "list")|`([449])=>`(.Name x pos)|`([450])=>`(Except Nat [15])|`([451])=>`(λt h=>[180])|`([452])=>`([139,pv 1])|`([453])=>`((live.map [44]))|`([454])=>`(Ch NC G G H H')|`([455])=>`([2,bs,p,c])|`([456])=>`(V.str [497])|`([457])=>`([145,ck ?_])|`([458])=>`(([13])->[227])|`([459])=>`([2,x,y])|`([460])=>`(s3 _ _ [15,z])|`([461])=>`(4*Sg a+1)|`([462])=>`(λb=>H b≠none)
local macro_rules|`([463])=>`(∀b o,([105])->[3,[89]])|`([464])=>`(if_neg h3)|`([465])=>`([3,s.heap.get? a])|`([466])=>`(ys.map λy=>Value.ref y.2)|`([467])=>`(tupleKind (bw prog w))|`([468])=>`(c.ls _ _ hL g)|`([469])=>`(t.dummies= #[])|`([470])=>`([8,(backTo pos [396]).any [44]])|`([471])=>`([w.places.length])|`([472])=>`(by simp[W.lG])|`([473])=>`(by simp[W.put])|`([474])=>`(by simp[W.use])|`([475])=>`(atKey xs k)|`([476])=>`(t.led=(! Gs w))|`([477])=>`([78,bV bs]=bs.length)|`([478])=>`(KT H cF xs)|`([479])=>`(cO (.fn own ps s))|`([480])=>`(jh p1 [651])|`([481])=>`(nx k%left.length)|`([482])=>`(R.V.na _ [4])
local macro_rules|`([483])=>`(PE X i ty)|`([484])=>`([("place",5)])|`([485])=>`(#[[323],[323]])|`([486])=>`([104,5,sN.nd])|`([487])=>`(bK w.places w.holding x)|`([488])=>`(sT k v e)|`([489])=>`(wpAny_Call_Name_kw (kD I hg hm ?_ xn))|`([490])=>`([176,q H' ((aE.same s2).trans k') c' a (ta.dH (aE.same s2) c2)])|`([491])=>`(Sd K mg fa fm)|`([492])=>`(upd H2 d (dN P w d [653]))|`([493])=>`(Addr×Value)|`([494])=>`(bs.drop n)|`([495])=>`(some (.int p))|`([496])=>`(bI (wN n) b0 w.met (lv+1) st [86,m] [1073])|`([497])=>`(Str.ofString p.1)|`([498])=>`([2,CN.dq w k])|`([499])=>`([2,p.st])|`([500])=>`([2,p.kind.number])|`([501])=>`([2,p.level])|`([502])=>`(qU prog w k)
local macro_rules|`([503])=>`(t.kind= .dy)|`([504])=>`(lo<=v/\v<=hi)|`([505])=>`(F7 xy xG xy xG)|`([506])=>`(as.map Value.ref)|`([507])=>`(Pv i σ H)|`([508])=>`(GY H nl pl)|`([509])=>`(aL "blocks" (.ref bl) (aL "parts" (.ref pl) [806]))|`([510])=>`(ts.take i)|`([511])=>`([11,lv+1])|`([512])=>`(λ_ r p3 _=> ?_)|`([513])=>`(s.heap.push PySem.W.emptyDict)|`([514])=>`(λ_=>none)|`([515])=>`(by kernel_rfl)|`([516])=>`(b≠X.env.locals)|`([517])=>`(xs.getD i 0)|`([518])=>`([256,pv 1])|`([519])=>`(λq=>q.home=home)|`([520])=>`([257,pv 5])|`([521])=>`(λz=>z.2.2 rfl)|`([522])=>`(List.length_filter_le _ _)
local macro_rules|`([523])=>`(["node","level"])|`([524])=>`({t with mask:=M})|`([525])=>`(xs.map IJ)|`([526])=>`(tokens bs)|`([527])=>`(k4.trans k5)|`([528])=>`(["walk","node"])|`([529])=>`(λz=>z.2.1 rfl)|`([530])=>`([424,[179]])|`([531])=>`([337,qual])|`([532])=>`(.seta x e)|`([533])=>`([8,H2,ul,[398],x])|`([534])=>`([8,H,ul,[398],a])|`([535])=>`(by simp[hq])|`([536])=>`(Wk.none _)|`([537])=>`(by simpa using hk)|`([538])=>`(Gr.refl w)|`([539])=>`(Option.some.inj h)|`([540])=>`(h'.get? a)|`([541])=>`(λ_ _ q=>q)|`([542])=>`(Option.some.inj e)
local macro_rules|`([543])=>`(Sem Value)|`([544])=>`(wpAny_truthy_bool ?_)|`([545])=>`(List Keyword)|`([546])=>`(ps.map V.ref)|`([547])=>`(Value.ref b)|`([548])=>`(sizeAbove wanted)|`([549])=>`(aE.same s1)|`([550])=>`(aE.same s4)|`([551])=>`(c3.same s4)|`([552])=>`(λbl so=> ?_)|`([553])=>`(c1.same s2)|`([554])=>`(zE.map V.ref)|`([555])=>`(gN.map V.ref)|`([556])=>`(List.length_map _)|`([557])=>`(λx xc hx sr gx=> ?_)|`([558])=>`(λH2 xl Ai=> ?_)|`([559])=>`(xj.trans xl)|`([560])=>`(Fr.same s1)|`([561])=>`(Keeps.gy s2)|`([562])=>`(CN.making p.kind)
local macro_rules|`([563])=>`(CN.isParam p.kind)|`([564])=>`(t.plain=true)|`([565])=>`(Array [174])|`([566])=>`([56,pv 4])|`([567])=>`([39,home])|`([568])=>`([12]≠.fin)|`([569])=>`([87,"tuple"])|`([570])=>`([2,[12],k])|`([571])=>`([56,bz af])|`([572])=>`([397]=true)|`([573])=>`(CN.dq w i)|`([574])=>`([139,pv 3])|`([575])=>`(X.A.units+1<cLine)|`([576])=>`([103,.param])|`([577])=>`([231].perturb)|`([578])=>`(aE c H0 H)|`([579])=>`([179,[92]])|`([580])=>`(p+[58,[328]])|`([581])=>`([17,H',s'])|`([582])=>`([26,l,ts])
local macro_rules|`([583])=>`(∀p∈t.parts,WF n p)|`([584])=>`(ju none s6 s5)|`([585])=>`(ju none none s5)|`([586])=>`(p.more<=9)|`([587])=>`(decide [504])|`([588])=>`([506].toArray)|`([589])=>`(["self","kind"])|`([590])=>`(acc.length+r.length)|`([591])=>`(eL n 0 (iE p) W.start)|`([592])=>`(Nat.ne_of_lt [654])|`([593])=>`(aa ay (aa ay [103]))|`([594])=>`([60,d5 hp])|`([595])=>`([60,gQ hp])|`([596])=>`(W i m σ H)|`([597])=>`(if_neg hc)|`([598])=>`(Bool.eq_false_iff.mpr h2)|`([599])=>`(CN.bX ps (bss.take i))|`([600])=>`([3,ps,p])|`([601])=>`(List.getElem?_eq_getElem hi)|`([602])=>`(Loc X.env.scope x)
local macro_rules|`([603])=>`(z.keep cc k3)|`([604])=>`(∀b,c.TG b->G b)|`([605])=>`(p3.weak [3] [2])|`([606])=>`([4,α,β])|`([607])=>`(w.block.put [334,w.met])|`([608])=>`(PT X a tA)|`([609])=>`(∃x,t.name=some x)|`([610])=>`(α->([5])->Res β)|`([611])=>`(kQ w home here)|`([612])=>`([11,p+(n -p)])|`([613])=>`(PySem.W.codeIn K bU qual=true)|`([614])=>`(WellAll P h vs ds)|`([615])=>`(this p hp)|`([616])=>`(a.iC p hp)|`([617])=>`(toS rfl ?_)|`([618])=>`(PySem.W.hideAll_none _ [4])|`([619])=>`(h.Ns mainGlobals mg)|`([620])=>`(d.g _ [4])|`([621])=>`(CN.fj ps u)|`([622])=>`(String×Kd)
local macro_rules|`([623])=>`(ys.map λy=>V.ref y.2)|`([624])=>`([59,k1 z.1])|`([625])=>`(A.under (.builtin "type.__call__" ⟨[87]::us,kw⟩))|`([626])=>`(bits h% [229])|`([627])=>`(At ts k c r)|`([628])=>`([68,[329],ps.length])|`([629])=>`(look aW .name w)|`([630])=>`(oj prog w s.heap a xs)|`([631])=>`([12]= .oP\/[12]= .dy)|`([632])=>`(t.kind= .name\/[503])|`([633])=>`(look aU .bad s)|`([634])=>`([12,.name,c1,λS3 r2 e2 q H2 nv k2 c2 N9=> ?_])|`([635])=>`(X.fn x=true\/[809]=some .local)|`([636])=>`([8,behindInMarks op b])|`([637])=>`(Mk X.K C f)|`([638])=>`(a9 (pv 0) aH rfl)|`([639])=>`((UW _ [4]).2)|`([640])=>`(aL "names" (.ref nl) (aL "name" nv [509]))|`([641])=>`((lt,sg)::rs)|`([642])=>`(aD (pv 0) Z.cl Z.mT GT hr Z.bT .nil ao [103])
local macro_rules|`([643])=>`([2,1,fI,gR,[812],Eu TC])|`([644])=>`([8,H7,D5,ug.map V.ref++uh.map V.ref])|`([645])=>`(f t home lv st w)|`([646])=>`(∀cR H',N cR H'->[77,m,W (i+1) m' cR H'])|`([647])=>`(wN (n+1) t home lv st w)|`([648])=>`(jn _ _ _ _ _ _ _)|`([649])=>`(ts.length -1)|`([650])=>`(bL _ _ _ _ _ _ _)|`([651])=>`(λl r p2=> ?_)|`([652])=>`(decide_eq_false [2])|`([653])=>`(putN xs (j8 p) tp)|`([654])=>`(Nat.lt_succ_self _)|`([655])=>`([34,a8,ml,[137]])|`([656])=>`(gj c.NC c.TG H a t)|`([657])=>`(rs.reverse.map [326])|`([658])=>`([2,bs,n,c])|`([659])=>`(upd H' tp [92,p.home,[25]])|`([660])=>`(s.heap.push [45,"dict",.dict #[]])|`([661])=>`(λb o e n hb hx=> ?_)|`([662])=>`(tupleKind_room_in1 hu)
local macro_rules|`([663])=>`(CN.strength k)|`([664])=>`([88,[Kd.name,.dy]])|`([665])=>`(λ_=>[41,x])|`([666])=>`(singleSigns.contains c)|`([667])=>`(λhh H1 k1 c1=> ?_)|`([668])=>`(bs.length -p)|`([669])=>`(λb o e=>[42,e])|`([670])=>`(mX TC H' a t)|`([671])=>`(([200]).Nodup)|`([672])=>`(upd [810] wa [46,wd])|`([673])=>`(reserved.contains s)|`([674])=>`(λl r p3 _=> ?_)|`([675])=>`(es.filterMap Ev.faultKind)|`([676])=>`(λx H' y=> ?_)|`([677])=>`(by simpa using e1)|`([678])=>`(vs.toArray.toList.map toV)|`([679])=>`(λx hx=>(nomatch hx))|`([680])=>`(CN.aU.take 5)|`([681])=>`(CN.aU.drop 5)|`([682])=>`(om.map V.ref)
local macro_rules|`([683])=>`(λlx3 r3 e3 q H3 v k3 c3 U4=> ?_)|`([684])=>`(K5.trans k6)|`([685])=>`(Paired.length J9)|`([686])=>`(CN.strength sg)|`([687])=>`(CN.pairs wk)|`([688])=>`(if_neg [2])|`([689])=>`(cF.map [44])|`([690])=>`([24,xs.length])|`([691])=>`([26,Result])|`([692])=>`(i<vs.length)|`([693])=>`(i<t.place.size)|`([694])=>`(CN.delta [31])|`([695])=>`([4,Hp,Addr])|`([696])=>`(all.drop (p+1))|`([697])=>`(wpAny_pure [51])|`([698])=>`(.sign (b p.1))|`([699])=>`(bR (n:=ts.length) [2])|`([700])=>`([2,[31],k])|`([701])=>`(λH2 A0 k2=>[124])|`([702])=>`(by cases k<;>rfl)
local macro_rules|`([703])=>`(λz=>by rw[z])|`([704])=>`([217,Kd.fin])|`([705])=>`(aw λ_ r3 e3=>ck ?_)|`([706])=>`(eL n 0 [510] W.start)|`([707])=>`(["text","place","reserved"])|`([708])=>`(["text","start","reserved"])|`([709])=>`(Keeps my H H')|`([710])=>`(Keeps S H H')|`([711])=>`([220,s.heap])|`([712])=>`(S.expr _ _ _ e2)|`([713])=>`(.tuple (nD bs))|`([714])=>`(pO.gr g1 [2])|`([715])=>`([146,[105,kd]])|`([716])=>`([59,own.isSome,1])|`([717])=>`(by simpa using hh)|`([718])=>`(({[91] with plain:=pl}:SetTable))|`([719])=>`(["parts","blocks"])|`([720])=>`(xs.length+1<=4914)|`([721])=>`([2,k.number])|`([722])=>`(Kd->([15])->Res CN.T)
local macro_rules|`([723])=>`(∀b u,[28,[177]]->[28,[89]])|`([724])=>`((es.map [44]).toArray)|`([725])=>`(eC P w H h a o)|`([726])=>`(eS .name (name:=[142]))|`([727])=>`(by simp[W.hold])|`([728])=>`(∀b∈t.blocks,∀p∈b,WF n p)|`([729])=>`(σ.set i (some v))|`([730])=>`(bj.ok [4] [322])|`([731])=>`(λe=>by rw[e])|`([732])=>`(X.mg x=some [87])|`([733])=>`(aS.made hx sr k2)|`([734])=>`(jo nA (pv 1) aH)|`([735])=>`([221,[148,w]])|`([736])=>`(I.cell x c e)|`([737])=>`([3,.bl _,H,I,?_])|`([738])=>`([130,[72],I.ok.above])|`([739])=>`(kP (pv 0) aH vk)|`([740])=>`(gY [3] CM mL)|`([741])=>`(Vt K a xs.length)|`([742])=>`((mI w a ep es).length_eq)
local macro_rules|`([743])=>`(.while_ c x)|`([744])=>`(Value.str x t)|`([745])=>`(Str->Option NameKind)|`([746])=>`(pushCells [660] scope.names)|`([747])=>`(V.int (Vanbkc.refTold (some k)))|`([748])=>`(∀ts∈bss,ts.length<=2000)|`([749])=>`(λa k=>[29,.tup (iV k)])|`([750])=>`(λb z=>[142,z])|`([751])=>`(Binds K fd ps [])|`([752])=>`(([327])->Nat->[111])|`([753])=>`(([15])->Res CN.T)|`([754])=>`({p with j:=p.j+1,more:=[404]})|`([755])=>`(s.toks+1+(k.2.length+1))|`([756])=>`(fX p.kind=true/\p.home≠0)|`([757])=>`(t.slot j= .live i)|`([758])=>`(k _ _ h [13,h,hc])|`([759])=>`(o=some (some [31,k]))|`([760])=>`([2,1]+[2,CN.bX ps bss])|`([761])=>`(hd r= .name/\hd [122]= .colon)|`([762])=>`(hb.at (p1.weak [3] [8]))
local macro_rules|`([763])=>`(Option (Expr×Op))|`([764])=>`(Ev.bind x .param lv false)|`([765])=>`(backToKw pos (keywordEach KR X.env))|`([766])=>`(this p hp e)|`([767])=>`(.iffElse c x y)|`([768])=>`(aA N ps scope)|`([769])=>`(λu N7=>eF u [19,N7])|`([770])=>`(!t.plain&&decide (es.size>1))|`([771])=>`([8,H2,sl,[657]])|`([772])=>`((p,w)::P.zip vs)|`([773])=>`([1078]++j::[1077])|`([774])=>`(λb z=>absurd z (M0 b))|`([775])=>`([[31,.lpar],[31,.iU],[31,.qX]])|`([776])=>`(upd H ak (.ins c.BC FL (Ib O6 [500] (.ref pb) [501] [325] [499] ([498]+1))))|`([777])=>`(upd [659] l (.lst [33,[330],a]))|`([778])=>`(g x σ H' λlX H2=>tb [105,N,N] lX H2)|`([779])=>`(⟨_,rfl,_,_,rfl,rfl,?_⟩)|`([780])=>`(show bo.toArray.any (Dc x)=bo.any (Dc x) by simp)|`([781])=>`(⟨_,rfl,c,rfl,_,rfl,?_⟩)|`([782])=>`(neC b o e hx)
local macro_rules|`([783])=>`(⟨xs,xs[i],q,by simp[ez]⟩)|`([784])=>`(Nat.le_of_lt (x.above y c (PySem.mem_of_lookup h)))|`([785])=>`(old b o q hb)|`([786])=>`(upd H c [9,CC,pM l ([120]+1)])|`([787])=>`(λb xs h _=>kl b xs h)|`([788])=>`(λH3 uu EL=>q H3 (xl.trans uu) EL)|`([789])=>`(V->([121])->([121])->[227])|`([790])=>`(Df K mg "is_digit" mE [138] fG IC)|`([791])=>`(aC P w K mg base fi 1 (fa I.f9) (fm I.f9) ["walk"] (PH c))|`([792])=>`(aC P w K mg base fi 3 (fa I.fR) (fm I.fR) [814] (Px c))|`([793])=>`([61,[9,A.block,R.block.m,R.block.F.kp,R.block.b]])|`([794])=>`(aY ps lv home st w)|`([795])=>`(kI own lv home st w)|`([796])=>`(o1 oh oh aH (pv 0) aH)|`([797])=>`(jA (wN n) t home lv st w)|`([798])=>`(wN n (cO e) home lv st [1079])|`([799])=>`(CN.eS k ps bss nm ns tv)|`([800])=>`([Kd.rE,.nP,.rj,.m9,.Nw,.km])|`([801])=>`(kJ _ _ _ _ _ hx)|`([802])=>`(Ux w w' s home lv st here)
local macro_rules|`([803])=>`(λw hw=>oS rx fx r fs w (by simpa using hw))|`([804])=>`(PySem.W.fnOf name qual params body scope dV kV doc pm an bU ct)|`([805])=>`(EP X pins σ Q)|`([806])=>`(aL "kind" [31,k] [])|`([807])=>`(starEach (e::es) X.env)|`([808])=>`(λlx r e q H1 v k1 c1 hv=> ?_)|`([809])=>`(X.env.scope.names.lookup x)|`([810])=>`([8,H,l,bV wd])|`([811])=>`([8,H4,D,acc++[y]])|`([812])=>`(["self","kind","value","end"])|`([813])=>`(aL "places" (.ref pl) [])|`([814])=>`(["walk","node","kind","name","home"])|`([815])=>`(scope.names.lookup y.1)|`([816])=>`(.seq bo.toArray n)|`([817])=>`(PySem.W.instObj C s.heap.objs.size)|`([818])=>`(["walk","statements","block","numbers"])|`([819])=>`(⟨xs.length -(i+1),[2],rfl,ez,p'⟩)|`([820])=>`(List.nodup_cons.mp nd)|`([821])=>`(Paired.length DE)|`([822])=>`(HT.BW xs.length 0 lo)
local macro_rules|`([823])=>`(∀(H':Hp) (v:V),([81])->([161])->nV H' lx v->Q v H')|`([824])=>`(dv X.env.cells scope.names [])|`([825])=>`([(Str.ofString "default",d)])|`([826])=>`(λa t=>gj NC [508] [8,H7,pl,[70],a7] a t)|`([827])=>`(h w' _ [139] BV)|`([828])=>`(q.home=p.home/\q.name=p.name)|`([829])=>`(CN.kI t.name (lv+1) w.met st w.block)|`([830])=>`(aL "functions" (.ref fl) (aL "uses" (.ref ul) [813]))|`([831])=>`(hx home lv st w i hm)|`([832])=>`(hy home lv st w i hm)|`([833])=>`(λl x' r e p=> ?_)|`([834])=>`(λa y r e p=> ?_)|`([835])=>`(t.blocks.headD [])|`([836])=>`(λw i hm=>Piece.refl)|`([837])=>`(decide_eq_false h)|`([838])=>`(by simpa using h1)|`([839])=>`(Array GenState)|`([840])=>`(Heap.lt_size ho)|`([841])=>`(I.mod.glob.keeps I.bk)|`([842])=>`(bootBuiltins x)
local macro_rules|`([843])=>`(by simpa using hu)|`([844])=>`(λh' st' sb=> ?_)|`([845])=>`(PySem.W.plainGet_of hg)|`([846])=>`(beq_iff_eq.mpr h)|`([847])=>`(beq_eq_false_iff_ne.mpr h)|`([848])=>`(Nat.le_of_succ_le h2)|`([849])=>`(by simpa using z)|`([850])=>`(X.env.scope.names.lookup y)|`([851])=>`(h1.symm.trans e)|`([852])=>`(wpAny_bind fin)|`([853])=>`(s0.heap.get? b)|`([854])=>`(wpAny_holding ?_)|`([855])=>`(w.params.followText "set-order")|`([856])=>`({s with heap:=h1})|`([857])=>`(reserved.contains wd)|`([858])=>`(of_decide_eq_true h2)|`([859])=>`(of_decide_eq_true h3)|`([860])=>`(Nat.le_of_lt hp)|`([861])=>`(bs.all allowed)|`([862])=>`(reserved.contains n)
local macro_rules|`([863])=>`(λhh H2 k2 c2=> ?_)|`([864])=>`(List.mem_of_getElem? ht)|`([865])=>`(by simpa using e2)|`([866])=>`(of_decide_eq_true hh)|`([867])=>`(λlx r1 e1 q H1 v k1 c1 hv=> ?_)|`([868])=>`(Vanbka.read bs)|`([869])=>`(VanbkcNeutral.text ns)|`([870])=>`(UInt8.ofNat n.toNat)|`([871])=>`(List.getElem?_append_right [8])|`([872])=>`([40,Vanbka.LONGEST])|`([873])=>`([24,x,("__classdict__":Str)])|`([874])=>`(k1.trans (aE.same s2))|`([875])=>`(by cases o<;>rfl)|`([876])=>`(xs.length<sizeLine)|`([877])=>`([217,Kd.quoted])|`([878])=>`([217,Kd.number])|`([879])=>`([147,Kd.number])|`([880])=>`([147,Kd.quoted])|`([881])=>`(p+[58,wordByte])|`([882])=>`(["text","place"])
local macro_rules|`([883])=>`(Except Nat (β×[5]))|`([884])=>`((es.toArray[·]?))|`([885])=>`(∀b∈fp,[337])|`([886])=>`([88,[Kd.oP,.dy]])|`([887])=>`(by simp only[List.size_toArray]<;>omega)|`([888])=>`([409].objs.size)|`([889])=>`(S.expr _ _ _ e4)|`([890])=>`(x≠"__name__")|`([891])=>`(List.mem_singleton.mp z)|`([892])=>`(d.weight<=1048576)|`([893])=>`(gJ h [145] [109] CM mL)|`([894])=>`(gJ h [665] [109] CM mL)|`([895])=>`(h.objs.size<=a)|`([896])=>`(s.TypeIs [10] "set")|`([897])=>`(λb hb=>[19,hb])|`([898])=>`([54,[V.ref b],so])|`([899])=>`([30,λa t=>[164],ts])|`([900])=>`((ta.dH k1 c1).keep c2 k3)|`([901])=>`(eW vw (pv 0) aH [157])|`([902])=>`([118,[4,rd],[39,n]])
local macro_rules|`([903])=>`(o.data= .dict es ep)|`([904])=>`(k2 _ _ (k1 _ _ e))|`([905])=>`(λcR H' p'=>[819])|`([906])=>`(tooDeepAt 0 ts)|`([907])=>`(decide_eq_true e)|`([908])=>`(decide_eq_false e)|`([909])=>`(List.mem_map.mp ha)|`([910])=>`(by simp[W.back])|`([911])=>`(λb hb=>(hf b hb).1)|`([912])=>`(List.getElem?_eq_getElem ez)|`([913])=>`(Nat.mod_lt _ (Nat.succ_pos _))|`([914])=>`(nm.gU cc.is k3)|`([915])=>`([49,?_,ck [8]])|`([916])=>`([138,"depth"]=none)|`([917])=>`(⟨none,none,rfl⟩)|`([918])=>`(λ_=>[9,[55]])|`([919])=>`([12,.rpar,c2,[335]])|`([920])=>`(decide (j8 p∈[200]))|`([921])=>`(z=[2,k.toNat])|`([922])=>`([2,[338].toNat])
local macro_rules|`([923])=>`(∃k,[229]=2 ^k)|`([924])=>`((∀k,[232]↔k∈ks))|`([925])=>`([425,(sb.2 b hb).trans e])|`([926])=>`(dv cells names acc)|`([927])=>`([[2,1],2].map V.int)|`([928])=>`(.bin p.2 p.1 x)|`([929])=>`(aS H (upd H D [106]))|`([930])=>`(fk (aa [520] (aa aH af)))|`([931])=>`(λw=>[131,wN m,iE x])|`([932])=>`(∀x∈ns,0<=x/\x<=255)|`([933])=>`(bh (wN n) t.parts home lv st w)|`([934])=>`(gG hf home lv st t.parts _)|`([935])=>`(st<=strength s)|`([936])=>`(F [50] w.places.length)|`([937])=>`(S6 s w.places.length)|`([938])=>`(eS k (value:=v))|`([939])=>`((Sum.inr a:Key))|`([940])=>`({cls:= .none,data:= .fields ps})|`([941])=>`(∃u,[28,h'.get? e])|`([942])=>`(List.take_sublist _ _)
local macro_rules|`([943])=>`((cells.lookup n).getD 0)|`([944])=>`(Nat.le_trans h [3])|`([945])=>`(base.Ns mainGlobals mg)|`([946])=>`(t.place.getD i 0)|`([947])=>`(eF v List.mem_cons_self)|`([948])=>`(sizeAbove (grown (n+1)))|`([949])=>`(Obj.putSet uo t')|`([950])=>`([55,c1,λt r2 e2 q H2 k2 c2 a ta=> ?_])|`([951])=>`(jS (K6.trans k7) Dt)|`([952])=>`([p].filterMap sel)|`([953])=>`(.inl [76,rfl,rfl])|`([954])=>`(λa n=>[29,[46,n]])|`([955])=>`(∀σ H,Pv xs.length σ H->[236])|`([956])=>`([45,"list",[816]])|`([957])=>`([88,[Kd.number,.quoted]])|`([958])=>`(Value.ref zs[m].2)|`([959])=>`([8,H4,p,[1087]])|`([960])=>`(bM NC [339] H a t)|`([961])=>`(λv H2=>v= .cg/\Q [54] H2)|`([962])=>`([513].push [817])
local macro_rules|`([963])=>`(.Attribute e f pos)|`([964])=>`([Kd.number,.quoted])|`([965])=>`(q.2=q'.2->q=q')|`([966])=>`(max [143,cO c] (aX (iE x)))|`([967])=>`(f (.int i t) (.int j u))|`([968])=>`(∃sl,[89]=some {o with slots:=sl})|`([969])=>`(D K mg fa fm "repeated" I.repeated ["places"])|`([970])=>`([32,"=",p2,[512]])|`([971])=>`(r.ret.enc (Codec.app r.args r.f a))|`([972])=>`([.int 10,.int 32])|`([973])=>`(.Compare a [op] [b] pos)|`([974])=>`(λi m σ H=>[344,[507]])|`([975])=>`(wN n t home lv st w)|`([976])=>`(xW e m (bE hd).1 home lv st w i hm)|`([977])=>`(([13])->([13])->[13])|`([978])=>`(p.j+p.more<=t.mask)|`([979])=>`(upd H4 nl [106])|`([980])=>`(makes s=some (x,k))|`([981])=>`([2,1,fG,IC,[138],II digit])|`([982])=>`(upd H tp (.tup [664]))
local macro_rules|`([983])=>`(∀i σ H,i<=xs.length->([507])->[126])|`([984])=>`(CW s.heap x dx C mA)|`([985])=>`(hT i a t ha ht)|`([986])=>`(hb.CL p1 [3] λh x=>ez h x [3])|`([987])=>`(headEvs own ps (lv+1))|`([988])=>`(λu=>u.bound==some i)|`([989])=>`(∃b r,t.blocks=b::r)|`([990])=>`(λx hx=>ho x [19,hx])|`([991])=>`(∀f,lQ [334] (mA f))|`([992])=>`(PySem.W.hasDictIn K C=true)|`([993])=>`(PySem.W.isFn K [110]=true)|`([994])=>`(λb o q=>PySem.W.of_hideAll _ q)|`([995])=>`(zB (k:= .name) c1 [146])|`([996])=>`([176,q H' (K1.trans k') c' a (ta.dH K1 c1)])|`([997])=>`(aL "node" nd [])|`([998])=>`(F [50] (w.places.length+1))|`([999])=>`(e=x\/[5,e,.own x])|`([1000])=>`([9,x,qual,st])|`([1001])=>`(D K mg fa fm "fault_by_itself" I.cG [523])|`([1002])=>`([8,H6,nl,[1084]])
local macro_rules|`([1003])=>`(k b o (λz=>hc (by simp[z])) e)|`([1004])=>`([8,H9,pl,P5.map V.ref,qb9])|`([1005])=>`(bM NC (jB H) H' a t->t.length<=2000->Q [10] H')|`([1006])=>`([33,I.eN,I.eN,PL c n])|`([1007])=>`([12]= .qH\/[12]= .DY\/[12]= .none_)|`([1008])=>`([[31,.rpar],[31,.pQ],[31,.iL]])|`([1009])=>`(Kd->([15])->Res [29])|`([1010])=>`(upd H ak (.ins c.BC VD (Ib nd [500] [25] [501] [325] [499] ([498]+1))))|`([1011])=>`(upd H2 pa (.tup [12,kb,.str [497]]))|`([1012])=>`([[2,0],1,2].map V.int)|`([1013])=>`([[2,1],2,4].map V.int)|`([1014])=>`(b q.1=b q'.1->q=q')|`([1015])=>`((pW x.1 x.2).mp hx)|`([1016])=>`([12]≠k->Q (.bl false) H)|`([1017])=>`(bI f l w.met lv st [] w.block)|`([1018])=>`(NU 0 ba b0 CG rfl)|`([1019])=>`(sel q.kind=true/\q.home=p.home/\q.name=p.name)|`([1020])=>`(λ⟨_,e,_⟩=>by cases e)|`([1021])=>`((o[y]?.getD none).getD 0)|`([1022])=>`(upd H5 sl (.lst sg6))
local macro_rules|`([1023])=>`([4,k,f,(k,v)::r,(k,x)::aL f v r])|`([1024])=>`([42,rfl,rfl,rfl])|`([1025])=>`(CE outer P w H s Q u s')|`([1026])=>`(∃vs,KV cF vs/\h.DictOf (bw P w) a vs)|`([1027])=>`(hm b _ q λz=>z)|`([1028])=>`(sliceBounds lo hi none n)|`([1029])=>`(intKind_is _ _ _ _)|`([1030])=>`([88,[Kd.qH,.DY,.none_]])|`([1031])=>`(t.kind= .km/\lv=0)|`([1032])=>`([9,A.orr,R.orr.m,R.orr.F.kp,R.orr.b])|`([1033])=>`(∀l r,At T0 (k+delta kd) (c+1) r->([1089])->[341,r])|`([1034])=>`([[4,t],[495],[4,l],[39,n]])|`([1035])=>`([12]=k->∀(H':Hp),([81])->([1080])->Q (.bl true) H')|`([1036])=>`(aC P w K mg base fi k (fa I.eM) (fm I.eM) [818] (PJ c n))|`([1037])=>`(Df K mg "begins_word" j5 [138] fB ja)|`([1038])=>`(dg (aD (pv 0) Z.cl Z.mF GF hr Z.bF .nil ao [103]))|`([1039])=>`(.Pass ⟨0,0,0,0⟩)|`([1040])=>`(Un (nW outer) [] H0 H s0.heap s.heap)|`([1041])=>`(KGet X.prog X.w X.K H a y o)|`([1042])=>`(au GW j6 rfl R.whole.m R.whole.F.kp R.whole.b .nil ao [137])
local macro_rules|`([1043])=>`(some (if n>m then n else m))|`([1044])=>`(au A.listed hr rfl R.listed.m R.listed.F.kp R.listed.b .nil ao (aa (pv 0) [103]))|`([1045])=>`(t.sz=1+t.names.length+eY t.parts+[333])|`([1046])=>`(I.base.free b o e n hx)|`([1047])=>`(Nat.ne_of_lt (Nat.lt_of_lt_of_le [72] (I.ok.UA x c N0 hc)))|`([1048])=>`(hl i σ H hi p)|`([1049])=>`(X.za s H scope (compEnvC scope cl C X.env) fp)|`([1050])=>`(envOfC qual (ai st) s.heap.objs.size f bU)|`([1051])=>`(PySem.W.funFrames_hide vg λenv m b eb=>qj b (zC env m b eb))|`([1052])=>`(below.go xs j fuel lo hi)|`([1053])=>`(Gi (wN n) t lv st w)|`([1054])=>`(λH r y=>Ao c.BC H r y)|`([1055])=>`(au Vq jx rfl R.t8.m R.t8.F.kp R.t8.b .nil a6 [137])|`([1056])=>`(aF (au GP hr rfl R.parts.m R.parts.F.kp R.parts.b .nil a6 [518]))|`([1057])=>`([183,([35])->bM NC (jB H) H' a [160]->CN.eY [160]<=2000->CN.aX [160]<=40->Q [10] H'])|`([1058])=>`({s3 with heap:=s3.heap.push [45,"slice",.fields #[vl,vu,.none]]})|`([1059])=>`(he home lv st w i hm)|`([1060])=>`(hc home lv st _ (iP i) hm)|`([1061])=>`(I.base.keep b o e n hb hx)|`([1062])=>`(I.base.slot b o e n hb hx)
local macro_rules|`([1063])=>`(λh' eb=>[18,[425,eb b o hb e]])|`([1064])=>`(λb o n1 n2 e=>(s1.2 b n2).trans (kk b o n1 n2 e))|`([1065])=>`(by cases o<;>exact⟨rfl,[3],[3],[3],[3]⟩)|`([1066])=>`(∀b∈ch,[1085]/\[516]/\[225,c≠b]/\[1082])|`([1067])=>`(⟨_,_,rfl,rfl,_,rfl,?_⟩)|`([1068])=>`(y0 P w K mg base A outer s H)|`([1069])=>`(upd H wa [9,c.WC,ui pl ul fl vl hl' [2,w'.met] [2,lv'] [2,st']])|`([1070])=>`(upd H3 wa (.ins c.WC P9 (ui Vd Vl UI Vn vc [2,w.block.met] [511] [140])))|`([1071])=>`(qT bU A outer s H vs Q E hr vf)|`([1072])=>`(Og CC TC C NC l all c H E F _ m' cR mV)|`([1073])=>`(CN.aY t.names (lv+1) w.met st w1)|`([1074])=>`(⟨rfl,[3],[3],[3],[3]⟩)|`([1075])=>`([117,s0.heap.objs.size,cd]::outer)|`([1076])=>`(["places","making","parameters","asking","pairs","place"])|`([1077])=>`(t.place.toList.drop [159])|`([1078])=>`(t.place.toList.take [159])|`([1079])=>`(w0.block.put [334,w0.met])|`([1080])=>`(fL CC TC l all H' c [61])|`([1081])=>`(λlx r2 e2 q H2 v k2 c2 hv=> ?_)|`([1082])=>`(∀p∈X.pn++pins,p.1≠b)
local macro_rules|`([1083])=>`(.tup [[6,p.1],[6,p.2]])|`([1084])=>`(hV [86,0]++[[13,w.block.places.length]])|`([1085])=>`(b∈X.ex\/X.xB.heap.objs.size<=b)|`([1086])=>`(g x [274] H' [340,λb H3=>[5,b,[339,Nx [811]],Nx H3]])|`([1087])=>`(MP.map V.ref++IX.map V.ref++Nd.map V.ref)|`([1088])=>`(∀H',Nx H'->[77,m,W (i+1) m' H'])|`([1089])=>`(∀h,Dp h ts->delta kd=1->h<24)|`([1090])=>`(upd H2 tp [92,v.st,[6,[332]]])|`([1091])=>`(upd H2 tp [92,u.st,.int 4])|`([1092])=>`(["parts","signs","strength"])|`([1093])=>`(∀H',([81])->([161])->q' a H')|`([1094])=>`((quotedFrom [494]).map (λx=>(sd++x.1,x.2+(n -(p+1)))))|`([1095])=>`([[54],[31,k],pv,bv,nv,Lc,vv])|`([1096])=>`(List.mem_singleton.mpr rfl)|`([1097])=>`(List.getElem?_eq_getElem hl)|`([1098])=>`(List.mem_of_find?_eq_some h)|`([1099])=>`(List.mem_of_getElem? this)|`([1100])=>`(List.filter_cons_of_pos hx)|`([1101])=>`(List.filter_cons_of_neg hx)|`([1102])=>`(List.drop_eq_getElem_cons hi)
local macro_rules|`([1103])=>`(List.getElem?_eq_some_iff.mp a)|`([1104])=>`(List.getElem?_eq_some_iff.mp b)|`([1105])=>`(List.getElem?_set_self YA)|`([1106])=>`(Around.frames_deeper e0.frames)|`([1107])=>`(λA outer s H args us vs Q E hr e0 hb r vf=> ?_)|`([1108])=>`(lim.keeps x.toInCall.keep)|`([1109])=>`(by simp[gh,List.find?_cons,e])|`([1110])=>`(Option.map_eq_some_iff.mp hw)|`([1111])=>`(PySem.W.length_le_weightAllW ds)|`([1112])=>`(Bool.and_eq_true_iff.mp p)|`([1113])=>`(by simp[SetTable.fresh] at h)|`([1114])=>`(Array.getElem?_eq_getElem hi)|`([1115])=>`(List.mem_of_mem_drop hz)|`([1116])=>`(List.getElem?_eq_getElem hj)|`([1117])=>`(Array.getElem?_eq_getElem hi1)|`([1118])=>`(List.drop_eq_nil_of_le z)|`([1119])=>`(λlx r e H2 v k2 c2 hv=> ?_)|`([1120])=>`(λlx r3 e3 H3 v3 k3 c3 U4=> ?_)|`([1121])=>`(λt r4 e4 q H4 k4 c4 a ta=> ?_)|`([1122])=>`(λlx9 r9 e9 q H9 v k9 c9 hv9=> ?_)
local macro_rules|`([1123])=>`(λt3 r3 e3 q H3 k3 c3 a3 Q1 vc=> ?_)|`([1124])=>`(λlx e3 H3 v k3 c3 hv=> ?_)|`([1125])=>`(λlx4 r4 e4 q H4 v4 k4 c4 Y5=> ?_)|`([1126])=>`(λlx6 r6 e6 q H6 v6 k6 c6 hv6=> ?_)|`([1127])=>`(w.holding.reverse.drop i)|`([1128])=>`(by rw[List.length_map,List.length_range'])|`([1129])=>`(List.mem_range'_1.mp hk)|`([1130])=>`(List.mem_singleton.mp hz)|`([1131])=>`(List.mem_range.mpr [2])|`([1132])=>`(W.start.places.length=0)|`([1133])=>`([117,s.heap.objs.size,cd]::outer)|`([1134])=>`(H1 s1.heap.objs.size=none)|`([1135])=>`(by cases k<;>simp[CN.delta])|`([1136])=>`(by rw[List.size_toArray]<;>omega)|`([1137])=>`(r.args.length=ps.length)|`([1138])=>`([8,(backTo ky [396]).any [44]])|`([1139])=>`(∀b u,[28,[272]]->[28,[89]])|`([1140])=>`((es.map [44]).toArray.toList)|`([1141])=>`(List.getElem?_eq_some_iff.mp h)|`([1142])=>`(Bool.eq_false_iff.mpr h3)
local macro_rules|`([1143])=>`(Codec.app r.args r.asked a)|`([1144])=>`(doubleSigns.contains ([94].take 2))|`([1145])=>`(List.getElem?_append_left (by simpa using hi))|`([1146])=>`(.BoolOp .Or (b::rest) pos)|`([1147])=>`(.BoolOp .And (b::rest) pos)|`([1148])=>`(.BoolOp .And (a::b::rest) pos)|`([1149])=>`(.BoolOp .Or (a::b::rest) pos)|`([1150])=>`(e0.mod.MY.keeps λb o e=>(e0.bs b o e).1)|`([1151])=>`(e0.mod.nolimit.keeps λb o e=>(e0.bs b o e).1)|`([1152])=>`(hk▸List.mem_cons_self)|`([1153])=>`(w.holding.reverse.map (w6 w.places))|`([1154])=>`(zs.map λy=>Value.ref y.2)|`([1155])=>`([6,[280],w.holding.length])|`([1156])=>`(oj prog w h' s.heap.objs.size xs)|`([1157])=>`([11,bo.toArray.size] -1)|`([1158])=>`((x,c)∈[262,h.objs.size])|`([1159])=>`([118,[4,rd],some (.int ([63]+1))])|`([1160])=>`([121,[47,S.expr r,[47,S.block r,cP h]]])|`([1161])=>`(Q (.int (g i j) s.toks) [282])|`([1162])=>`(∀l r,At T0 k (c+1) r->[341,([147],r)])
local macro_rules|`([1163])=>`(q _ _ (a'.weak (by simp[delta,kdOf]) [8]))|`([1164])=>`([151,compareOp .In u [10]])|`([1165])=>`(faultIf (here.contains x) 1)|`([1166])=>`(F2 [50] w.places.length)|`([1167])=>`(List.mem_append_right _ z)|`([1168])=>`(decide_eq_false (λq=>nomatch q))|`([1169])=>`(es.toList.any (·.refKey))|`([1170])=>`(show∃t,u=[109,i] from rx)|`([1171])=>`(S.La _ (PySem.mem_of_lookup hy))|`([1172])=>`(typeLookup (.type T) "__getitem__")|`([1173])=>`(F.args_list_extend_2 _ _)|`([1174])=>`(∀s',[17,H,s']->Q (.bool o.isSome) s')|`([1175])=>`(I.cH.fresh (Nat.le_refl s.heap.objs.size))|`([1176])=>`(PySem.W.hideAll s'.heap ([240]++[a,T]))|`([1177])=>`(WData.weightAll ds<=1048576)|`([1178])=>`(wpAny_newObj_type ?_ (by size_fits))|`([1179])=>`({s with heap:=[418],toks:=tk1})|`([1180])=>`(mi q λns r4 e4 q H4 k4 c4 nl xb qk=> ?_)|`([1181])=>`(IH b (List.mem_of_getElem? hb))|`([1182])=>`(fr.trans (uu.trans ((Fr.same s4).trans G5)))
local macro_rules|`([1183])=>`(cH v (List.mem_of_getElem? hv))|`([1184])=>`(hz z List.mem_cons_self)|`([1185])=>`(show _=true by decide+kernel)|`([1186])=>`([6,E1.filterMap Ev.asBind,c])|`([1187])=>`(show(!false)=true from rfl)|`([1188])=>`([117,s.heap.objs.size,bU])|`([1189])=>`(∀p∈gI,CN.strength p.2≠0)|`([1190])=>`(dI (ha pins s σ H Q I h) λc s1 e=> ?_)|`([1191])=>`((apos.endLine==ky.line)=true)|`([1192])=>`(Piece w w' S w.holding es st)|`([1193])=>`([121,[47,S.expr r,[121,cP h]]])|`([1194])=>`(λH3 uu EL=>[179,λnl xb=> ?_])|`([1195])=>`(decide ([2,0]<[2,[332]]))|`([1196])=>`([5,r.isEmpty,_,halt_ r])|`([1197])=>`(by cases k<;>(cases h<;>rfl))|`([1198])=>`(h.ch (Ch.upd hp λz=>z.2 rfl))|`([1199])=>`([95,"SAID_BEHIND_BACKSLASH",dS])|`([1200])=>`([51,F.expr r1,[20,.rpar,[12,e]]])|`([1201])=>`(envOf (w.lG [38,lq [532]]))|`([1202])=>`([11,[73].places,w.places,rfl])
local macro_rules|`([1203])=>`(.tup [[6,y.1],[6,y.2]])|`([1204])=>`([106,"read_program",I.ff])|`([1205])=>`(∀p∈gI,lo<=CN.strength p.2)|`([1206])=>`(hd r1= .name/\hd (r1.drop 1)= .colon)|`([1207])=>`([46,reserved.contains (b p.1),some (b p.1)])|`([1208])=>`(D K mg fa fm "place_pairs" I.cx ["places"])|`([1209])=>`(decide ([2,40]<[2,CN.aX [160]]))|`([1210])=>`([24,bo.toArray.size+tZ.toArray.size])|`([1211])=>`(PySem.W.callWith_K (h₀:=X.base) I.ok.mod.MY M.kp [345,[30,I1.pP]] he bQ)|`([1212])=>`(xW e n (bE h).1 home lv st w i hm)|`([1213])=>`(λa r4 e4=>aw λ_ r5 e5=>ck ?_)|`([1214])=>`((order.filterMap [414]).size)|`([1215])=>`([118,[39,n],[39,(natOf [417]:Nat)]])|`([1216])=>`([2,all.length]<=[120]+k)|`([1217])=>`(.ins C s.heap.objs.size [])|`([1218])=>`(∀b xs,[22,[119]]->[8,b,[119]])|`([1219])=>`(∀b xs,[22,[60]]->[8,b,[60]])|`([1220])=>`(gh lW (.inr (kS k))=some [6,[663]])|`([1221])=>`(λb=>H b=none/\H1 b≠none)|`([1222])=>`([22,.tup bs]->[8,b,.tup bs])
local macro_rules|`([1223])=>`(.Compare a [op,Vb] [b,c] pos)|`([1224])=>`([61].length+1=ts.length)|`([1225])=>`(fL CC TC l all [149] c r4)|`([1226])=>`(Nat->([23])->([5])->Res [23])|`([1227])=>`(Nat->([24])->([5])->Res [24])|`([1228])=>`(λu s1 ⟨x,H1,I1,r1,q1⟩=> ?_)|`([1229])=>`(Ch.ks qr (da sq rfl) [132,sq,"place_end"])|`([1230])=>`([94,"take",nO CC TC C [275] H Q (tV C E)])|`([1231])=>`([94,"take",[349,nO CC TC C [12,c,v] H Q (tV C E)]])|`([1232])=>`(Builtin.List.listTooLong (bo.toArray.size+tZ.toArray.size))|`([1233])=>`(wpAny_seqItems hS rfl ?_)|`([1234])=>`(if has t.dummies j then _ else t.dummies)|`([1235])=>`(["uses","places","use"])|`([1236])=>`(cC (s:="not") (k:= .not_) [3])|`([1237])=>`(λq=>[2,[176],Vanbka.b q.1])|`([1238])=>`([12,.CL,c4,λlx5 r5 e5 q H5 v k5 c5 hv5=> ?_])|`([1239])=>`(λa (p:[113])=>[29,[1083]])|`([1240])=>`([2,[13,CN.strength (hd r1)],V.int 4])|`([1241])=>`([2,[13,t3.length],[13,m]])|`([1242])=>`(F2 [50] (w.places.length+c))
local macro_rules|`([1243])=>`(∃k' b,v=[25]/\TK prog w s.heap k' b)|`([1244])=>`((List.range (2 ^k)).map λn=>it (2 ^k) n x)|`([1245])=>`(by first|exact z|exact q1|exact q2)|`([1246])=>`(uY (s:="in") [3] p4 λ_ r p5 _=> ?_)|`([1247])=>`(Aj X.N X.env.scope scope own)|`([1248])=>`([[4,c],some [31,cl],[233]])|`([1249])=>`([350,⟨dx,.cg,?_,rfl⟩])|`([1250])=>`([2,V.str (kS [12]),[45,k']]=[2,[12],k'])|`([1251])=>`(dr c G [533] wa [35,y,[149,y],[235]] lv st)|`([1252])=>`(da d8.wk (f:="holding") rfl _ _ SI rfl)|`([1253])=>`(goL l m hd home lv st w i hm)|`([1254])=>`(.inl λp hp e=>h ⟨p,hp,e⟩)|`([1255])=>`(hbt.CL p1 [3] λh x=>ez h x [3])|`([1256])=>`(p1.weak (k':=0) [3] [8])|`([1257])=>`(p3.weak (k':=0) [3] [8])|`([1258])=>`(λi h h' st k=>st.at λo e=>k it [4] o e)|`([1259])=>`(show s.heap.IsTuple a bo.toArray from p)|`([1260])=>`([180,"__setattr__"]=some (some (.builtin "object.__setattr__")))|`([1261])=>`(PySem.W.plainOver K C=true)|`([1262])=>`(PySem.W.makesIn K C=true)
local macro_rules|`([1263])=>`(name_of_addr x.apart (PySem.mem_of_lookup h1) (PySem.mem_of_lookup h2))|`([1264])=>`(wpAny_newFunctionEnv_cells S.kind Kh λenv he s1 x=> ?_)|`([1265])=>`(typeOf [407]=pure (.type "method_descriptor"))|`([1266])=>`(cellsFrom [64] scope.names [824])|`([1267])=>`(∀H,Pv xs.length H->Qd H)|`([1268])=>`(.Call (.Name fx pf) (e::es) [] ky)|`([1269])=>`(SetTable.toList_insertAt _ _ _)|`([1270])=>`(jO (t':=t') (t:=[524]) rfl)|`([1271])=>`(pickOrder (w.params.setOrder a ep) es)|`([1272])=>`(Heap.get?_update_other _ _ (Ne.symm hb))|`([1273])=>`(Builtin.Tuple.tupleHashOf [[127].hash k.1,tupleKeyHash [127] k.2])|`([1274])=>`(h.DictOfH (NK.mz P w) a [525])|`([1275])=>`(L2.start [Str.ofString "byte"] [cV c])|`([1276])=>`((z.keep c3 k4).M6 NV [529])|`([1277])=>`([185,z.ks jk (Keeps.gy s)])|`([1278])=>`(z.elim (λy=> .inl y.symm) .inr)|`([1279])=>`(CN.bX ps (bss.take i++[ts]))|`([1280])=>`([8,lastMarks [op,Vb] [b,c]])|`([1281])=>`((·.setIfInBounds 0 (rawInt (jN w t (i+1):Nat))))|`([1282])=>`(hs.toList.foldl (qW t.mask) [11,Array.replicate [229] none,0])
local macro_rules|`([1283])=>`(starEach [e] X.env=[(false,[52,e])])|`([1284])=>`(xs.take [202]++(k,x)::xs.drop [202])|`([1285])=>`(∀m,t.depth<=m->WF m t)|`([1286])=>`([8,H3,pl,Uz.map V.ref,nb3])|`([1287])=>`(D K mg fa fm "fault_pairs" I.gm ["walk"])|`([1288])=>`(D K mg fa fm "walk_program" I.cY ["statements"])|`([1289])=>`(D K mg fa fm "visit_pairs" I.gv ["visits"])|`([1290])=>`(H' l=some [181]/\[30,λa t=>[670],acc])|`([1291])=>`(bg ⟨_,rfl,l,all,c,ts,rfl,hc,h2,[176,q H' k' c' a ta]⟩)|`([1292])=>`([46,[666],[11,.sign [c],1]])|`([1293])=>`(⟨y,[149,y],[235],lv,st⟩)|`([1294])=>`(λr s'=>r=w/\EP X pins σ Q r s')|`([1295])=>`(λa k=>H5 a=some (.tup (iV k)))|`([1296])=>`(upd H' tp (.tup [.int 10,.int 32]))|`([1297])=>`(upd H T (.tup [.int (i:Nat),x]))|`([1298])=>`(upd [1090] l (.lst [33,[70],tp]))|`([1299])=>`([8,H',l,bV sd++[cV d]])|`([1300])=>`(g x σ H λlX H2=>tb [105,Pv (i+1),Pv (i+1)] lX H2)|`([1301])=>`((if j then F.signed else F.jd) ts)|`([1302])=>`([3,[],h,g,λi a t e=>[410]])
local macro_rules|`([1303])=>`(bI f l home lv st nums w)|`([1304])=>`(λb z=>absurd (show b∈([]:[14]) from z) [4])|`([1305])=>`(making q.kind=true/\q.home=home/\q.name=x)|`([1306])=>`(⟨_,rfl,[14,CF],_,rfl,l,all,c,_,rfl,c6,h2,q.bind λt7 r7 e7 q H7 k7 c7 a7 Ug=> ?_⟩)|`([1307])=>`([429,[8,fj w.places u]])|`([1308])=>`(["cursor","weakest","strongest","read_part"])|`([1309])=>`(X.env.cells.lookup y=some c/\[123,c])|`([1310])=>`(∀lx,[234]= .ok lx [61]->∀(H':Hp) (v:V),([81])->([1080])->nV H' lx v->Q v H')|`([1311])=>`([254,x]++evsE y env (k+bindsE x) lv)|`([1312])=>`(Paired [826] (as++[a7]) (ps++[t7]))|`([1313])=>`([59,t.kind= .cq/\¬[504],7])|`([1314])=>`(∀(w:World) (h:Heap),YP w h->[165].In h)|`([1315])=>`(faultIf (fX k&&home !=0) 6)|`([1316])=>`(I7.pin (b,o) [223,[223,qu hb e]])|`([1317])=>`(List.range' w0.places.length ([283].places.length -w0.places.length))|`([1318])=>`(aC P w K mg base [62] 5 (fa I.gZ) (fm I.gZ) [84] (ow CC TC C NC CN.jT))|`([1319])=>`(aC P w K mg base [62] 5 (fa I.hZ) (fm I.hZ) [84] (ow CC TC C NC CN.jU))|`([1320])=>`(CV K C "__init__" "Cell.__init__" [172,I.Cell] f fd 3)|`([1321])=>`(CV K C "__init__" "Node.__init__" [172,I.Node] f fd 5)|`([1322])=>`(vh.1.at λo e=>(s1.2 I (Ne.symm NW)).trans e)
local macro_rules|`([1323])=>`(vh.2.at λo e=>(s1.2 l (Ne.symm Yf)).trans e)|`([1324])=>`(n -p<=30&&(n -p==1||c0 !=48))|`([1325])=>`(λa r z=>Nat.le_trans (h a r z) e)|`([1326])=>`(IY t' u' (EX (ns.take (i+1))))|`([1327])=>`(gh wg (.inr (kS k))=(CN.fK k).map λp=>[6,p.2])|`([1328])=>`(o.data= .seq bo n/\[24,bo.size]/\Vals xs bo.toList)|`([1329])=>`(Heap.size_push h [45,"cell",.cell none])|`([1330])=>`([258,0].places.length=w.places.length+m6)|`([1331])=>`(cat [⟨l,p,k⟩] (tokensFrom n (p+k) ((c::r).drop k)))|`([1332])=>`(upd [1091] D (.lst [33,[70],tp]))|`([1333])=>`((if[232] then xH=xs else xH.Perm ((k,x)::xs)))|`([1334])=>`((quotedFrom (bs.drop (p+1))).map λx=>(.quoted x.1,x.2+1))|`([1335])=>`([21,l,_,[31,bP.of ag,λwa Y7=> ?_]])|`([1336])=>`([161]/\cj H' pl acc/\[352,[346,dn k acc r]])|`([1337])=>`([79,J9,((z.keep c5 k6).keep c6 k7).M6 w9 [521]])|`([1338])=>`(k _ _ e [13,e,hp] [13,e,hs])|`([1339])=>`(∀m:List [26],m.Nodup->(∀k∈m,k∈ks)->m.length<=4914)|`([1340])=>`(∀z:Int,z=[179]->[424,z]=[530])|`([1341])=>`(λs3 I3=>[3,.bl ov.isSome,H2,I3,q2])|`([1342])=>`(λq=>q.home==p.home&&q.name==p.name)
local macro_rules|`([1343])=>`((Ug.weak λb e=>⟨aV K6 c6 e,jV e R4,jV e CF⟩).M6 w9 [521])|`([1344])=>`(Dw.readsAll cH KX ds _ bo ha rv)|`([1345])=>`([351,W i m H->((EO K a).stop i H/\Qd H)\/((EO K a).go i H/\[430,EO K a])])|`([1346])=>`(λ⟨p,hp,e⟩=>⟨p,hp,e.symm⟩)|`([1347])=>`(this k (by rcases hk with rfl|rfl|rfl|rfl|rfl|rfl<;>decide) p hp)|`([1348])=>`(⟨z.1,ht _ _ z.2.1,z.2.2⟩)|`([1349])=>`(PassesOwn [271] X.A X.env X.xe)|`([1350])=>`(∀x,foldedSetIterable iter X.env x=pure x)|`([1351])=>`(I1.laid (t':=s1.toks) (λb u e=>[42,e]) [8] ?_)|`([1352])=>`(λv hv=>[820].1 (List.of_mem_zip hv).1)|`([1353])=>`(PySem.W.cellsFrom_some _ _ _ (.inl q))|`([1354])=>`(ExcBaseFacts B newId aP bm)|`([1355])=>`(ko S _ (by simpa using NW) hS)|`([1356])=>`(Builtin.Builtins.bindParams "max" ["key","default"] 0 ⟨[],[825]⟩)|`([1357])=>`(s.heap.push [45,"list_iterator",.fields #[[40],.int 0 0]])|`([1358])=>`(wpAny_setEntries_of ho hd pN ?_)|`([1359])=>`(wpAny_setField UZ Sj [4] ?_)|`([1360])=>`(λH1 H2 l fs e1 e2 kk r=>r.ch (Ch.A7 e1 e2 kk))|`([1361])=>`(kY hk hc (λlx r e=> ?_) λe=> ?_)|`([1362])=>`((gh lW (.inr (kS k))).getD (.int 0)=[6,[663]])
local macro_rules|`([1363])=>`([6,nl,rfl,ns6.1,aV K3 c3 xb])|`([1364])=>`([186,z.ks jk (Keeps.gy s) [411]])|`([1365])=>`([35,[406],CN.bK w.places w.holding [406],[503]])|`([1366])=>`(gh yu (.inr (kS k))=(CN.iq k).map λz=>[13,z.number])|`([1367])=>`(xk.ch.ls _ _ J4 (gk _ gB))|`([1368])=>`(NH.ch.ls _ _ Ks (gk _ gns))|`([1369])=>`(P4.wr (ys:=hV [86,m]++[[13,[258,i].places.length]]) ve RX gk)|`([1370])=>`(NL.th b (jP sq b (jP ag b e)))|`([1371])=>`([.type "Exception",.type "BaseException",.type "object"])|`([1372])=>`([8,H6,bl,[V.ref b],b6])|`([1373])=>`((fs.all λy=>[180,y]==some none)=true)|`([1374])=>`(([672]) wa=some (.tup ((keyOf wd).map kV)))|`([1375])=>`([9,A.joined,R.joined.m,R.joined.F.kp,R.joined.b])|`([1376])=>`(decide (v<lo)||decide (hi<v))|`([1377])=>`(aC P w K mg base fi 1 fW jy ["self"] (aal c.WC))|`([1378])=>`(aC P w K mg base fi 1 fS de ZJ (aag c.SC))|`([1379])=>`(aC P w K mg base fi 1 fU kM ZK (aah c.UC c.NC))|`([1380])=>`(aC P w K mg base fi 1 fV kN ZL (aaj c.VC))|`([1381])=>`(aC P w K mg base fi 1 fB ja ZI (Z6 c.BC))|`([1382])=>`(gj NC [508] [8,H7,pl,[70],a7] a7 t7)
local macro_rules|`([1383])=>`([152,aL "parts" (.ref pl) [806]])|`([1384])=>`(aD (pv 0) Z.cl Z.mS GS hr Z.bS .nil ao [45])|`([1385])=>`([228,⟨aV k hc e,jV e hp⟩])|`([1386])=>`(⟨.int ys.length,H,[139],⟨s.toks+1,by rw[List.size_toArray,hlen]⟩,q⟩)|`([1387])=>`(aC P w K mg base fi 1 (fa I.repeated) (fm I.repeated) ["places"] (aaf c))|`([1388])=>`(λq=>q.home=home/\makes s=some (q.name,q.kind))|`([1389])=>`(aC P w K mg base fi 3 (fa I.mZ) (fm I.mZ) [528] (Z5 c))|`([1390])=>`(evsB l env n lv top here)|`([1391])=>`([204]=some .free/\[107,i9.kindOf y,i9.kindOf y])|`([1392])=>`([12,pJ,hit.typeIs,B6,F6 _])|`([1393])=>`([2,1,RF,Dg,["self","tokens"],Z8 CC])|`([1394])=>`([46,[58,wordByte]<=16,[11,.word [259,wordByte],[58,wordByte]]])|`([1395])=>`(((NU i ba b CG hb).ch [110,(fr.trans uu).ch]).sm s4)|`([1396])=>`(aC P w K mg base fi 1 (fa I.bK) (fm I.bK) ["walk","name"] (aac c))|`([1397])=>`(aC P w K mg base fi 1 (fa I.iW) (fm I.iW) ["use","places"] (aab c))|`([1398])=>`(gT (bM.lit (as:=[a2]) bQ (aV K2 c2 bQ) [55,Ah.dH k1 c1]))|`([1399])=>`(d9.span (o:=[219,aL "place_end" [6,(Ec.map V.ref).length] [505]]) sq rfl)|`([1400])=>`(attributeBase o name X.env [52,o]=[52,o])|`([1401])=>`(attributeBase e f X.env [52,e]=[52,e])|`([1402])=>`(qN ds _ eF p λd hd=>Nat.le_trans (qG hd) z2)
local macro_rules|`([1403])=>`(upd H ak (.ins c.BC FL (aL "used" (.int ([498]+1)) (Ib O6 [500] (.ref pb) [501] [325] [499] [498]))))|`([1404])=>`(H' l=some (.lst (bV sd))/\quotedFrom (bs.drop (p+1))=[1094])|`([1405])=>`(aC P w K mg base fi 390 (fa I.i6) (fm I.i6) [95] (aaa K c CE))|`([1406])=>`(aC P w K mg base fi 2 (fa I.i8) (fm I.i8) ["uses","places"] (aai c))|`([1407])=>`(λi a t e1 e2=>(q i a t e1 e2).ch c)|`([1408])=>`(λw' s3 I3 BV=>⟨v,H2,I3,BV,q2⟩)|`([1409])=>`([8,H7,pl,[33,LN.reverse.map V.ref,ax5]++[V.ref a7]])|`([1410])=>`([[4,t],v,[4,rd],[4,l],[39,p],v5,none])|`([1411])=>`(⟨[661],[661],I.base.free,λb o e hx=> ?_,I.base.xF,I.base.u7,I.base.xE⟩)|`([1412])=>`(⟨_,rfl,_,_,rfl,rfl,rfl,rfl⟩)|`([1413])=>`(h2 p hp q hq (e'.symm.trans e))|`([1414])=>`(inFunction own ps (envOf w0) w0.places.length (lv+1))|`([1415])=>`([17,H',{s with heap:=h',gens:=g',drawn:=d',toks:=t'}])|`([1416])=>`([255,λc s1 ⟨H1,I1,q1⟩=> ?_])|`([1417])=>`(∀y∈[400],[227,[815]]\/([815]=some .cell/\[92,[343,[]].lookup y.1]))|`([1418])=>`(decide (y.1∈own.map [44])||decide (y.1∉N))|`([1419])=>`(wpAny_getItem_heap [662] (qp I.cH eb) dd hp ?_)|`([1420])=>`(λc u hc r=>keep c u r (Ag c ?_))|`([1421])=>`(fin _ qj (λb m=> ?_) h' L)|`([1422])=>`(Paired (λp (kv:[80]×V)=>∃kb,kT X.K H p [12,kb,kv.2]/\[5,kb,.tup (kv.1.map kV)]) ps cF)
local macro_rules|`([1423])=>`(probe.go t hashAt h fuel p)|`([1424])=>`([10,-[2,2] ^63,z]&&decide (z<2 ^63))|`([1425])=>`((qk.gU c4.is k5).ch (NC:=NC) (G:=λ_=>True) (Ch.same s6) True.intro)|`([1426])=>`(fh (wN n) (t.blocks.take i) lv st [146,[238]])|`([1427])=>`(CN.pD (lv+1) w.met st t.names [829])|`([1428])=>`(aC P w K mg base fi 5 (fa I.cZ) (fm I.cZ) [1092] (spJ NC))|`([1429])=>`(aL "holding" (.ref hl) (aL "visits" (.ref vl) [830]))|`([1430])=>`(p.1=q.1/\H q.2.1=some (.tup (p.1.map kV))/\RelV p.2 q.2.2)|`([1431])=>`(aC P w K mg base fi 2 (fa I.cx) (fm I.cx) ["places"] (aad c))|`([1432])=>`(aC P w K mg base fi 5 (fa I.gm) (fm I.gm) ["walk"] (Z' c))|`([1433])=>`(∀a b,a<b->b<xs.size->xs.getD a 0<xs.getD b 0)|`([1434])=>`(fo i hm [831] [125,x] (g:=λw=>[260,cO y]) (F2:=[111,y]) (λw i hm=>[832]))|`([1435])=>`([431,ho pins s2 σ H2 x y v u Q I2 rx ry q])|`([1436])=>`(!(p.kind== .slider||p.kind== .choice||p.kind== .own)&&p.level==u.level)|`([1437])=>`(∀lx r,[234]=[12,lx]->[182,f lx r]->[823])|`([1438])=>`(∀a r,m=[12,a]->[182,f a r]->[1093])|`([1439])=>`(dI (hc pins s σ H _ I h) λd s1 ⟨H1,I1,q1⟩=> ?_)|`([1440])=>`([46,[58,digit]<=30&&([58,digit]==1||c !=48),[11,.num (natOf [259,digit]),[58,digit]]])|`([1441])=>`((a/\a2)\/(b/\b2)\/(c/\c2)\/(d/\d2)\/(e/\e2))|`([1442])=>`(λz=>(MU c z).2.2.1 x c e rfl)
local macro_rules|`([1443])=>`(⟨xc,[10],nb,by rw[A0,eos],[15,Kn]⟩)|`([1444])=>`(∀i x H,([206])->Pv i H->g x [274] H [340,λb H3=>[5,b,[339,Pv (i+1) [811]],Pv (i+1) H3]])|`([1445])=>`([[4,wa],[412],[4,sp],[39,w.met],[4,nl],v])|`([1446])=>`(sL (p:=[103,k]) hm hs ?_ ?_ ?_)|`([1447])=>`(InCallC s s.heap.objs.size (bindL [278].kindOf [400] [514]) [343,[]] (bindC [278].kindOf [400] [514]) s1)|`([1448])=>`(∀(kV doc pm:Value) (an:[241]) (bU ct:Value) (us:[6]),[428,bindArgs [531] [49,us]])|`([1449])=>`([347,wC NC [1095] [154,NC] (λv H2=>v= .cg/\Q x H2) E0])|`([1450])=>`((Qq.trans (CN.pC (CN.nX n) lv st (t.blocks.take i) [146,[238]])).trans (CN.jY _))|`([1451])=>`([219,aL "use_end" [6,(My.map V.ref).length] (aL "place_end" [6,(Ec.map V.ref).length] [505])])|`([1452])=>`(⟨r5.length,[2],fu,_,r5,a',rfl,[2],rfl,kk,cc,t,q⟩)|`([1453])=>`(["text","byte","reserved","tokens","place","token","word"])|`([1454])=>`(kq (kS t.kind) (.ref pl) (.ref bl) nv (.ref nl) vv [205])|`([1455])=>`(usF [10] (Vanbkc.refTold [149,y]) os [179] (.ref nb) [140])|`([1456])=>`(pq (wN n) kd t home lv st w)|`([1457])=>`(bI (wN n) b0 w.met (lv+1) st (List.range' w.places.length ([1073].places.length -w.places.length)) _)|`([1458])=>`(⟨[53],(fr.trans Dk.less).trans NJ,[108,ve,DG],m+1,?_,[2],?_,?_⟩)|`([1459])=>`(["enumerate","zip","dict_itemiterator","dict_reverseitemiterator","odict_iterator","itertools.zip_longest","itertools.pairwise"].contains n)|`([1460])=>`(h pos pins s σ H _ I hq)|`([1461])=>`(codeAny_call_function hr.depth (KX _ _ lk) rfl S.co S.gen rfl (PySem.W.codeRec_of KX xZ) (hb _ _ _ _ ?_))|`([1462])=>`(⟨v,H',J.os,J.bare,J.base,J.cH,rv,q⟩)
local macro_rules|`([1463])=>`([264,λv s1 ⟨x,H1,I1,r1,ty,q1⟩=> ?_])|`([1464])=>`([[4,c],[39,lo],[39,hi],[4,fp],[233],[4,sl],some [64,hd r]])|`([1465])=>`(BH 3 GP hr kp bp .nil ao [137])|`([1466])=>`(∃m:Nat,[258,i].places.length=w.places.length+m/\m<=1+i/\H' nl=some (.lst (hV [86,m]))/\dr c [166] H' wa [258,i] (lv+1) st)|`([1467])=>`(⟨[41,none],NH,Ky,m6,hm6,Ss,Hk,Uq⟩)|`([1468])=>`(h0.get? T=none/\T≠e/\H T=none/\h.get? T=some oT/\oT.data= .fields ts/\[2,ts,3,.none])|`([1469])=>`(⟨_,rfl,_,rfl,rd,_,rfl,g,_,rfl,?_⟩)|`([1470])=>`([432,λd s3 ⟨z,H3,I3,r3,k,e,q3⟩=> ?_])|`([1471])=>`(qT A outer s H vs Q E (hr.deeper _) vf)|`([1472])=>`(PySem.W.WalkOS q loose XP YP r d [] (λf vs=>PySem.call f vs))|`([1473])=>`(upd H8 wa (.ins c.WC uX (ui BM Cu Di EJ CH [2,[496].met] ([511] -1) [140])))|`([1474])=>`(ES K mg NC fN WO fD fP jw JB UG Qj)|`([1475])=>`(hc pins s1 σ H1 vs us Q I1 r1 q1)|`([1476])=>`(∀(pins:[17]) (s:Shared) (σ:St) (H:Hp) (x:V) (xs:[13]) (v:Value) (us:[6]) (Q:VK),([9])->([186])->([185])->r x xs H Q->[79,call [407] (v::us)])|`([1477])=>`(ji CC TC C l all c H (tV C E) m q')|`([1478])=>`(bN K3 c3 [76] (gT (Q1.dH K2 c2)) [419] rfl (w8 K3 c3) rfl vc [4])|`([1479])=>`(xj.ch.nd _ _ _ _ _ _ _ _ _ hN)|`([1480])=>`(xk.ch.nd _ _ _ _ _ _ _ _ _ hN)|`([1481])=>`(Dk.ch.nd _ _ _ _ _ _ _ _ _ hN)|`([1482])=>`(d8.fields (w':=[496]) (lv':=lv) (st':=st) rfl rfl rfl d8.h d8.nd d8.gz.2.2.2.2 d8.hb)
local macro_rules|`([1483])=>`(aC P w K mg base fi (k+1) f fd ps sp)|`([1484])=>`(aC P w K mg base fi 1 (fa I.fJ) (fm I.fJ) ["numbers"] aam)|`([1485])=>`(PySem.W.fnOf x qual (il st) (fc st) (ai st) (.ref T) kV doc pm an bU ct)|`([1486])=>`(⟨_,rfl,_,rfl,t,_,_,_,rfl,rfl,hS,ki hc,c,rfl,_,rfl,?_⟩)|`([1487])=>`(⟨P,U,V,q.places,q.uses,q.cE,?_,q.met,q.iC,q.binds,q.wM,q.T6,q.stU,q.stV,q.inr,q.faults⟩)|`([1488])=>`(oo [62] P w K mg base zD "read_chain" (ai (top I.cX)) (fa I.cX) bU A' outer s H E)|`([1489])=>`(Af (oo fi P w K mg base N qual (ai st) f bU A outer s H E).Ta (fc st) t)|`([1490])=>`(lZ c G [534] wa (w.use u) lv st dx pl ul fl vl hl cK (eK++[a]) gN fM)|`([1491])=>`(⟨ok.mod,ok.kind,ok.glob,ok.blt,ok.above,ok.inj,ok.has,ok.UA,ok.hd,ok.frames,ok.gI,ok.VE,ok.bs,ok.I0,ok.HB,ok.G1,ok.qR,ok.NM⟩)
local macro_rules|`([2,$a])=>`(($a :Int))|`([3,$a])=>`($a=some o)|`([4,$a])=>`(some (.ref $a))|`([5,$a])=>`(H $a=none)|`([6,$a])=>`(.int [2,$a])|`([8,$a])=>`($a=false)|`([9,$a])=>`([38,rfl,$a])|`([10,$a])=>`([4,$a,Hp])|`([11,$a])=>`([2,($a :Nat)])|`([12,$a])=>`(.ok $a r)|`([13,$a])=>`(V.int [2,$a])|`([14,$a])=>`(.inl [76,_,bP.of $a])|`([15,$a])=>`(s2 _ _ $a)|`([16,$a])=>`(aa $a af)|`([17,$a])=>`(ah (aG $a))|`([18,$a])=>`(⟨rfl,$a⟩)|`([19,$a])=>`(List.mem_cons_of_mem _ $a)|`([20,$a])=>`(PySem.W.mg_of X G $a)|`([21,$a])=>`(wpAny [158] A $a Q E s)|`([22,$a])=>`([5,b,$a])
local macro_rules|`([23,$a])=>`(hr.mono (j:= $a) [2])|`([24,$a])=>`($a<=sizeLine)|`([25,$a])=>`((List.getElem?_eq_some_iff.mp $a).1)|`([26,$a])=>`([4,$a,Shared])|`([27,$a])=>`(show $a by omega)|`([28,$a])=>`($a=some u)|`([29,$a])=>`([5,a,$a])|`([30,$a])=>`(⟨$a,?_⟩)|`([31,$a])=>`(.str (kS $a))|`([32,$a])=>`(bj.ok rfl $a)|`([33,$a])=>`(show $a by decide)|`([34,$a])=>`(⟨_,$a⟩)|`([35,$a])=>`(s1 _ _ $a)|`([36,$a])=>`([38,$a,rfl])|`([37,$a])=>`([5,$a,[60]])|`([38,$a])=>`(⟨$a,lv,st⟩)|`([39,$a])=>`(some [6,$a])|`([40,$a])=>`($a<bs.length)|`([41,$a])=>`(⟨$a,rfl⟩)|`([42,$a])=>`(Heap.get?_push_of_some _ $a)
local macro_rules|`([43,$a])=>`(["cursor",$a])|`([44,$a])=>`(if $a=true then _ else _)|`([45,$a])=>`(V.str (kS $a))|`([46,$a])=>`(.tup (bV $a))|`([47,$a])=>`(upd H $a o)|`([48,$a])=>`(.ins $a dx fs)|`([49,$a])=>`(⟨$a,[]⟩)|`([50,$a])=>`(of_decide_eq_false (Bool.eq_false_iff.mpr $a))|`([51,$a])=>`(upd H $a (.lst ys))|`([52,$a])=>`(eval $a X.env)|`([53,$a])=>`(15*d+ $a<=n+1)|`([54,$a])=>`(kdOf (.word $a))|`([55,$a])=>`(.cons $a .nil)|`([56,$a])=>`(a9 (pv 0) $a rfl)|`([57,$a])=>`(⟨_,$a,?_⟩)|`([58,$a])=>`([102,[94],$a])|`([59,$a])=>`(if_neg (λz=> $a))|`([60,$a])=>`(($a).mpr rfl)|`([61,$a])=>`(bz [16,$a])|`([62,$a])=>`([76,rfl,$a])
local macro_rules|`([63,$a])=>`([322].eD $a [3])|`([64,$a])=>`(.str (kS $a))|`([65,$a])=>`(($a).le ts.length)|`([66,$a])=>`(($a).mono ?_)|`([67,$a])=>`(.inl (bP.of $a))|`([68,$a])=>`(($a).map (·.2))|`([69,$a])=>`(PySem.W.mg_none_of X G $a)|`([70,$a])=>`([3,$a,a]/\y=[104])|`([71,$a])=>`(Fr c G wa H $a)|`([72,$a])=>`(⟨$a,[2]⟩)|`([73,$a])=>`([34,bP.of $a])|`([74,$a])=>`([332,$a]=some none)|`([75,$a])=>`(16*ts.length+ $a<=m)|`([76,$a])=>`([34,List.getElem?_eq_getElem $a])|`([77,$a])=>`([36,bR (n:=ts.length) [2],$a])|`([78,$a])=>`([2,($a).length])|`([79,$a])=>`([19,$a,[805],s])|`([80,$a])=>`([54,[],$a])|`([81,$a])=>`(Q (.bl $a) H)|`([82,$a])=>`($a<=t.mask)
local macro_rules|`([83,$a])=>`(k _ _ $a True.intro)|`([84,$a])=>`(show gO $a from[1074])|`([85,$a])=>`(∀H',([201])->[175,$a]->[199])|`([86,$a])=>`(List.range' w.places.length $a)|`([87,$a])=>`(mg $a=none)|`([88,$a])=>`(($a).map λx=>[45,x])|`([89,$a])=>`(($a).weak [3] [2])|`([90,$a])=>`(kdOf (.sign $a))|`([91,$a])=>`([3,_,rfl,_,$a])|`([92,$a])=>`(($a).isSome=true)|`([93,$a])=>`(decide_eq_decide.mpr ($a).symm)|`([94,$a])=>`(λ_ r1 e1=>aw $a)|`([95,$a])=>`(List.mem_append_left _ $a)|`([96,$a])=>`(M4 λi j=> $a)|`([97,$a])=>`(aB (o:= $a) ou)|`([98,$a])=>`([79,hP,$a])|`([99,$a])=>`(Piece w w' S h $a st)|`([100,$a])=>`(λσ H Q=>ta σ H λx H1=> $a)|`([101,$a])=>`(o.setIfInBounds $a (some done.length))|`([102,$a])=>`(List (Str×$a))
local macro_rules|`([103,$a])=>`(⟨$a,x,lv,home,st⟩)|`([104,$a])=>`(.ins $a dx [])|`([105,$a])=>`(w.put [103,$a])|`([106,$a])=>`({s with heap:=h',toks:= $a})|`([107,$a])=>`(λσ H Q=>t σ H $a)|`([108,$a])=>`([24,$a,sysModules])|`([109,$a])=>`(Value.int $a t)|`([110,$a])=>`(Ch.sub gk $a)|`([111,$a])=>`(λenv k=>[254,$a])|`([112,$a])=>`(ps.filter λp=> $a)|`([113,$a])=>`(.cons rfl $a)|`([114,$a])=>`(k1.trans (k2.trans $a))|`([115,$a])=>`([34,List.getElem?_eq_getElem $a])|`([116,$a])=>`([255,[177,$a]])|`([117,$a])=>`(⟨$a,H,[139],[53],q⟩)|`([118,$a])=>`([88]=some $a)|`([119,$a])=>`(aD (pv 0) R.Z.cl R.Z.mT GT eP R.Z.bT .nil ao $a)|`([120,$a])=>`(Fr c G wa H $a)|`([121,$a])=>`([36,bR (n:=[649]) [2],$a])|`([122,$a])=>`(($a).weak (k':=0) [3] [8])
local macro_rules|`([123,$a])=>`($a<s.heap.objs.size)|`([124,$a])=>`(codeAny_builtin $a ?_)|`([125,$a])=>`(iS $a _ _ _)|`([126,$a])=>`(absurd e $a)|`([127,$a])=>`(by simpa using $a)|`([128,$a])=>`(aK eV $a aH (aZ _))|`([129,$a])=>`(t.slot $a= .empty)|`([130,$a])=>`(inClass (top I.Cursor) $a)|`([131,$a])=>`(⟨_,[20,$a]⟩)|`([132,$a])=>`(([47])->([107])-> $a)|`([133,$a])=>`(∃v:[71],σ= $a)|`([134,$a])=>`([19,[174,pv 1],$a])|`([135,$a])=>`(of_decide_eq_true ((eqs $a).symm.trans hh))|`([136,$a])=>`(fL CC TC l all $a c ts)|`([137,$a])=>`(Nat.lt_of_le_of_lt $a [3])|`([138,$a])=>`(fs.lookup ($a :Str))|`([139,$a])=>`(eW cI (pv 0) $a [157])|`([140,$a])=>`(∃b,v=[25]/\ $a)|`([141,$a])=>`(($a).filterMap Ev.asBind)|`([142,$a])=>`(absurd $a [4])
local macro_rules|`([143,$a])=>`(max ($a).depth 0)|`([144,$a])=>`(show $a from r)|`([145,$a])=>`(aw λa r e=> $a)|`([146,$a])=>`(bh (wN n) t.parts home lv st $a)|`([147,$a])=>`(∀p∈aW,p.2≠$a)|`([148,$a])=>`([140,[22,[46,$a]]])|`([149,$a])=>`(CN.bK w.places w.holding $a)|`([150,$a])=>`(Around.under_plainId $a _)|`([151,$a])=>`(wpAny [271] A $a Q E s)|`([152,$a])=>`(iK (o:=[9,NC,$a]))|`([153,$a])=>`(n<=bs.length/\ $a)|`([154,$a])=>`(upd (upd H dx (.own x)) x [104,$a])|`([155,$a])=>`(wpAny_passesOwn hp $a)|`([156,$a])=>`(.cons $a .nil)|`([157,$a])=>`(Gv.na $a [32])|`([158,$a])=>`([34,bP.of $a])|`([159,$a])=>`([32,[89,$a]])|`([160,$a])=>`([67,pv 2,$a])|`([161,$a])=>`(wpAny_bind (wpAny_pure $a))|`([162,$a])=>`(Nat->Nat-> $a)
local macro_rules|`([163,$a])=>`(some (wordOf $a))|`([164,$a])=>`(Heap.SameBut $a s.heap h')|`([165,$a])=>`([21,[336,$a],[203]])|`([166,$a])=>`(bh (wN n) $a home lv st w)|`([167,$a])=>`(⟨_,rfl,_,rfl,t,_,rfl,$a,_,_,rfl,rfl,_,rfl,?_⟩)|`([168,$a])=>`(wpAny [271] X.A $a Q E s)|`([169,$a])=>`(n+[102,[494],$a])|`([170,$a])=>`(bf $a (ah (f' G.O G.FB rfl)) aO)|`([171,$a])=>`(dI (he pins s σ H _ I h) $a)|`([172,$a])=>`(inClass (top $a) 0)|`([173,$a])=>`((Option.some.inj $a).symm)|`([174,$a])=>`(aK eV $a ay (aZ _))|`([175,$a])=>`(dr c G H' wa $a lv st)|`([176,$a])=>`(q.last λt r e q H' k' c' a ta=> $a)|`([177,$a])=>`(λv s1 ⟨x,H1,I1,r1,q1⟩=> $a)|`([178,$a])=>`([54,[$a],bQ])|`([179,$a])=>`(⟨[33],$a⟩)|`([180,$a])=>`(PySem.W.findIn K [87] $a)|`([181,$a])=>`(.inl (.inl $a))|`([182,$a])=>`(ji CC TC C l all c H0 E $a q)
local macro_rules|`([183,$a])=>`(∀(H':Hp) (a:Addr),$a)|`([184,$a])=>`(xs.length<=sizeLine/\ $a)|`([185,$a])=>`(Paired.cf d.up λa u z=> $a)|`([186,$a])=>`(Paired.cf d.vp λa u z=> $a)|`([187,$a])=>`(Lex.sign (b $a))|`([188,$a])=>`(CN.again [] $a)|`([189,$a])=>`(.inr (.inr (.inr $a)))|`([190,$a])=>`(λz=>absurd z $a)|`([191,$a])=>`(A.units+ $a<cLine)|`([192,$a])=>`(aw λ_ r3 e3=>aw $a)|`([193,$a])=>`((Sum.inl $a :Key))|`([194,$a])=>`(HO.ins TC dx $a)|`([195,$a])=>`([66,$a,[652]])|`([196,$a])=>`([12,$a,hc,[808]])|`([197,$a])=>`(λb e=>d.gf b (jP $a b e))|`([198,$a])=>`([6,$a,ps.length])|`([199,$a])=>`(∃cR H',Inv X pins cR H' s'/\ $a)|`([200,$a])=>`(t {nx:=λ_ H'=>[199],rt:=Q} $a H)|`([201,$a])=>`(absurd $a (Nat.not_lt_zero _))|`([202,$a])=>`(nh (n:=0) $a ?_)
local macro_rules|`([203,$a])=>`(at_of (j:= $a) rfl rfl)|`([204,$a])=>`(PE X (.Call (.Name x p) (e::es) [] pos) $a)|`([205,$a])=>`(bj RS [273] $a (statement m ts))|`([206,$a])=>`(S.block _ _ _ $a)|`([207,$a])=>`(uH X pins $a b)|`([208,$a])=>`(wpAny_setState_of ho hd $a ?_)|`([209,$a])=>`(H=H'/\∃n:Nat,$a)|`([210,$a])=>`(m=r.length/\[90]<=fu/\ $a)|`([211,$a])=>`(Cm _ _ _ _ $a)|`([212,$a])=>`(CN.gG (CN.nX n) home lv st t.parts $a)|`([213,$a])=>`(gA T.M GI hr rfl T.mC T.b .nil ao $a)|`([214,$a])=>`(K.lookup f=some ⟨oc,od,.func $a,vY⟩)|`([215,$a])=>`(eX (P:=P) (w:= $a) R)|`([216,$a])=>`([2,t.kind,$a])|`([217,$a])=>`(∀p∈aU,p.2≠$a)|`([218,$a])=>`([34,a8,R.ml,$a])|`([219,$a])=>`(.ins c.SC B3 $a)|`([220,$a])=>`(TK prog w $a k x)|`([221,$a])=>`([5,[397],v= .cg,$a])|`([222,$a])=>`(hb pins s1 σ H1 $a I1 q1)
local macro_rules|`([223,$a])=>`(List.mem_append_right _ $a)|`([224,$a])=>`(wpAny_specialOf hT $a ?_)|`([225,$a])=>`(∀x c,[335,x]-> $a)|`([226,$a])=>`(ji CC TC C l all c H E $a q)|`([227,$a])=>`($a=some .local)|`([228,$a])=>`(h.ch (Ch.weak λb e=> $a))|`([229,$a])=>`(($a).filterMap Ev.asUse)|`([230,$a])=>`(Nat.le_add_right _ $a)|`([231,$a])=>`(Codec.encAll $a a)|`([232,$a])=>`(runEnd t.mask $a)|`([233,$a])=>`([107,λvs H1=> $a])|`([234,$a])=>`(List ($a×Value))|`([235,$a])=>`(absurd $a [230])|`([236,$a])=>`(aS.made hx Dz $a)|`([237,$a])=>`(.inl [18,λl H' hl e=> $a])|`([238,$a])=>`(λtp ou=>[83,tp,$a])|`([239,$a])=>`([14,vW,$a,[655]])|`([240,$a])=>`(λvs H Q E=>[338,$a])|`([241,$a])=>`([6,[494].takeWhile $a,0])|`([242,$a])=>`(kk _ _ $a True.intro)
local macro_rules|`([243,$a])=>`(⟨_,rfl,_,rfl,t,_,_,_,rfl,rfl,$a,ki hc,rfl,_,rfl,?_⟩)|`([244,$a])=>`(∀(s:Shared) (us:[6]),$a)|`([245,$a])=>`(fL CC TC tl all $a c ts)|`([246,$a])=>`(∀H',([35])->Q $a H')|`([247,$a])=>`($a×[5]->Except Nat (δ×[5]))|`([248,$a])=>`(r.ls _ _ (ne _ [4]) $a)|`([249,$a])=>`(Inv $a pins σ H s)|`([250,$a])=>`(qS (k:= $a) [1074] i hm rfl)|`([251,$a])=>`(F.len _ _ _ _ $a)|`([252,$a])=>`(AB P w K mg base N qual scope f $a A outer s H E)|`([253,$a])=>`(oo CX P w K mg base N qual scope f $a A outer s H E)|`([254,$a])=>`(evsE $a env k lv)|`([255,$a])=>`(dI (ha pins s σ H _ I h) $a)|`([256,$a])=>`([13,pv 0,$a,pv 2])|`([257,$a])=>`(jW (K:=K) rfl $a rfl)|`([258,$a])=>`(CN.aY (t.names.take $a) (lv+1) w.met st w1)|`([259,$a])=>`([94].takeWhile $a)|`([260,$a])=>`(wN m $a home lv st w)|`([261,$a])=>`(λa p=>Ao c.BC $a a p)|`([262,$a])=>`(cellsFrom $a names acc)
local macro_rules|`([263,$a])=>`(es[$a]?.getD (0,.none))|`([264,$a])=>`(dI (ho pins s σ H _ I h) $a)|`([265,$a])=>`(tD TC C H Q E p $a)|`([266,$a])=>`(absurd e.symm $a)|`([267,$a])=>`(List.mem_append.mpr (.inl $a))|`([268,$a])=>`(List.mem_append.mpr (.inr $a))|`([269,$a])=>`(($a).filterMap Ev.faultKind)|`([270,$a])=>`(Nat.lt_of_lt_of_le hm $a)|`([271,$a])=>`(List.Nodup.length_le_of_subset hm $a)|`([272,$a])=>`(Nat.le_trans I.ok.I0 $a)|`([273,$a])=>`(congrArg Array.toList $a)|`([274,$a])=>`(wpAny_load $a ?_)|`([275,$a])=>`(OY λ_ _ _ _ _ _ _ q=> $a)|`([276,$a])=>`(Heap.get?_push_of_some _ $a)|`([277,$a])=>`((Array.getElem?_eq_some_iff.mp $a).1)|`([278,$a])=>`([3,K.lookup $a])|`([279,$a])=>`(CS prog w $a k a)|`([280,$a])=>`(bj _ _ (Res.bind [4,$a,.number,_,_] f) _)|`([281,$a])=>`(bj _ _ (Res.bind [4,$a,.quoted,_,_] f) _)|`([282,$a])=>`(ij k (A.deeper $a))
local macro_rules|`([283,$a])=>`(λb xs h g=>⟨$a,g⟩)|`([284,$a])=>`([55,c1,λt2 r2 e2 q H2 k2 c2 a2 Ah=> $a])|`([285,$a])=>`(∀(k:Nat) (acc:[24]) (ts:[5]),$a)|`([286,$a])=>`(∀p,[5,p]->Q [162] $a)|`([287,$a])=>`(⟨dx,pl,ul,fl,vl,hl,cK,eK,gN,fM,$a⟩)|`([288,$a])=>`(decide_eq_false λe=> $a)|`([289,$a])=>`(($a).fit T.sz ts.length)|`([290,$a])=>`(($a) a=some [46,n])|`([291,$a])=>`([20,.semi,.ok $a r])|`([292,$a])=>`(bc (v:= .int (-1)) rfl $a [53])|`([293,$a])=>`(BindsTo s fd [49,us] $a)|`([294,$a])=>`([93,$a,ok a _ e])|`([295,$a])=>`($a==NameKind.free&&sc.kind== .function&&sc.names.lookup n==some .cell)|`([296,$a])=>`(∀(ps:[23]) (w:W),$a)|`([297,$a])=>`(cN I q (congrArg not $a))|`([298,$a])=>`(F.okN $a uD [21])|`([299,$a])=>`(($a) sp=some [219,[505]])|`([300,$a])=>`(aA [138] [138] (ai $a))|`([301,$a])=>`([55,hc,λt1 r1 e1 q H1 k1 c1 a1 Gd=> $a])|`([302,$a])=>`(λp=>[5,$a,some p,none])
local macro_rules|`([303,$a])=>`(cF.length<=sizeLine/\[108,a]/\ $a)|`([304,$a])=>`(u.isSet=true/\[8,fj $a u])|`([305,$a])=>`([2,3,fT,jc,["self","kind"],$a])|`([306,$a])=>`([2,3,fF,jv,["self","kind"],$a])|`([307,$a])=>`(λi=>($a :[14]).getD i 0)|`([308,$a])=>`(λi=>($a :List FuncData).getD i bD)|`([309,$a])=>`(dI (ha pos pins s σ H _ I h) λus s1 ⟨vs,H1,I1,r1,q1⟩=> $a)|`([310,$a])=>`([180,$a]=some [4,f])|`([311,$a])=>`(lp t.mask $a p.i p.perturb)|`([312,$a])=>`(∀b o,b≠I->b≠S->([105])-> $a)|`([313,$a])=>`(Got prog w S P val i $a xs)|`([314,$a])=>`(I.base.there b $a e hx)|`([315,$a])=>`(PySem.W.plainGet K C $a=true)|`([316,$a])=>`(λvs H Q _=>∃(G:[18]) (wa a:Addr) (t:CN.T) (home:Nat) (w:W) (lv st:Nat),[426,$a])|`([317,$a])=>`(bf [69,[174,[37]],$a] (ah (aG aH)) aO)|`([318,$a])=>`(vs=[275]/\[144]/\[39]/\ $a)|`([319,$a])=>`(St->Hp-> $a->Prop)|`([320,$a])=>`([2,2,fS,de,["self","kind"],$a])|`([321,$a])=>`(by cases op<;>first|rfl|exact absurd rfl $a)|`([322,$a])=>`(Paired (λ(p:[80]×V) (q:[80]×[493])=> $a) cF xs)
local macro_rules|`([323,$a])=>`(Inv $a [] [331] H s1)|`([324,$a])=>`(aC P w K mg base fi 3 fN jw lS $a)|`([325,$a])=>`(∃(t:Addr) (bs:Bytes),vs=[.ref t]/\[401]/\bs.length<=2000/\ $a)|`([326,$a])=>`(λenv k=>(evsB $a env k lv false []).flatten)|`([327,$a])=>`(wpAny M A $a Q E s)|`([328,$a])=>`(au GA eP rfl R.qd.m R.qd.F.kp R.qd.b .nil a6 (aa (pv 0) (aa (pv 1) $a)))|`([329,$a])=>`(h pins s σ H $a I hw)|`([330,$a])=>`(go $a rfl x H2 xc s2 A0)|`([331,$a])=>`(dI (hi pins s σ H _ I h) λiv s1 ⟨y,H1,I1,ry,q1⟩=>dI (ho pins s1 σ H1 _ I1 q1) $a)|`([332,$a])=>`(PySem.W.nsIn K mainGlobals $a)|`([333,$a])=>`(lZ c G $a wa w lv st dx pl ul fl vl hl cK eK gN fM)|`([334,$a])=>`(⟨.for,x,lv,$a,st⟩)|`([335,$a])=>`(X.env.cells.lookup $a=some c)|`([336,$a])=>`(λcR mV=>[77,r.length,$a])|`([337,$a])=>`(PySem.W.fnOf x $a (il st) (fc st) (ai st) .none kV doc pm an bU ct)|`([338,$a])=>`(∃(l:Addr) (all:[15]) (c:Addr) (k:Kd) (ts:[15]),$a)|`([339,$a])=>`(te lX H3 λy H4=>∃acc,[5,H4 D,.lst acc,acc.length<sizeLine,$a])|`([340,$a])=>`(λlX H2=>wipe lX vs=[274]/\tt lX H2 $a)|`([341,$a])=>`(bj rel' P' (f l r) (g $a))|`([342,$a])=>`(λx y H Q=>∃i j,$a)
local macro_rules|`([343,$a])=>`(cellsFrom [64] scope.names $a)|`([344,$a])=>`(m=xs.length -i/\i<=xs.length/\ $a)|`([345,$a])=>`(dI (ha pos pins s σ H _ I h) λus s1 ⟨vs,H1,I1,r,q⟩=> $a)|`([346,$a])=>`(($a).bind λns r=>[20,.rpar,[12,ns]])|`([347,$a])=>`(∀x dx,[5,x]->[5,dx]->dx≠x-> $a)|`([348,$a])=>`(λvs H Q E=>∃(l:Addr) (all:[15]) (c:Addr) (ts:[15]),$a)|`([349,$a])=>`(∃v,o=some (some v)/\ $a)|`([350,$a])=>`(mv λH' a dx s3 ha=>q H' a [403] $a)|`([351,$a])=>`(∃W:Nat->[10,Nat],(∃m,W 0 m (upd H1 D [106]))/\∀i m H,$a)|`([352,$a])=>`(GZ CC TC C l all c H E $a λns H'=>∀pl,[5,pl]->cj H' pl ns->Q (.ref pl) H')|`([353,$a])=>`(ho $a List.mem_cons_self)|`([354,$a])=>`(s.heap.FunFrames X.base $a)|`([355,$a])=>`(I.kept (t':=s.toks) $a)|`([356,$a])=>`(wpAny_pyIter_list $a ?_)|`([357,$a])=>`(List.mem_cons_of_mem _ $a)|`([358,$a])=>`(congrArg List.length $a)|`([359,$a])=>`(wpAny_holding (wpAny_bind $a))|`([360,$a])=>`(List.Pairwise.imp_of_mem ?_ $a)|`([361,$a])=>`(wk.places.filter λp=> $a)|`([362,$a])=>`(carriedByValue $a=true)
local macro_rules|`([363,$a])=>`($a=s.heap.objs.size+1)|`([364,$a])=>`(wpAny_bind (m:= $a) [51])|`([365,$a])=>`(PySem.W.methodObj [110] $a)|`([366,$a])=>`(⟨plainId_quiet PySem.F.plain_max_loop _,$a⟩)|`([367,$a])=>`(∀(k:Nat) (acc:[23]) (ts:[5]),$a)|`([368,$a])=>`(Nat.le_trans [522] $a)|`([369,$a])=>`(λD σ H=>te σ H $a)|`([370,$a])=>`(λz=>hh (decide_eq_true $a))|`([371,$a])=>`(s.heap.objs.size<= $a)|`([372,$a])=>`(PySem.W.callWith_K (h₀:=X.base) I.ok.mod.MY hk $a he bQ)|`([373,$a])=>`(wpAny_isInstance $a isSubtype_tuple_tuple ?_)|`([374,$a])=>`(upd H s.heap.objs.size $a)|`([375,$a])=>`(aJ (eW cI [37] $a [157]) rfl)|`([376,$a])=>`(λi H' _ z=>bP.of (z.1 _ _ $a))|`([377,$a])=>`(∀b∈[pl,ul,fl,vl,hl],$a)|`([378,$a])=>`(λi H x H'=>H'=H/\ $a)|`([379,$a])=>`(codeAny [158] A $a R s)|`([380,$a])=>`([342,x=[112]/\y= .int j/\Q (.int $a) H])|`([381,$a])=>`(List.map_congr_left λk hk=>zb $a)|`([382,$a])=>`(($a).trans (e1:=[]) ?_)
local macro_rules|`([383,$a])=>`(.Constant .none j $a)|`([384,$a])=>`(∀(m:Nat) (p:Probe),$a)|`([385,$a])=>`(Heap.SameBut.update _ $a _)|`([386,$a])=>`(λcR mV ⟨e1,e2⟩=> $a)|`([387,$a])=>`(VanbkcNeutral.encode (Vanbkc.withGood bs $a))|`([388,$a])=>`(List.length_filter_le (λp:Pl=> $a) wk.places)|`([389,$a])=>`([4,$a,.name,_,none])|`([390,$a])=>`([19,[239],[50,.p,bG $a fq]])|`([391,$a])=>`(bf $a (ah (f' R.G.O R.G.FB rfl)) aO)|`([392,$a])=>`(∀b o,[3,H b]-> $a->[3,H' b])|`([393,$a])=>`([2,3,f,fd,["text","start"],$a])|`([394,$a])=>`(∀k,u.bound=some k-> $a)|`([395,$a])=>`(Piece w (wN (m+1) (lq $a) home lv st w) _ _ _ _)|`([396,$a])=>`(∀w' s',[17,H,s']-> $a->Q w' s')|`([397,$a])=>`(ir (t:=lq $a) (lv:=lv) (st:=st))|`([398,$a])=>`(Heap.SameBut.update h' S (Obj.mapSeq λ_=> $a))|`([399,$a])=>`(sW (λσ H'=> $a) ?_ (λafter=> ?_))|`([400,$a])=>`(⟨λb xs e g=> $a,λb xs e=>e,λ_ _ _ _ _ _ _ _ _ e=>e⟩)|`([401,$a])=>`(λb hb z=>d.g b hb $a)|`([402,$a])=>`(λσ H Q=>td σ H λx H1=> $a)
local macro_rules|`([403,$a])=>`(show aL f v ((k,x)::r)= $a from rfl)|`([404,$a])=>`(∃as:[14],H l=some [181]/\ $a)|`([405,$a])=>`((($a).wr (ys:=[33,[V.ref b],b6]) Kb).on)|`([406,$a])=>`([2,1,fA,je,["self","steps"],$a])|`([407,$a])=>`(∀b u,b≠e->[28,$a]->[28,[89]])|`([408,$a])=>`(ER NC x dx (λH l=> $a))|`([409,$a])=>`([91,ni (k:= $a) c1 q [1081]])|`([410,$a])=>`(Ed PySem.F.plainAttrs_list PySem.F.slot_list_pop PySem.F.type_list_pop DU $a)|`([411,$a])=>`(aD (pv 0) R.Z.cl R.Z.mS GS og R.Z.bS .nil ao $a)|`([412,$a])=>`(λcR H'=>H=H'/\cR= $a)|`([413,$a])=>`(ah (aF (au GN hr rfl R.node.m R.node.F.kp R.node.b .nil a6 $a)))|`([414,$a])=>`((numbered $a l).flatMap λx=>(kindsOf x.2).map λk=>(x.1,k))|`([415,$a])=>`(Ff (s:=[125]) e c d [3] $a)|`([416,$a])=>`(∀(i j:Int) (t u:Tok) (s:Shared) (Q:[27]) (E:[27]),$a)|`([417,$a])=>`(∀(s:Shared) (H:Hp) (C:Addr) (cl:[114]) (fp:[14]),$a)|`([418,$a])=>`(JF lk xZ S len λA outer s H vs Q E hr vf=> $a)|`([419,$a])=>`([56,au GG jx rfl Y.dG.m Y.dG.F.kp Y.dG.b .nil a6 $a])|`([420,$a])=>`(∀i,$a<=i->i<xs.size->j<=[517])|`([421,$a])=>`(pj hf home lv st t.parts _ ho.p [2] $a)|`([422,$a])=>`(∀(bU:Value) (A:Around) (outer:[123]) (s:Shared) (H:Hp) (vs:[13]) (Q:VK) (E:XK),$a)
local macro_rules|`([423,$a])=>`(Uy c G $a wa w k lv st dx pl ul fl vl hl cK eK gN fM)|`([424,$a])=>`(upd H8 wa (.ins c.WC uX (ui BM Cu Di EJ CH [2,[496].met] $a [140])))|`([425,$a])=>`(I.turned (t':=s.toks) (λb o hb e=> $a) f0 f1 f3 f4 f5)|`([426,$a])=>`(vs=[[163],[10],[6,home]]/\[182]/\[656]/\ $a)|`([427,$a])=>`(dI [222,_] λu s2 ⟨y,H2,I2,r2,q2⟩=> $a)|`([428,$a])=>`(us.length=ps.length-> $a=pure [400])|`([429,$a])=>`(∃u∈w.uses,u.st=j/\u.isSet=true/\ $a)|`([430,$a])=>`(∃Nx:Hp->Prop,[1088]/\∀x H',($a).M7 i H x H'->[1086])|`([431,$a])=>`(Rm ha hb I h λv u s2 x y H2 I2 rx ry q=> $a)|`([432,$a])=>`([427,dI (ho pins s2 σ H2 x y v u _ I2 r1 r2 q2) $a])|`([433,$a])=>`(($a).holding.take w.holding.length)|`([434,$a])=>`(λvs H Q E=>∃(t:Addr) (bs:Bytes) (p:Nat) (c:UInt8),$a)|`([435,$a])=>`(∃(a:Addr) (xs:[148]) (k:NK.PK) (kb:Addr),$a)|`([436,$a])=>`(Codec.app PySem.Challenge.rw_cellnames_s01_faults.args $a a)|`([437,$a])=>`(⟨dx,pl,ul,fl,vl,hl,cK,_,gN,fM,$a⟩)|`([438,$a])=>`(∃(t:Addr) (bs:Bytes) (p:Nat),vs=[12,t,.int p]/\[401]/\ $a)|`([439,$a])=>`(eS .x8 (parts:=[cO c]) (blocks:= $a))|`([440,$a])=>`([348,vs=[.ref c]/\[39]/\all.length<=2000/\ $a])|`([441,$a])=>`(λb o _ _ hc e _=>⟨o.slots,$a⟩)|`([442,$a])=>`(λσ H Q=>ty σ H λy H1=>td σ H1 λx H2=>∃a o,x=[10]/\ $a/\Q (.bl o.isSome) H2)
local macro_rules|`([443,$a])=>`(λvs H Q=>∃(p:Addr) (xs:[85]),$a)|`([444,$a])=>`(w.places.length< ($a).places.length)|`([445,$a])=>`(($a).places.length=w.places.length+1)|`([446,$a])=>`(aa (pv 0) [13,eW cI [77] aH [157],pv 3,$a])|`([447,$a])=>`(∃o es ep t,[88]=some o/\o.ExactSet/\ $a)|`([448,$a])=>`((∀t∈l,rV t)->eY l<=N->iB N w->iB N $a)|`([449,$a])=>`([36,($a).mono (Nat.le_trans (dh r) h),cP h])|`([450,$a])=>`(Calls.Name_function_global I.ok.kind hg $a hd)|`([451,$a])=>`(wpAny_getItem_of $a dd.mapOf hw [827])|`([452,$a])=>`(wpAny_in_of (vx ry) $a dd.mapOf ?_)|`([453,$a])=>`(∀(cs:List Codec) (a:Codec.denoteAll cs),$a)|`([454,$a])=>`((jg t' $a (t'.probeStart [263,y.2].1)).j)|`([455,$a])=>`(wpAny_callSpecial?_slot (name:=Str.ofString "__next__") hit.typeIs pJ $a)|`([456,$a])=>`((ys.map [44]).Pairwise (λx y=> $a=true))|`([457,$a])=>`(h.ch (NC:=0) (G:=λ_=>True) (G':=λ_=>True) $a)|`([458,$a])=>`(∃(fu:Nat) (acc:[29]) (r:[15]) (as:[14]),$a)|`([459,$a])=>`(∃(p n:Nat) (acc:[15]) (as:[14]) (v5:[71]),$a)|`([460,$a])=>`(vs=[[10]]/\bP K H1 a xs/\R $a H1)|`([461,$a])=>`((jg {[91] with plain:=pl} $a (SetTable.probeStart {[91] with plain:=pl} y.2.1)).j)|`([462,$a])=>`(∃A B,r=A++p::B/\∃q∈$a,[828])
local macro_rules|`([463,$a])=>`(.inl [3,yu,.inr (kS t.kind),R.kMk,$a])|`([464,$a])=>`([107,λxs H1=>[184,∀p,H1 p=none->Q [162] $a]])|`([465,$a])=>`(au GP hr rfl dP.m dP.F.kp dP.b .nil a6 $a)|`([466,$a])=>`([161]/\[5,H' pl,[181],[30,λa t=>[56,GX H pl,H'],acc],[226,$a]])|`([467,$a])=>`([5,H b,.lst zs,[24,xs.length+zs.length],$a])|`([468,$a])=>`((([322].eD rfl hf).1).weak (k':=0) $a [8])|`([469,$a])=>`(($a).take (HT.BW xs.length xs.length hi -[822]))|`([470,$a])=>`(⟨_,rfl,l,all,c,$a,ts,rfl,hc,h2,[176,q H' k' c' a ta]⟩)|`([471,$a])=>`(opOf k $a=[4,strength p.2,k,some (uc p.2),none])|`([472,$a])=>`(∀(k:Nat) (x:T) (gI:[281]) (ts:[5]),$a)|`([473,$a])=>`(∀(k:Nat) (ns:[23]) (ps:[24]) (ts:[5]),$a)|`([474,$a])=>`(∀(n:Nat) (t:T) (home lv st:Nat) (w:W),$a)|`([475,$a])=>`(wpAny_loadName_local I.ok.kind hk hn hm $a)|`([476,$a])=>`(wpAny_loadName_cell I.ok.kind hk hc Fo $a)|`([477,$a])=>`(fin (v:=V.cg) (u:=Value.none) J rfl $a)|`([478,$a])=>`(wpAny_in_heap [662] (qp I.cH eb) $a dd ?_)|`([479,$a])=>`(entryFor_alias (id':= $a) [515] rfl [32] [515])|`([480,$a])=>`(o.data= .dict es ep/\es.toList= $a/\[671])|`([481,$a])=>`(∀y∈scope.names,y.2= .free->∃c,$a)|`([482,$a])=>`(λv dZ=>[19,[52,b],λu oq=> $a,dZ])
local macro_rules|`([483,$a])=>`(H pl=some (.lst [336])/\cK.length=ps.length/\ $a)|`([484,$a])=>`(∃vs:[6],vs.length<=sizeLine/\[415]/\ $a)|`([485,$a])=>`(BI [80,kj,R.ms] $a aH [21,rfl,rfl,rfl])|`([486,$a])=>`(ah (aF (au GB hr rfl R.block.m R.block.F.kp R.block.b .nil a6 $a)))|`([487,$a])=>`([92,iq k]\/k= .iJ\/k= .name\/k= .dy-> $a)|`([488,$a])=>`(λx y H Q=>∃p xs i v,x=[162]/\y=[112]/\ $a/\MQ xs i=some v/\Q v H)|`([489,$a])=>`(∀ {binds:[413]} {m:[16]},(∀v,(x,v)∉binds)-> $a=m x)|`([490,$a])=>`((a/\a1)\/(b/\b1)\/(c/\c1)\/(d/\d1)\/(e/\ $a))|`([491,$a])=>`([16,i7 (xS rfl hu) rfl ms PyProof.Rows.boot_set $a])|`([492,$a])=>`(⟨s1.heap.objs.size,[s1.heap.objs.size],_,_,H1,rfl,I1.kept (t':=s1.toks) [669],$a,[416],[279],q⟩)|`([493,$a])=>`(∀(l:Stmts) (env:[327]) (n lv:Nat) (top:Bool) (here:[23]),$a)|`([494,$a])=>`(∀i b,P i [25]->TK prog w $a (val i) b)|`([495,$a])=>`([120,mt,[16,wc zW (pv 0) (rk (pv 1)) (rk $a)]])|`([496,$a])=>`((CN.fits 380).stmts .fin ts _ _ $a)|`([497,$a])=>`(aC P w K mg base CX k f fd ps $a)|`([498,$a])=>`(eQ (au GR hr rfl dR.m dR.F.kp dR.b .nil a6 $a))|`([499,$a])=>`(λvs H Q _=>∃(pl:Addr) (ps:[36]) (cK:[14]),vs=[.ref pl]/\[5,H pl,.lst [336],Paired [261,H] cK ps,$a])|`([500,$a])=>`(s'.os=s.os/\AllBare s'.gens/\Un (nW outer) [] H H' s.heap s'.heap/\ $a)|`([501,$a])=>`(au GJ Ku rfl R.cZ.m R.cZ.F.kp R.cZ.b .nil a6 [13,pv 4,pv 5,$a])|`([502,$a])=>`((evsB l $a w.places.length lv false []).flatten)
local macro_rules|`([503,$a])=>`(∀(pos:Pos) (pins:[17]) (s:Shared) (σ:St) (H:Hp) (Q:[10,[13]]),$a)|`([504,$a])=>`([668]+1<=n/\[526]=cat acc (tokensFrom n p [94])/\acc.length<=p/\ $a)|`([505,$a])=>`(∀(pins:[17]) (s:Shared) (σ:St) (H:Hp) (x y:V) (v u:Value) (Q:VK),$a)|`([506,$a])=>`(∀(A:Around) (outer:[123]) (s:Shared) (H:Hp) (vs:[13]) (Q:VK) (E:XK),$a)|`([507,$a])=>`(λiv s2 ⟨y,H2,I2,ry,a,$a,ex,g,q2⟩=> ?_)|`([508,$a])=>`(ji CC TC C l all c H E $a (λt H'=>∀a,[420]))|`([509,$a])=>`(bN K6 c6 [76] (NN K6 c6) (gB (iG.one so (aV K5 c5 so) (tb5.dH K4 c4))) ((nm.keep c2 (k3.trans [527])).sm s6) $a rfl [4] (by simpa using hb5))|`([510,$a])=>`(⟨_,rfl,a,_,oW,_,_,rfl,hN5,R.N.cl,R.N.n4,[421],_,rfl,$a⟩)|`([511,$a])=>`(after _ _ ⟨n,sd,xo,hn,hsd,rfl,s1,hL,e,$a⟩)|`([512,$a])=>`(⟨$a,rfl,e0.bare,Un.kept hk,[38,x.toInCall.ns,λi y v h1 h2 h3=> ?_],λy c h=>[34,x.cell y c h],e0.cH.fresh [8],λy c h=> ?_,λp hp=>absurd (show p∈([]:[17]) from hp) [4],e0.cH.kept hk,?_⟩)|`([513,$a])=>`(qL pins s4 σ H4 y z' u w' $a I4 r2 r4 q4)|`([514,$a])=>`(All P w K mg base C CC TC NC fa fm n k $a)|`([515,$a])=>`(⟨rfl,_,rfl,b,_,$a,_,_,rfl,g1,R.B.cl,[82],rfl,rfl,_,rfl,?_⟩)
local macro_rules|`([2,$a,$b])=>`(decide ($a= $b))|`([3,$a,$b])=>`([2,$a,i,$b])|`([4,$a,$b])=>`($a-> $b->Prop)|`([5,$a,$b])=>`(H $a=some $b)|`([6,$a,$b])=>`(($a).length= $b)|`([8,$a,$b])=>`(H' $a=some $b)|`([9,$a,$b])=>`(.ins $a dx $b)|`([10,$a,$b])=>`(decide ($a<= $b))|`([11,$a,$b])=>`(some ($a,$b))|`([12,$a,$b])=>`([.ref $a,$b])|`([13,$a,$b])=>`(dw $a $b (λz=>nomatch z))|`([14,$a,$b])=>`([3,2,$a,$b])|`([15,$a,$b])=>`((.inr $a,.int $b))|`([16,$a,$b])=>`([3,1,$a,$b])|`([17,$a,$b])=>`(Inv X pins σ $a $b)|`([18,$a,$b])=>`(aa $a [16,$b])|`([19,$a,$b])=>`(bf $a [17,$b] aO)|`([20,$a,$b])=>`((tk $a r).bind λ_ r=> $b)|`([21,$a,$b])=>`(⟨$a,$b,?_⟩)|`([22,$a,$b])=>`(bZ (λ_=> $a) λ_=> $b)
local macro_rules|`([23,$a,$b])=>`(bc (v:= .int $a) rfl $b [53])|`([24,$a,$b])=>`(($a== $b)=false)|`([25,$a,$b])=>`(Paired.cf $a λa p z=> $b)|`([26,$a,$b])=>`(bM NC G H $a $b)|`([27,$a,$b])=>`([4,$a,[84],$b])|`([28,$a,$b])=>`(bC (λ_=> $a) λ_=> $b)|`([29,$a,$b])=>`(az $a λ_ r _ h=> $b)|`([30,$a,$b])=>`(Paired $a as $b)|`([31,$a,$b])=>`(.inl ⟨$a,$b⟩)|`([32,$a,$b])=>`(($a).length<= $b)|`([33,$a,$b])=>`($a++[V.ref $b])|`([34,$a,$b])=>`([57,ae $a $b])|`([35,$a,$b])=>`(xW $a m (bE $b).1)|`([36,$a,$b])=>`(az $a λa r _ h=> $b)|`([37,$a,$b])=>`(h ($a,$b) [3])|`([38,$a,$b])=>`(⟨_,$a,$b⟩)|`([39,$a,$b])=>`(bx (s:= $a) (k:= $b) [3])|`([40,$a,$b])=>`(($a).bind λl r=> $b)|`([41,$a,$b])=>`([44,$a,decide_eq_true $b])|`([42,$a,$b])=>`(($a++[$b]).length)
local macro_rules|`([43,$a,$b])=>`(iG NC G H $a $b)|`([44,$a,$b])=>`(show $a=true from $b)|`([45,$a,$b])=>`({cls:= .type $a,data:= $b})|`([46,$a,$b])=>`(if $a then $b else none)|`([47,$a,$b])=>`([36,($a).mono h,$b])|`([48,$a,$b])=>`([44,$a,decide_eq_true $b])|`([49,$a,$b])=>`(bC (λh=> $a) λ_=> $b)|`([50,$a,$b])=>`([26,$a,[103],$b])|`([51,$a,$b])=>`(($a).bind λe r=> $b)|`([52,$a,$b])=>`(⟨_,rfl,$a,$b⟩)|`([53,$a,$b])=>`(Am (λH l=> $a) H $b)|`([54,$a,$b])=>`(aB (o:= .lst $a) $b)|`([55,$a,$b])=>`(⟨_,rfl,l,all,c,_,rfl,$a,h2,q.bind $b⟩)|`([56,$a,$b])=>`(gj NC $a $b a t)|`([57,$a,$b])=>`(($a).lookup ($b :Str))|`([58,$a,$b])=>`(kR P w K $a $b)|`([59,$a,$b])=>`(if $a then $b else 0)|`([60,$a,$b])=>`(["cursor",$a,$b])|`([61,$a,$b])=>`([332,$a]=some [4,$b])|`([62,$a,$b])=>`(r.ls _ _ (Ne.symm $a) $b)
local macro_rules|`([63,$a,$b])=>`(decide ($a∈$b))|`([64,$a,$b])=>`([66,[2,[178],V.str $a],$b])|`([65,$a,$b])=>`(Inv X pins σ $a $b)|`([66,$a,$b])=>`(show[8,$a] from $b)|`([67,$a,$b])=>`(ah (aF [78,$a,$b]))|`([68,$a,$b])=>`(∀vs H Q E,$a->vs.length= $b)|`([69,$a,$b])=>`(PW.pt (kg $a (iQ $b)))|`([70,$a,$b])=>`(Paired.cf $a λa n z=> $b)|`([71,$a,$b])=>`(bG $a (bG $b fq))|`([72,$a,$b])=>`(Piece w $a no w.holding $b st)|`([73,$a,$b])=>`([6,[141,$a],$b])|`([74,$a,$b])=>`([36,$a,($b).mono h])|`([75,$a,$b])=>`(aK gK $a (fk $b) rfl)|`([76,$a,$b])=>`(⟨rfl,$a,$b⟩)|`([77,$a,$b])=>`(∃m',m'< $a/\ $b)|`([78,$a,$b])=>`(gu PySem.F.plainAttrs_list PySem.F.slot_list_append PySem.F.type_list_append bJ $a [16,$b])|`([79,$a,$b])=>`(Paired.cf $a λa t z=> $b)|`([80,$a,$b])=>`(bc (v:= .ref $a) rfl $b rfl)|`([81,$a,$b])=>`(⟨_,rfl,a,_,$a,_,_,rfl,$b,R.N.cl,R.N.n1,[650],rfl,_,rfl,?_⟩)|`([82,$a,$b])=>`((tk $a ts).bind λ_ r=> $b)
local macro_rules|`([83,$a,$b])=>`(⟨$a,$b,rfl,.inr (kT.of ag),rfl,rfl,_,rfl,?_⟩)|`([84,$a,$b])=>`(max ($a).depth $b)|`([85,$a,$b])=>`(PySem.W.keepIn $a $b=true)|`([86,$a,$b])=>`([8,$a,.lst $b])|`([87,$a,$b])=>`(.inr ⟨$a,$b⟩)|`([88,$a,$b])=>`(uj X (compareOp $a) $b)|`([89,$a,$b])=>`(uj X (compareOp $a) $b)|`([90,$a,$b])=>`(bj RE [273] $a (line m $b ts))|`([91,$a,$b])=>`(cW (i:= $a) $b rfl [173])|`([92,$a,$b])=>`(.tup [[13,$a],$b])|`([93,$a,$b])=>`(show eC P w H h a $a from $b)|`([94,$a,$b])=>`(∃a dx fs,V.ref c=[104]/\H a=some [48,CC]/\[138,$a]=none/\ $b)|`([95,$a,$b])=>`(mg $a=some (.ref $b))|`([96,$a,$b])=>`(Piece w $a S w.holding $b st)|`([97,$a,$b])=>`(o3 (i:= $a) $b rfl [173] aH qm)|`([98,$a,$b])=>`(($a).bind λx r=> $b)|`([99,$a,$b])=>`((tk $a ts).bind λl r=> $b)|`([100,$a,$b])=>`(bj rel' P' ((tk $a ts).bind f) ($b>>=g))|`([101,$a,$b])=>`([4,[31],$a,_,$b])|`([102,$a,$b])=>`((($a).takeWhile $b).length)
local macro_rules|`([103,$a,$b])=>`(⟨_,rfl,$a,_,rfl,$b⟩)|`([104,$a,$b])=>`(λ_ _ _ _ _=>[91,$a,$b])|`([105,$a,$b])=>`({D with nx:= $a,ct:= $b,bk:=D.nx})|`([106,$a,$b])=>`(D K mg fa fm $a $b [95])|`([107,$a,$b])=>`($a=some .cell\/ $b=some .free)|`([108,$a,$b])=>`(f6 $a _ _ $b True.intro)|`([109,$a,$b])=>`(lQ.some_of (v:=v) (o:= $a) $b)|`([110,$a,$b])=>`(aB (o:= .lst $a) $b)|`([111,$a,$b])=>`(([9])->t σ H Q->[19,$a,$b,s])|`([112,$a,$b])=>`([25,$a,z.ke (Keeps.gy $b)])|`([113,$a,$b])=>`([10,$a,c]&&[10,c,$b])|`([114,$a,$b])=>`(all.length<=2000/\[119,m $a ts,$b])|`([115,$a,$b])=>`(bP.of (z.2.1.ch.ls _ _ $a $b).1)|`([116,$a,$b])=>`(⟨$a,I.os,I.bare,I.base,I.loc,I.cell,I.free,I.mj,$b,I.cH,I.len⟩)|`([117,$a,$b])=>`(envOfC qual scope $a f $b)|`([118,$a,$b])=>`([[4,t],[495],$a,$b,none])|`([119,$a,$b])=>`(ji CC TC C l all c H E $a λt H'=>∀a,$b)|`([120,$a,$b])=>`(i7 iI rfl $a PyProof.Rows.boot_tuple $b)|`([121,$a,$b])=>`(PySem.W.hideAll_get _ $a $b)|`([122,$a,$b])=>`(decide_eq_decide.mpr ⟨$a,$b⟩)
local macro_rules|`([123,$a,$b])=>`(eS $a (parts:= $b) (name:=[142]))|`([124,$a,$b])=>`(wpAny_pure ⟨plainId_quiet $a _,$b⟩)|`([125,$a,$b])=>`(entryFor table $a=some $b)|`([126,$a,$b])=>`(∀b xs,$a=some [119]->($b) b=some [119])|`([127,$a,$b])=>`([82,$a,(tk .name r).bind λx r=> $b])|`([128,$a,$b])=>`(wpAny_forIn_list _ (λrest r s'=>r.1=none/\s'=s/\∀v∈rest,$a) _ ?_ ?_ _ _ [62,$b])|`([129,$a,$b])=>`(mT _ _ _ _ ag rfl $a $b)|`([130,$a,$b])=>`(Nat.ne_of_lt (Nat.lt_of_lt_of_le $a $b))|`([131,$a,$b])=>`(bI $a $b w.met lv st [] w.block)|`([132,$a,$b])=>`(λb xs h _=>jZ (da $a (f:= $b) rfl) b xs h)|`([133,$a,$b])=>`(eS .record (parts:= $a) (names:= $b))|`([134,$a,$b])=>`([66,$a,decide_eq_false $b])|`([135,$a,$b])=>`(List.mem_map.mpr ⟨$a,$b,rfl⟩)|`([136,$a,$b])=>`([2,1,$a,$b,[138],II letter])|`([137,$a,$b])=>`(∀b xs,($a) b=some [119]->($b) b=some [119])|`([138,$a,$b])=>`([48,[10,[2,$a],[2,$b]],[2]])|`([139,$a,$b])=>`(pT X (.builtin $a) (λxs H Q=> $b))|`([140,$a,$b])=>`(wpAny_mono $a $b λ_ _ x=>x)|`([141,$a,$b])=>`([9,ll (k:= .lpar) c2 $a $b])|`([142,$a,$b])=>`(∀o,[3,h.get? $a]->[3,h'.get? $b])
local macro_rules|`([143,$a,$b])=>`([34,[277],ae [408] (ae $a (ah $b))])|`([144,$a,$b])=>`(PE X (.Constant $a j pos) (tC $b))|`([145,$a,$b])=>`((zF k (b:= $a) [2]).dvd_of_dvd_mul_right $b)|`([146,$a,$b])=>`(Piece w $a [519] w.holding $b st)|`([147,$a,$b])=>`(∀(l: $a),∀t∈$b,∀n,t.depth<=n->WF n t)|`([148,$a,$b])=>`($a<=9000/\∀(H':Hp) (l:Addr),([35])->[5,l]->lH H' l $b->Q [40] H')|`([149,$a,$b])=>`(⟨_,rfl,l,all,c,_,rfl,$a,mi q $b⟩)|`([150,$a,$b])=>`(vM (f:=f) $a M.makes M.init (beq_iff_eq.mp M.fn) (codeAny_mono $b λr s' xp=> ?_))|`([151,$a,$b])=>`([29,$a,[29,[184],[29,($b).mono h,[29,[184],cP h]]]])|`([152,$a,$b])=>`(Piece w (wN (n+1) $a home lv st w) no w.holding $b st)|`([153,$a,$b])=>`({s with heap:=s.heap.update l $a,toks:= $b})|`([154,$a,$b])=>`(Heap.get?_update_self (Obj.mapSeq $a) $b rfl)|`([155,$a,$b])=>`(∃(n:Nat) (sd:Bytes),$a=[342]/\p+1<=n/\[153,$b])|`([156,$a,$b])=>`([6,.comma,[40,tk $a [61],$b],.ok acc ts])|`([157,$a,$b])=>`(Rd H a $a\/∃(o:Obj) (bo:[93]) (n:Nat),$b)|`([158,$a,$b])=>`((Except.error ($a,$b):Except [113] Vanbka.Stmts))|`([159,$a,$b])=>`([82,$a,(F.expr r).bind λc r=>[98,F.block r,$b]])|`([160,$a,$b])=>`(swapsWith $a (some $b) pos.line X.env=pure false)|`([161,$a,$b])=>`(λσ H R=>tl σ H λx H1=>∃a,x=[10]/\(∃xs,$a)/\R $b H1)|`([162,$a,$b])=>`(⟨(NL.ch.trans $a).trans (Ch.ks qr (da ag rfl) [132,ag,"place_end"]),λb bdx fp fu pe ue hb=> ?_,λb e=> $b⟩)
local macro_rules|`([163,$a,$b])=>`(∀(k:Nat) (acc:[23]) (ts:[5]) (m:Nat),ts.length+1<=k->ts.length<=m->bj (λl a=>a=acc++l) (At ts 0 0) $a $b)|`([164,$a,$b])=>`(∃(k:Nat) (acc:[23]) (r:[15]),$a=r.length/\[90]<=k/\ $b)|`([165,$a,$b])=>`(∀ {P:[19]} {vs:[6]} {i:Nat} {m:[16]},P.Nodup->[3,P,x]->[3,vs,v]-> $a-> $b=some v)|`([166,$a,$b])=>`((∃cF k,$a/\y=kV k/\r=[237])\/∃cF k b,$b/\y=[25]/\H b=some (.tup (k.map kV))/\r=[237])|`([167,$a,$b])=>`(⟨_,rfl,c,dx,_,rfl,nY,$a,l,all,c,$b,ts,rfl,[3],hc,[667],[156]⟩)|`([168,$a,$b])=>`(bB (G:=λb (p:[113])=>($a) b=some [1083]) (kp _ _ ag) (Paired.cf R9 λb p z=>kp _ _ $b))|`([169,$a,$b])=>`(λvs H Q E=>∃(t rd:Addr) (bs:Bytes) (p:Nat),vs=[.ref t,.int p,.ref rd]/\[401]/\[5,H rd,.dT ia,$a,bs.length<=2000/\[265,$b]])
local macro_rules|`([2,$a,$b,$c])=>`($a[$b]? =some $c)|`([3,$a,$b,$c])=>`(aI (i:= $a) $b rfl [173] $c)|`([4,$a,$b,$c])=>`(aA $a $b (ai (top $c)))|`([5,$a,$b,$c])=>`(if $a=true then $b else $c)|`([6,$a,$b,$c])=>`([4,[12],$a,$b,$c])|`([8,$a,$b,$c])=>`(upd $a $b (.lst $c))|`([9,$a,$b,$c])=>`(ot K $a $b $c f fd)|`([10,$a,$b,$c])=>`(aL $a (.int $b) $c)|`([11,$a,$b,$c])=>`(show $a= $b from $c)|`([12,$a,$b,$c])=>`([9,[18,$a,$b,$c]])|`([13,$a,$b,$c])=>`(aa $a [18,$b,$c])|`([14,$a,$b,$c])=>`(aK $a $b $c (aZ _))|`([15,$a,$b,$c])=>`(⟨$a,$b,$c,?_⟩)|`([16,$a,$b,$c])=>`([332,$a]=some (some (.int $b $c)))|`([17,$a,$b,$c])=>`(aC P w K mg base [62] (k+1) (fa $a) (fm $b) [84] (ow CC TC C NC $c))|`([18,$a,$b,$c])=>`(bq (k:= $a) $b q $c)|`([19,$a,$b,$c])=>`(wpAny [271] X.A $a $b X.xe $c)|`([20,$a,$b,$c])=>`([66,[2,$a,$b],decide_eq_false $c])|`([21,$a,$b,$c])=>`(⟨$a,$b,rfl,$c⟩)|`([22,$a,$b,$c])=>`(⟨_,rfl,$a,rfl,$b,$c⟩)
local macro_rules|`([23,$a,$b,$c])=>`(ae $a (ae $b [17,$c]))|`([24,$a,$b,$c])=>`([22,$a,[22,$b,$c]])|`([25,$a,$b,$c])=>`(aA $a $b (ai [172,$c]))|`([26,$a,$b,$c])=>`(cD R.Y.M GN j6 rfl R.Y.mC (R.Y.kb $a) a6 $b $c)|`([27,$a,$b,$c])=>`(cv (s:= $a) [3] $b $c)|`([28,$a,$b,$c])=>`([9,ll (k:= $a) $b $c [156]])|`([29,$a,$b,$c])=>`((($a).trans $b).trans $c)|`([30,$a,$b,$c])=>`(($a) $b=some (.lst $c))|`([31,$a,$b,$c])=>`(nB hu [80,$a,$b] $c [157])|`([32,$a,$b,$c])=>`(cv (s:= $a) [3] $b $c)|`([33,$a,$b,$c])=>`(aC P w K mg base fi k (fa $a) (fm $b) [228] $c)|`([34,$a,$b,$c])=>`(bO $a rfl $b PySem.boot_len $c)|`([35,$a,$b,$c])=>`(w.use ⟨$a,$b,$c,lv,st⟩)|`([36,$a,$b,$c])=>`(aC P w K mg base fi (k+1) (fa $a) (fm $b) [228] $c)|`([37,$a,$b,$c])=>`([23,[14,$a,$b],$c,pv 2])|`([38,$a,$b,$c])=>`(List.mem_filterMap.mpr ⟨$a,$b,$c⟩)|`([39,$a,$b,$c])=>`(subscripted $a false $b $c)|`([40,$a,$b,$c])=>`(⟨$a,$b,λ_ _ _ _ _ _ _ _ _ h=> $c⟩)|`([41,$a,$b,$c])=>`(gu PySem.F.plainAttrs_list PySem.F.slot_list_extend PySem.F.type_list_extend $a $b [16,$c])|`([42,$a,$b,$c])=>`(⟨λ_=>True.intro,λ_ _ _ _ _ _ _ _ _=> $a,λ_ _ _ _ _ _ _ _=> $b,λ_ _ _ _ _=> $c⟩)
local macro_rules|`([43,$a,$b,$c])=>`(Heap.get?_update_self $a $b (Obj.isFreed_of_fields $c))|`([44,$a,$b,$c])=>`(∃(dx:Addr) (nd:V) (b:Addr),H a=some [9,$a,$b]/\ $c)
local macro_rules|`([2,$a,$b,$c,$d])=>`(b7 K $a (top $b) $c $d)|`([3,$a,$b,$c,$d])=>`(⟨$a,$b,$c,rfl,$d⟩)|`([4,$a,$b,$c,$d])=>`(if $a= $b then $c else $d)|`([5,$a,$b,$c,$d])=>`($a=some $b/\ $c/\ $d)|`([6,$a,$b,$c,$d])=>`(.inr ⟨$a,$b,$c,$d⟩)|`([8,$a,$b,$c,$d])=>`([8,$a,$b,[33,$c,$d]])|`([9,$a,$b,$c,$d])=>`(au $a hr rfl $b $c $d .nil ao [137])|`([10,$a,$b,$c,$d])=>`(j9 PassesOwn.never rfl (eQ $a) [91,$b,$c] $d)|`([11,$a,$b,$c,$d])=>`(vs= $a/\H x=some [104,$b]/\∀H':Hp,[8,x,[9,$c,$d]]->([402])->[199])|`([12,$a,$b,$c,$d])=>`(wpAny_call_entry $a $b $c ?_ $d)
local macro_rules|`([2,$a,$b,$c,$d,$e])=>`(aC P w K mg base [62] $a $b $c $d $e)|`([3,$a,$b,$c,$d,$e])=>`(ae $a (ae $b (ae $c (ae $d [17,$e]))))|`([4,$a,$b,$c,$d,$e])=>`(pL K $a "__init__" $b [172,$c] $d $e)
local macro_rules|`([2,$a,$b,$c,$d,$e,$f,$g])=>`(⟨$a,$b,$c,rfl,$d,$e,$f,$g⟩)|`([3,$a,$b,$c,$d,$e,$f,$g])=>`(yC (own:= $a) rfl $b $c $d $e $f (λ_ _ _ _ _=> $g))
local macro_rules|`([2,$a,$b,$c,$d,$e,$f,$g,$h,$i,$j,$k,$l])=>`(⟨_,rfl,$a,$b,$c,$d,$e,$f,$g,$h,$i,$j,$k,$l⟩)
local macro_rules|`(tactic|rw[0])=>`(tactic|(simp;omega))|`(tactic|rw[1])=>`(tactic|exact[53])|`(tactic|rw[2])=>`(tactic|(show[24,1];decide))|`(tactic|rw[3])=>`(tactic|obtain⟨m,rfl,hd⟩:=dJ h)|`(tactic|rw[4])=>`(tactic|(rw[ag,List.map_append];rfl))|`(tactic|rw[5])=>`(tactic|obtain⟨m,rfl⟩:∃m',m=m'+1:=[72,m -1])|`(tactic|rw[6])=>`(tactic|rw[10,hh])|`(tactic|rw[7])=>`(tactic|(rw[e] at hi;cases hi))|`(tactic|rw[8])=>`(tactic|(show[24,2];decide))|`(tactic|rw[9])=>`(tactic|rw[7,hh])|`(tactic|rw[10])=>`(tactic|(rw[e] at hi;rw[0,z,rfl,[173,hi]]))|`(tactic|rw[11])=>`(tactic|rw[0,p1.len])|`(tactic|rw[12])=>`(tactic|(rw[e] at q;exact q))|`(tactic|rw[13])=>`(tactic|exact this)|`(tactic|rw[14])=>`(tactic|(obtain⟨_,_,_,_,_,rfl,_⟩:=h;rfl))|`(tactic|rw[15])=>`(tactic|(obtain⟨_,_,_,_,rfl,_⟩:=h;rfl))|`(tactic|rw[16])=>`(tactic|rw[0,p2.len])|`(tactic|rw[17])=>`(tactic|(cases r;rfl))|`(tactic|rw[18])=>`(tactic|split<;>rfl)|`(tactic|rw[19])=>`(tactic|have og:=[23,2])
local macro_rules|`(tactic|rw[20])=>`(tactic|(obtain⟨t,rfl⟩:=r;rfl))|`(tactic|rw[21])=>`(tactic|have hu:=pX hr)|`(tactic|rw[22])=>`(tactic|have eP:=[23,3])|`(tactic|rw[23])=>`(tactic|exact BindsTo.of_defaults rfl (X _ _ lk) hd rfl rfl)|`(tactic|rw[24])=>`(tactic|(rw[e2] at e;cases e))|`(tactic|rw[25])=>`(tactic|rw[0,p.len])|`(tactic|rw[26])=>`(tactic|(show[24,3];decide))|`(tactic|rw[27])=>`(tactic|have K2:=k1.trans k2)|`(tactic|rw[28])=>`(tactic|(rw[<-hk];cases w<;>decide))|`(tactic|rw[29])=>`(tactic|(rw[dX];simp[eY,iN];omega))|`(tactic|rw[30])=>`(tactic|(rw[hh,hk];rfl))|`(tactic|rw[31])=>`(tactic|(obtain⟨_,_,_,rfl,_⟩:=h;rfl))|`(tactic|rw[32])=>`(tactic|(obtain⟨_,_,rfl,_⟩:=h;rfl))|`(tactic|rw[33])=>`(tactic|have jx:=hr.mono (j:=1) [3])|`(tactic|rw[34])=>`(tactic|(unfold tk;dsimp only))|`(tactic|rw[35])=>`(tactic|(intro b r' e;cases e))|`(tactic|rw[36])=>`(tactic|(intro X hP hw hK hc i pins s σ H E I hf st hg;subst hP hw hK))|`(tactic|rw[37])=>`(tactic|(simp at e1 e2;subst e1;subst e2))|`(tactic|rw[38])=>`(tactic|have K5:=K4.trans k5)|`(tactic|rw[39])=>`(tactic|exact[144,False].elim)
local macro_rules|`(tactic|rw[40])=>`(tactic|(show tW [1076] (ai (top I.cx)) _ _=true;decide+kernel))|`(tactic|rw[41])=>`(tactic|obtain⟨f0,f1,f2,f3,f4,f5⟩:=hf it [4])|`(tactic|rw[42])=>`(tactic|obtain⟨fu,rfl⟩:∃k',fu=k'+1:=[72,fu -1])|`(tactic|rw[43])=>`(tactic|(rw[e0];simp only[reduceCtorEq,if_true,if_false,Res.cJ]))|`(tactic|rw[44])=>`(tactic|(rw[List.length_cons];omega))|`(tactic|rw[45])=>`(tactic|(rw[List.size_toArray];omega))|`(tactic|rw[46])=>`(tactic|(subst ey;cases (show u=Value.ref b from ry)))|`(tactic|rw[47])=>`(tactic|(rw[List.map_map];rfl))|`(tactic|rw[48])=>`(tactic|(obtain⟨_,_,_,_,_,_,rfl,_⟩:=h;rfl))|`(tactic|rw[49])=>`(tactic|(obtain⟨_,_,_,_,_,_,_,_,rfl,_⟩:=h;rfl))|`(tactic|rw[50])=>`(tactic|obtain⟨m,rfl, -⟩:=dJ h)|`(tactic|rw[51])=>`(tactic|rw[0,aj (aq z hl),z])|`(tactic|rw[52])=>`(tactic|(cases x;rw[0,[],trivial,λa m=>[142,m]]))|`(tactic|rw[53])=>`(tactic|obtain⟨z,bo,n,r,hl,e⟩:=I.DO hH)|`(tactic|rw[54])=>`(tactic|rw[22,[11,[90,v],.bad,cw h]])|`(tactic|rw[55])=>`(tactic|rw[22,[11,[54,v],.name,cw h]])|`(tactic|rw[56])=>`(tactic|first|exact[38]|exact .inr rfl|assumption)|`(tactic|rw[57])=>`(tactic|(show 1+[143,cO e]=1+e.depth;rw[fY e];simp))|`(tactic|rw[58])=>`(tactic|(rw[e] at e';cases e'))|`(tactic|rw[59])=>`(tactic|(rw[hl] at e;cases e))
local macro_rules|`(tactic|rw[60])=>`(tactic|(rw[hx] at e;cases e))|`(tactic|rw[61])=>`(tactic|(intro p hp;rcases List.mem_append.mp hp with hp|hp))|`(tactic|rw[62])=>`(tactic|(rw[List.filterMap_append,List.filterMap_append,aM,aM,aM];rfl))|`(tactic|rw[63])=>`(tactic|exact Bool.false_ne_true)|`(tactic|rw[64])=>`(tactic|(rw[e] at h2;cases h2))|`(tactic|rw[65])=>`(tactic|(unfold tk at h;dsimp only at h))|`(tactic|rw[66])=>`(tactic|(rw[List.length_take];omega))|`(tactic|rw[67])=>`(tactic|obtain⟨vs,rel,dd⟩:=[405])|`(tactic|rw[68])=>`(tactic|(rw[List.length_map,N8];exact iF hlen))|`(tactic|rw[69])=>`(tactic|have K2:=K1.trans k2)|`(tactic|rw[70])=>`(tactic|obtain⟨t,ht⟩:∃t,[3,ts,t]:=[183])|`(tactic|rw[71])=>`(tactic|(simp at h h2;subst h;subst h2;exact r))|`(tactic|rw[72])=>`(tactic|have s1:=aB (o:= .own x) sr)|`(tactic|rw[73])=>`(tactic|(rintro⟨r1,r2⟩ s' ⟨hr,rfl,_⟩;simp only at hr;subst hr;rw[15,h]))|`(tactic|rw[74])=>`(tactic|repeat(any_goals(first|assumption|wp_step)))|`(tactic|rw[75])=>`(tactic|rw[0,aj (aq Dv hx),[35,Dv]])|`(tactic|rw[76])=>`(tactic|(have h1:[40,[63]]:=[276];have N3:[40,n]:=[2];obtain⟨c,hc⟩:∃c,[658]:=[76,N3]))|`(tactic|rw[77])=>`(tactic|match us,ws,hl with| [_,_],[_,_],_=>rw[23])|`(tactic|rw[78])=>`(tactic|(simp only[reduceCtorEq,if_false,if_true,fK,Option.isSome,true_or,or_true];rw[hh,hk]))|`(tactic|rw[79])=>`(tactic|(rw[List.length_range'];omega))
local macro_rules|`(tactic|rw[80])=>`(tactic|(rw[List.take_add_one,h,List.foldl_append];rfl))|`(tactic|rw[81])=>`(tactic|(rw[List.length_take] at this;omega))|`(tactic|rw[82])=>`(tactic|(cases rx;obtain⟨u,rfl,ru⟩:=rv.one))|`(tactic|rw[83])=>`(tactic|(rw[List.size_toArray,List.size_toArray];omega))|`(tactic|rw[84])=>`(tactic|(rw[List.length_append];omega))|`(tactic|rw[85])=>`(tactic|(rw[List.foldl_append];rfl))|`(tactic|rw[86])=>`(tactic|(rw[Array.length_toList,Array.length_toList] at h2;omega))|`(tactic|rw[87])=>`(tactic|(unfold gh at ih ⊢;rw[List.map_cons,List.find?_cons,List.find?_cons]))|`(tactic|rw[88])=>`(tactic|(rw[hc] at this;cases this))|`(tactic|rw[89])=>`(tactic|(rw[List.getElem?_map,ha];rfl))|`(tactic|rw[90])=>`(tactic|(rw[e,h] at hb;cases Option.some.inj hb))|`(tactic|rw[91])=>`(tactic|(obtain⟨_,_,_,_,_,_,_,rfl,_⟩:=h;rfl))|`(tactic|rw[92])=>`(tactic|(rw[List.getElem?_map,CG];rfl))|`(tactic|rw[93])=>`(tactic|rcases hk with rfl|rfl|rfl|rfl|rfl|rfl<;>rfl)|`(tactic|rw[94])=>`(tactic|rw[1,[224,F.slot_tuple_hash.lookup]])|`(tactic|rw[95])=>`(tactic|(rintro⟨b,e,q⟩;rw[0,b,e,tp _ _ q]))|`(tactic|rw[96])=>`(tactic|(rw[5];have p1:=[122,[63,h].1];obtain⟨l0,e0⟩:=qc (ts:=ts) h [3];rw[lN,h]))|`(tactic|rw[97])=>`(tactic|obtain⟨e,n,ne,nf,d⟩:=I.pin p hp)|`(tactic|rw[98])=>`(tactic|(unfold tk;simp only[];try split))|`(tactic|rw[99])=>`(tactic|(simp at h1 h2;subst h1;subst h2))
local macro_rules|`(tactic|rw[100])=>`(tactic|(unfold runEnd;split<;>omega))|`(tactic|rw[101])=>`(tactic|(have h1:¬[40,[63]]:=[50,h1];have:n=bs.length:=[2];subst this))|`(tactic|rw[102])=>`(tactic|(obtain⟨cR,mV,I',q'⟩:=q7;rw[0,cR,mV,I'.Ac I.ok,q']))|`(tactic|rw[103])=>`(tactic|(rw[evsS,List.cons_append,List.filterMap_cons];simp only[Ev.asBind,List.length_cons]))|`(tactic|rw[104])=>`(tactic|(intro x;simp only[List.not_mem_nil,false_iff]))|`(tactic|rw[105])=>`(tactic|(rw[evsS,List.cons_append,List.cons_append,List.filterMap_cons];rfl))|`(tactic|rw[106])=>`(tactic|(intro j;rw[evsS,List.cons_append,List.cons_append,List.filterMap_cons]))|`(tactic|rw[107])=>`(tactic|(intro pins s σ H x y v u Q I rx ry h;obtain⟨hs,q⟩:=h))|`(tactic|rw[108])=>`(tactic|(intro pins s σ H x y v u Q I rx ry h;obtain⟨p,xs,rfl,hq,fx,fs,q⟩:=h))|`(tactic|rw[109])=>`(tactic|(simp only[List.length_append,List.length_take,List.length_cons,List.length_drop,Array.length_toList];omega))|`(tactic|rw[110])=>`(tactic|(rw[typeLookup_type,builtinLookup_eq_fast];kernel_rfl))|`(tactic|rw[111])=>`(tactic|(rw[hl] at e;rcases CN.eO v with h|⟨p,hp,rfl⟩))|`(tactic|rw[112])=>`(tactic|(rw[hl] at e;rcases CN.eJ v with h|⟨p,hp,rfl⟩))|`(tactic|rw[113])=>`(tactic|(obtain⟨_,_,_,_,_,_,_,_,_,_,rfl,_⟩:=h;rfl))|`(tactic|rw[114])=>`(tactic|(rw[Hd] at X6;obtain⟨om,J4,gB,J7,NU⟩:=X6))|`(tactic|rw[115])=>`(tactic|(obtain⟨t1,m1⟩:=S.mSl;obtain⟨t2,m2⟩:=S.mCh))|`(tactic|rw[116])=>`(tactic|(rintro m σ H' ⟨fu,acc,r,as,rfl,Yw,Fj,rfl,kc,cc,hL,hP,q⟩;rw[42]))|`(tactic|rw[117])=>`(tactic|(have hT:=hk.typeIs;obtain⟨o,m,t,b,ho,_,hd,hb⟩:=hk))|`(tactic|rw[118])=>`(tactic|(have e:[341]:=e;rcases mem e with⟨h1,_⟩|⟨h1,_⟩))|`(tactic|rw[119])=>`(tactic|(have e:b=it:=[96];subst e;obtain⟨o,e,c,d⟩:=st))
local macro_rules|`(tactic|rw[120])=>`(tactic|(rintro σ H7 ⟨⟨v,rfl⟩,Dk,DG,m,hm,DC,ve,P4⟩;have hlen:zE.length=t.names.length:=[821]))|`(tactic|rw[121])=>`(tactic|obtain⟨env,me,ef⟩:=List.mem_filterMap.mp m)|`(tactic|rw[122])=>`(tactic|(rw[List.filterMap_cons,List.filter_cons];cases f a<;>simp[ih]))|`(tactic|rw[123])=>`(tactic|(unfold start;show _=N.length;rw[List.length_append,List.length_map,List.length_replicate];omega))|`(tactic|rw[124])=>`(tactic|first|exact[173]|exact Or.inr [173]|exact Or.inr (Or.inr rfl))|`(tactic|rw[125])=>`(tactic|(rw[List.getElem?_append_right (by simpa using hi)] at h2;rw[List.getElem?_replicate] at h2;split at h2<;>cases h2))|`(tactic|rw[126])=>`(tactic|(intro _ _ _ _ _ _ us hl;first|(match us,hl with| [_],_=>rfl)|(match us,hl with| [_,_],_=>rfl)|(match us,hl with| [_,_,_],_=>rfl)|(match us,hl with| [_,_,_,_],_=>rfl)|(match us,hl with| [_,_,_,_,_],_=>rfl)|(match us,hl with| [_,_,_,_,_,_],_=>rfl)|(match us,hl with| [_,_,_,_,_,_,_],_=>rfl)))
local macro_rules|`(tactic|rw[0,$a:term])=>`(tactic|(have:= $a;omega))|`(tactic|rw[1,$a:term])=>`(tactic|refine wpAny_bind $a)|`(tactic|rw[2,$a:term])=>`(tactic|(show $a<1000;decide))|`(tactic|rw[3,$a:term])=>`(tactic|refine[9,$a])|`(tactic|rw[4,$a:term])=>`(tactic|exact[34,$a])|`(tactic|rw[5,$a:term])=>`(tactic|(subst e;exact $a))|`(tactic|rw[6,$a:term])=>`(tactic|exact[9,$a])|`(tactic|rw[7,$a:term])=>`(tactic|rw[if_pos $a] at q)|`(tactic|rw[8,$a:term])=>`(tactic|exact False.elim $a)|`(tactic|rw[9,$a:term])=>`(tactic|show ($a).fit _ _)|`(tactic|rw[10,$a:term])=>`(tactic|rw[if_neg $a] at q)|`(tactic|rw[11,$a:term])=>`(tactic|(obtain⟨t',rfl⟩:=ry;exact $a))|`(tactic|rw[12,$a:term])=>`(tactic|exact absurd [44,false,$a] Bool.false_ne_true)|`(tactic|rw[13,$a:term])=>`(tactic|refine[38,$a,?_])|`(tactic|rw[14,$a:term])=>`(tactic|(intro pins s σ H Q I h;refine $a))|`(tactic|rw[15,$a:term])=>`(tactic|exact wpAny_pure $a)|`(tactic|rw[16,$a:term])=>`(tactic|rw[if_neg $a])|`(tactic|rw[17,$a:term])=>`(tactic|rw[if_pos $a])|`(tactic|rw[18,$a:term])=>`(tactic|(cases ry;exact $a))|`(tactic|rw[19,$a:term])=>`(tactic|(have:= $a;rw[29]))
local macro_rules|`(tactic|rw[20,$a:term])=>`(tactic|(rw[List.length_map];exact $a))|`(tactic|rw[21,$a:term])=>`(tactic|exact[137,[27,$a<=2000]])|`(tactic|rw[22,$a:term])=>`(tactic|(rw[$a:term] at e;cases e))|`(tactic|rw[23,$a:term])=>`(tactic|(rw[$a:term] at h;cases h))|`(tactic|rw[24,$a:term])=>`(tactic|(refine $a;dsimp only))|`(tactic|rw[25,$a:term])=>`(tactic|(obtain⟨GT,GF,GS,GA,GN⟩:=[215,w];refine $a;have jx:=[23,1];rw[19];rw[22];have j6:=[23,4]))|`(tactic|rw[26,$a:term])=>`(tactic|(obtain⟨t,rfl⟩:=rx;exact $a))|`(tactic|rw[27,$a:term])=>`(tactic|(rw[$a:term];simp only[decide_eq_true_eq]))|`(tactic|rw[28,$a:term])=>`(tactic|(cases rx;exact $a))|`(tactic|rw[29,$a:term])=>`(tactic|(rw[<-hlen];exact[25,$a]))|`(tactic|rw[30,$a:term])=>`(tactic|rw[[59,hh ((eqs $a).trans (decide_eq_true z))]] at q)|`(tactic|rw[31,$a:term])=>`(tactic|refine aw λa r e=> $a)|`(tactic|rw[32,$a:term])=>`(tactic|rw[3,λe=> $a,(λe=>by cases e)])|`(tactic|rw[33,$a:term])=>`(tactic|(have:= $a;simpa using this))|`(tactic|rw[34,$a:term])=>`(tactic|refine wpAny_call $a)|`(tactic|rw[35,$a:term])=>`(tactic|(refine bj.bind $a [143];subst e;dsimp only))|`(tactic|rw[36,$a:term])=>`(tactic|(rw[1,$a:term];simp only[Bool.not_true,Bool.false_eq_true,if_false]))|`(tactic|rw[37,$a:term])=>`(tactic|(intro pins s σ H D I h;refine $a))|`(tactic|rw[38,$a:term])=>`(tactic|(intro pins s σ H Q I h;exact $a))|`(tactic|rw[39,$a:term])=>`(tactic|(intro pins s σ H R I h;refine $a))
local macro_rules|`(tactic|rw[40,$a:term])=>`(tactic|obtain⟨y,hy,rfl⟩:=List.mem_map.mp $a)|`(tactic|rw[41,$a:term])=>`(tactic|(have:n= $a :=[2];subst this;decide))|`(tactic|rw[42,$a:term])=>`(tactic|(obtain⟨l,all,c,ts,rfl,hc,h2,q⟩:=h;rw[13,$a:term]))|`(tactic|rw[43,$a:term])=>`(tactic|(intro wh pins s σ H Q I h;refine $a))|`(tactic|rw[44,$a:term])=>`(tactic|(rw[$a:term] at h';simp only[List.lookup_cons,hx] at h'))|`(tactic|rw[45,$a:term])=>`(tactic|obtain⟨i,hi⟩:=List.mem_iff_getElem?.mp $a)|`(tactic|rw[46,$a:term])=>`(tactic|rw[List.drop_eq_getElem_cons $a])|`(tactic|rw[47,$a:term])=>`(tactic|rw[List.length_map,Paired.length $a])|`(tactic|rw[48,$a:term])=>`(tactic|obtain⟨e,q⟩:=mq m $a ts h [2] [2])|`(tactic|rw[49,$a:term])=>`(tactic|(obtain⟨a,dx,fs,h1,h2,h3,h4⟩:= $a;exact⟨a,dx,fs,h1,h2,h3,_,ho,h4⟩))|`(tactic|rw[50,$a:term])=>`(tactic|(obtain⟨dx,l',p,nY⟩:=hc.is;exact $a))|`(tactic|rw[51,$a:term])=>`(tactic|(obtain⟨oc,od,kV,doc,pm,an,bU,ct,vY,rfl,lk,xZ⟩:=F.ex;exact $a))|`(tactic|rw[52,$a:term])=>`(tactic|(rw[9,[124,PyProof.Rows.F.entry_set_update_loop],[150,PyProof.Rows.F.plain_set_update_loop]];show wpAny _ A.in1 ([340]>>=_) _ _ s;rw[1,$a:term]))|`(tactic|rw[53,$a:term])=>`(tactic|(unfold lV;have hp: $a :=by cases j<;>first|exact S.jd|exact S.signed))|`(tactic|rw[54,$a:term])=>`(tactic|(obtain⟨o,es,ep,ho,r⟩:=hm;exact⟨o,es,ep,k _ o $a ho,r⟩))
local macro_rules|`(tactic|rw[0,$a:term,$b:term])=>`(tactic|(rw[$a:term];exact $b))|`(tactic|rw[1,$a:term,$b:term])=>`(tactic|(refine $a;refine $b))|`(tactic|rw[2,$a:term,$b:term])=>`(tactic|((·exact $a);·exact $b))|`(tactic|rw[3,$a:term,$b:term])=>`(tactic|exact⟨$a,$b⟩)|`(tactic|rw[4,$a:term,$b:term])=>`(tactic|(refine $a;exact $b))|`(tactic|rw[5,$a:term,$b:term])=>`(tactic|rw[0,List.mem_singleton.mp $a,$b:term])|`(tactic|rw[6,$a:term,$b:term])=>`(tactic|refine[21,$a,$b])|`(tactic|rw[7,$a:term,$b:term])=>`(tactic|refine⟨$a,$b⟩)|`(tactic|rw[8,$a:term,$b:term])=>`(tactic|(rw[$a:term];refine $b))|`(tactic|rw[9,$a:term,$b:term])=>`(tactic|(refine $a;rw[$b:term]))|`(tactic|rw[10,$a:term,$b:term])=>`(tactic|rw[1,[38,$a,?_],$b:term])|`(tactic|rw[11,$a:term,$b:term])=>`(tactic|(have h1:= $a;have h2:= $b))|`(tactic|rw[12,$a:term,$b:term])=>`(tactic|(have:= $a;rw[0,$b:term]))|`(tactic|rw[13,$a:term,$b:term])=>`(tactic|rw[1,wpAny_bind $a,$b:term])|`(tactic|rw[14,$a:term,$b:term])=>`(tactic|(split;rw[2,$a:term,$b:term]))|`(tactic|rw[15,$a:term,$b:term])=>`(tactic|(rw[25,$a:term];rw[42,$b:term]))|`(tactic|rw[16,$a:term,$b:term])=>`(tactic|(rcases List.mem_cons.mp h with rfl|h;rw[2,$a:term,$b:term]))|`(tactic|rw[17,$a:term,$b:term])=>`(tactic|(intro pins s σ H Q I h;rw[4,$a:term,$b:term]))|`(tactic|rw[18,$a:term,$b:term])=>`(tactic|(obtain⟨p1,ez,_⟩:= $a;obtain⟨d',rfl,xY⟩:= $b))|`(tactic|rw[19,$a:term,$b:term])=>`(tactic|(simp only[List.mem_cons,List.mem_singleton,List.not_mem_nil,or_false,not_or];rw[3,$a:term,$b:term]))
local macro_rules|`(tactic|rw[20,$a:term,$b:term])=>`(tactic|(rintro i y σ H' hi ⟨⟨v,rfl⟩,fr,wk⟩;obtain⟨ba,CG,rfl⟩:∃a,$a := $b))|`(tactic|rw[21,$a:term,$b:term])=>`(tactic|(rintro i y σ H' hi ⟨⟨v,rfl⟩,fr,SJ,m,hm,DC,Kq,wki⟩;obtain⟨nb,AU,rfl⟩:∃a,$a := $b))
local macro_rules|`(tactic|rw[0,$a:term,$b:term,$c:term])=>`(tactic|exact⟨$a,$b,$c⟩)|`(tactic|rw[1,$a:term,$b:term,$c:term])=>`(tactic|(have r:=d.wr (ys:= $a) $b $c;obtain⟨⟨n1,n2,n3,n4⟩,⟨n5,n6,n7⟩,⟨n8,n9⟩,S8⟩:=d.ne))
local macro_rules|`(tactic|rw[0,$a:term,$b:term,$c:term,$d:term])=>`(tactic|exact⟨$a,$b,$c,$d⟩)|`(tactic|rw[1,$a:term,$b:term,$c:term,$d:term])=>`(tactic|(rw[1,$a:term,$b:term];rw[1,$c:term,$d:term]))
set_option Elab.async false
set_option linter.all false
set_option maxRecDepth 100000
set_option maxHeartbeats 8000000
section
namespace I
abbrev NotGood:Nat:=1
abbrev Token:Nat:=10
abbrev spelled:Nat:=11
abbrev vm:Nat:=12
abbrev A1:Nat:=13
abbrev tf:Nat:=14
abbrev oE:Nat:=15
abbrev tj:Nat:=16
abbrev wY:Nat:=17
abbrev rg:Nat:=18
abbrev ro:Nat:=19
abbrev jz:Nat:=20
abbrev wA:Nat:=21
abbrev Cp:Nat:=22
abbrev kX:Nat:=23
abbrev fb:Nat:=24
abbrev Node:Nat:=26
abbrev jj:Nat:=27
abbrev bX:Nat:=28
abbrev gL:Nat:=29
abbrev Cursor:Nat:=34
abbrev ff:Nat:=35
abbrev dU:Nat:=36
abbrev iY:Nat:=37
abbrev eG:Nat:=38
abbrev dO:Nat:=39
abbrev gE:Nat:=40
abbrev nG:Nat:=41
abbrev iZ:Nat:=42
abbrev lz:Nat:=43
abbrev hZ:Nat:=44
abbrev lA:Nat:=45
abbrev gZ:Nat:=46
abbrev dM:Nat:=47
abbrev nH:Nat:=48
abbrev iM:Nat:=49
abbrev ft:Nat:=50
abbrev hJ:Nat:=51
abbrev cX:Nat:=52
abbrev cZ:Nat:=53
abbrev d7:Nat:=54
abbrev gD:Nat:=55
abbrev hW:Nat:=56
abbrev hX:Nat:=57
abbrev bu:Nat:=58
abbrev cM:Nat:=59
abbrev fw:Nat:=60
abbrev gH:Nat:=61
abbrev eI:Nat:=62
abbrev mM:Nat:=73
abbrev Use:Nat:=74
abbrev IQ:Nat:=75
abbrev mU:Nat:=76
abbrev Walk:Nat:=77
abbrev cY:Nat:=78
abbrev gi:Nat:=79
abbrev ig:Nat:=80
abbrev lE:Nat:=81
abbrev fH:Nat:=82
abbrev i4:Nat:=83
abbrev eN:Nat:=84
abbrev eM:Nat:=85
abbrev f9:Nat:=86
abbrev fR:Nat:=87
abbrev mZ:Nat:=88
abbrev bK:Nat:=89
abbrev gm:Nat:=91
abbrev cx:Nat:=92
abbrev repeated:Nat:=93
abbrev i8:Nat:=94
abbrev iW:Nat:=95
abbrev gv:Nat:=96
abbrev cG:Nat:=97
abbrev fJ:Nat:=98
abbrev Cell:Nat:=103
abbrev i6:Nat:=104
abbrev faults:Nat:=106
end I
end
section
namespace CN
open Vanbka
section
variable {w:Bytes} {l:Lex} {s:String}
inductive Kd where
 |oP|dy|rE|nP|rj|m9|cq|bW|x8|uZ|while_|iJ|CL|Nw|km|qK|and_|or_|not_|qH|DY|none_|Hw|ye|yQ|HC|yG|Gz|yY
 |name|number|quoted|fin
 |eq2|ne|le|ge|join|add|sub|mul|div|rem|lt|gt|eq|lpar|rpar|iU|pQ|qX|iL|comma|semi|colon|dot|quest
 |list|record|call|element|field|minus|bad
deriving DecidableEq
def aW:[257]:=[("let",.oP),("set",.dy),("show",.rE),("table",.nP),("plot",.rj),("check",.m9),("slider",.cq),("choice",.bW),("if",.x8),("else",.uZ),("while",.while_),("for",.iJ),("in",.CL),("do",.Nw),("give",.km),("fn",.qK),("and",.and_),("or",.or_),("not",.not_),("yes",.qH),("no",.DY),("none",.none_),("len",.Hw),("keys",.ye),("text",.yQ),("num",.HC),("roll",.yG),("cut",.Gz),("with",.yY)]
def aU:[257]:=[("==",.eq2),("!=",.ne),("<=",.le),(">=",.ge),("++",.join),("+",.add),("-",.sub),("*",.mul),("/",.div),("%",.rem),("<",.lt),(">",.gt),("=",.eq),("(",.lpar),(")",.rpar),("[",.iU),("]",.pQ),("{",.qX),("}",.iL),(",",.comma),(";",.semi),(":",.colon),(".",.dot),("?",.quest)]
def look(l:[257])(d:Kd)(w:Bytes):Kd:=match l with
 | []=>d
 |p::r=>[4,w,b p.1,p.2,look r d w]
def kdOf:Lex->Kd
 | .word w=>[629]
 | .num _=> .number
 | .quoted _=> .quoted
 | .sign s=>[633]
def hd:([5])->Kd
 | []=> .fin
 |t::_=>[31]
theorem cw {l:[257]} {d:Kd}(h:∀p∈l,w≠b p.1):look l d w=d:=by induction l with
 |nil=>rfl
 |cons p r ih=>
  unfold look;rw[0,if_neg (h p [4]),ih λq hq=>h q [535]]
theorem mr {l:[257]} {d:Kd}:look l d w=d\/∃p∈l,w=b p.1/\look l d w=p.2:=by induction l with
 |nil=>exact[38]
 |cons p r ih=>
  unfold look;split
  ·rename_i e;exact[6,p,[4],e,rfl]
  ·rcases ih with e|⟨q,hq,e1,e2⟩;rw[2,.inl e,[6,q,[535],e1,e2]]
theorem Bd {l:[257]} {d:Kd} {p:[622]}(hp:p∈l)(hd:∀q∈l,q.2≠d)(nd:∀q∈l,∀q'∈l,[965])(nb:∀q∈l,∀q'∈l,[1014]):look l d w=p.2↔w=b p.1:=by
 constructor
 ·intro h;rcases mr (l:=l) (d:=d) (w:=w) with e|⟨q,hq,e1,e2⟩
  ·exact absurd (h.symm.trans e) (hd p hp)
  ·rw[e1,nd q hq p hp (e2.symm.trans h)]
 ·rintro rfl;rcases mr (l:=l) (d:=d) (w:=b p.1) with e|⟨q,hq,e1,e2⟩
  ·exfalso;induction l with
    |nil=>simp at hp
    |cons q r ih=>
     unfold look at e;split at e
     ·exact hd q [4] e
     ·rename_i gx;rcases List.mem_cons.mp hp with rfl|Sz;rw[2,gx rfl,ih Sz (λq hq=>hd q [535]) (λq hq q' xp=>nd q [535] q' (by simp[xp])) (λq hq q' xp=>nb q [535] q' (by simp[xp])) e]
  ·rw[e2,nb q hq p hp e1.symm]
theorem wt_nd:∀q∈aW,∀q'∈aW,[965]:=[3]
theorem wt_nb:∀q∈aW,∀q'∈aW,[1014]:=[3]
theorem st_nd:∀q∈aU,∀q'∈aU,[965]:=[3]
theorem st_nb:∀q∈aU,∀q'∈aU,[1014]:=[3]
theorem CB {p:[622]}(hp:p∈aW):[629]=p.2↔w=b p.1:=Bd hp [3] wt_nd wt_nb
theorem L5 {p:[622]}(hp:p∈aU):look aU .bad w=p.2↔w=b p.1:=Bd hp [3] st_nd st_nb
theorem d5 {p:[622]}(hp:p∈aU):[83]=p.2↔l=[698]:=by
 have hw:∀w,[629]≠p.2:=λw e=>by
  have h1:[217,Kd.name]:=[3];have h2:∀p∈aU,∀q∈aW,q.2≠p.2:=[3];rcases mr (l:=aW) (d:= .name) (w:=w) with e'|⟨q,hq,_,e'⟩;rw[2,h1 p hp (e.symm.trans e'),[1413]]
 have h3:[878]:=[3];have h4:[877]:=[3];cases l with
  |word w=>rw[32,[126,hw w]]
  |num n=>rw[32,[266,h3 p hp]]
  |quoted s=>rw[32,[266,h4 p hp]]
  |sign s=>
   show[633]=p.2↔_;rw[0,L5 hp,⟨[731],λe=>by cases e;rfl⟩]
theorem gQ {p:[622]}(hp:p∈aW):[83]=p.2↔l= .word (b p.1):=by
 have hw:∀w,look aU .bad w≠p.2:=λw e=>by
  have h1:[147,Kd.bad]:=[3];have h2:∀p∈aW,∀q∈aU,q.2≠p.2:=[3];rcases mr (l:=aU) (d:= .bad) (w:=w) with e'|⟨q,hq,_,e'⟩;rw[2,h1 p hp (e.symm.trans e'),[1413]]
 have h3:[879]:=[3];have h4:[880]:=[3];cases l with
  |sign w=>rw[32,[126,hw w]]
  |num n=>rw[32,[266,h3 p hp]]
  |quoted s=>rw[32,[266,h4 p hp]]
  |word s=>
   show look aW .name s=p.2↔_;rw[0,CB hp,⟨[731],λe=>by cases e;rfl⟩]
theorem bx {k:Kd}(hp:(s,k)∈aU)(ts:[5]):next (isSign s) ts=[570]:=by cases ts with
 |nil=>
  have h:[704]:=[3];exact[288,h (s,k) hp e.symm].symm
 |cons t r=>
  show[2,t.lex,.sign (b s)]=[700];exact[93,d5 hp]
theorem cC {k:Kd}(hp:(s,k)∈aW)(ts:[5]):next (isWord s) ts=[570]:=by cases ts with
 |nil=>
  have h:[147,Kd.fin]:=[3];exact[288,h (s,k) hp e.symm].symm
 |cons t r=>
  show[2,t.lex,.word (b s)]=[700];exact[93,gQ hp]
theorem pH(w:Bytes):[572]↔∃p∈aW,w=b p.1:=by
 have e:reserved=aW.map λp=>b p.1:=[3];rw[e,List.contains_iff_mem,List.mem_map];rw[3,[1346],[1346]]
theorem qV:[83]= .name↔∃w,l= .word w/\[8,[397]]:=by cases l with
 |num n=>rw[3,λe=>(by cases e),[1020]]
 |quoted s=>rw[3,λe=>(by cases e),[1020]]
 |sign s=>
  rw[7,λe=> ?_,[1020]];exfalso;have e:[633]= .name:=e;have h2:[217,Kd.name]:=[3];rcases mr (l:=aU) (d:= .bad) (w:=s) with e'|⟨q,hq,_,e'⟩
  ·rw[58]
  ·exact h2 q hq (e'.symm.trans e)
 |word w=>
  have h2:[147,Kd.name]:=[3];constructor
  ·intro e;have e:[629]= .name:=e;rw[6,w,rfl];rw[<-Bool.not_eq_true];intro hc;obtain⟨p,hp,ew⟩:=(pH w).mp hc;exact h2 p hp (((CB hp).mpr ew).symm.trans e)
  ·rintro⟨w',e,hc⟩;cases e;show[629]= .name;rcases mr (l:=aW) (d:= .name) (w:=w) with e'|⟨q,hq,e1,_⟩
   ·exact e'
   ·rw[(pH w).mpr ⟨q,hq,e1⟩] at hc;cases hc
def wordOf:Lex->Bytes
 | .word w=>w
 | .quoted s=>s
 |_=>[]
def numOf:Lex->Nat
 | .num n=>n
 |_=>0
theorem j3(ts:[5]):nameNext ts=match ts with|t::_=>[4,[31],.name,[163,t.lex],none]| []=>none:=by cases ts with
 |nil=>rfl
 |cons t r=>
  obtain⟨l,p,n⟩:=t;cases l with
   |word w=>
    show(if[397] then none else some w)=[4,[54,w],.name,some w,none];cases h:reserved.contains w with
     |true=>
      rw[[381],if_neg];intro e;obtain⟨w',e1,e2⟩:=qV.mp e;cases e1;rw[h] at e2;cases e2
     |false=>rw[[213],if_pos (qV.mpr ⟨w,rfl,h⟩)]
   |num n=>
    show none=[389,kdOf (.num n)];rw[if_neg (by intro e;cases e)]
   |quoted n=>
    show none=[389,kdOf (.quoted n)];rw[if_neg (by intro e;cases e)]
   |sign n=>
    show none=[389,[90,n]];rw[if_neg (by intro e;obtain⟨_,e',_⟩:=qV.mp e;cases e')]
end
def strength:Kd->Nat
 | .or_=>1| .and_=>2| .eq2=>4| .ne=>4| .lt=>4| .le=>4| .gt=>4| .ge=>4| .join=>5| .add=>6| .sub=>6| .mul=>7| .div=>7| .rem=>7|_=>0
def uc:Kd->Op
 | .or_=> .or| .and_=> .and| .eq2=> .eq| .ne=> .ne| .lt=> .lt| .le=> .le| .gt=> .gt| .ge=> .ge| .join=> .join| .add=> .add| .sub=> .sub| .mul=> .mul| .div=> .div|_=> .rem
def Fv:Op->Kd
 | .or=> .or_| .and=> .and_| .eq=> .eq2| .ne=> .ne| .lt=> .lt| .le=> .le| .gt=> .gt| .ge=> .ge| .join=> .join| .add=> .add| .sub=> .sub| .mul=> .mul| .div=> .div| .rem=> .rem
theorem Fw {k:Kd}(h:strength k≠0):Fv (uc k)=k:=by cases k<;>first|rfl|exact absurd rfl h
theorem cu(o:Op):strength (Fv o)=o.strength:=[875]
theorem eJ(s:Bytes):(∀p∈aU,s≠b p.1)\/∃p∈aU,s=b p.1:=by
 by_cases h:∃p∈aU,s=b p.1;rw[2,.inr h,[1254]]
theorem eO(s:Bytes):(∀p∈aW,s≠b p.1)\/∃p∈aW,s=b p.1:=by
 by_cases h:∃p∈aW,s=b p.1;rw[2,.inr h,[1254]]
def lvl(k:Nat):Prop:=k=1\/k=2\/k=4\/k=5\/k=6\/k=7
theorem OZ {k:Nat}(hk:lvl k)(l:Lex):opOf k l=[4,strength [83],k,some (uc [83]),none]:=by cases l with
 |num n=>rw[93]
 |quoted n=>rw[93]
 |sign s=>
  rcases eJ s with h|⟨p,hp,rfl⟩
  ·have e:[90,s]= .bad:=cw h;rw[e];rw[11,[37,"==",.eq2],[37,"!=",.ne]];have h3:=[37,"<",.lt];have h4:=[37,"<=",.le];have h5:=[37,">",.gt];have h6:=[37,">=",.ge];have h7:=[37,"++",.join];have h8:=[37,"+",.add];have h9:=[37,"-",.sub];have h10:=[37,"*",.mul];have h11:=[37,"/",.div];have h12:=[37,"%",.rem];rcases hk with rfl|rfl|rfl|rfl|rfl|rfl<;>simp[opOf,strength,h1,h2,h3,h4,h5,h6,h7,h8,h9,h10,h11,h12]
  ·rw[[594]];have:∀k∈[1,2,4,5,6,7],∀p∈aU,[471,[698]]:=[3];exact[1347]
 |word s=>
  rcases eO s with h|⟨p,hp,rfl⟩
  ·have e:[54,s]= .name:=cw h;rw[e];rw[11,[37,"or",.or_],[37,"and",.and_]];rcases hk with rfl|rfl|rfl|rfl|rfl|rfl<;>simp[opOf,strength,h1,h2]
  ·rw[[595]];have:∀k∈[1,2,4,5,6,7],∀p∈aW,[471,.word (b p.1)]:=[3];exact[1347]
theorem sI {k:Nat}(hk:lvl k)(ts:[5]):opNext k ts=[4,[254],k,some (uc [12]),none]:=by cases ts with
 |nil=>rw[93]
 |cons t r=>exact OZ hk t.lex
def fK:Kd->Option (Prim×Nat)
 | .Hw=>[11,.len,1]| .ye=>[11,.keys,1]| .yQ=>[11,.text,1]| .HC=>[11,.num,1]| .yG=>[11,.roll,1]| .Gz=>[11,.cut,3]| .yY=>[11,.with,3]|_=>none
def pS:Kd->Option Way
 | .rE=>some .show| .nP=>some .table| .rj=>some .plot| .m9=>some .check| .Nw=>some .do| .km=>some .give|_=>none
def A4:Prim->Kd
 | .len=> .Hw| .keys=> .ye| .text=> .yQ| .num=> .HC| .roll=> .yG| .cut=> .Gz| .with=> .yY
def KO:Way->Kd
 | .show=> .rE| .table=> .nP| .plot=> .rj| .check=> .m9| .do=> .Nw| .give=> .km
theorem A5 {k:Kd} {p:Prim} {n:Nat}(h:fK k=some (p,n)):A4 p=k:=[1197]
theorem Ho {k:Kd} {p:Way}(h:pS k=some p):KO p=k:=[1197]
theorem O8(ts:[5]):(wordNext ts).bind primOf=fK [12]:=by cases ts with
 |nil=>rfl
 |cons t r=>
  obtain⟨l,p,n⟩:=t;cases l with
   |num n=>rfl
   |quoted n=>rfl
   |sign s=>
    rcases eJ s with h|⟨p,hp,rfl⟩
    ·show none=fK [633];rw[cw h];rfl
    ·show none=fK (kdOf [698]);rw[[594]];have:∀p∈aU,none=fK p.2:=[3];exact[615]
   |word s=>
    show[46,[673],some s].bind primOf=fK [54,s];rcases eO s with h|⟨p,hp,rfl⟩
    ·have e:[54,s]= .name:=cw h;have e2:[8,[673]]:=by
      rw[<-Bool.not_eq_true];intro hc;obtain⟨p,hp,ew⟩:=(pH s).mp hc;exact h p hp ew
     rw[e,e2];rfl
    ·rw[[595]];have:∀p∈aW,[1207].bind primOf=fK p.2:=[3];exact[615]
theorem MG(ts:[5]):(wordNext ts).bind wayOf=pS [12]:=by cases ts with
 |nil=>rfl
 |cons t r=>
  obtain⟨l,p,n⟩:=t;cases l with
   |num n=>rfl
   |quoted n=>rfl
   |sign s=>
    rcases eJ s with h|⟨p,hp,rfl⟩
    ·show none=pS [633];rw[cw h];rfl
    ·show none=pS (kdOf [698]);rw[[594]];have:∀p∈aU,none=pS p.2:=[3];exact[615]
   |word s=>
    show[46,[673],some s].bind wayOf=pS [54,s];rcases eO s with h|⟨p,hp,rfl⟩
    ·have e:[54,s]= .name:=cw h;have e2:[8,[673]]:=by
      rw[<-Bool.not_eq_true];intro hc;obtain⟨p,hp,ew⟩:=(pH s).mp hc;exact h p hp ew
     rw[e,e2];rfl
    ·rw[[595]];have:∀p∈aW,[1207].bind wayOf=pS p.2:=[3];exact[615]
inductive Res(α:Type) where
 |ok (x:α) (r:List Tok)
 |bad
 |out
def Res.bind {α β:Type}(x:[65])(f:[610]):Res β:=match x with
 | .ok a r=>f a r
 | .bad=> .bad
 | .out=> .out
def tk(k:Kd):([5])->Res Lex
 | []=> .bad
 |t::r=>[4,[31],k,[12,t.lex],.bad]
inductive TV where
 |none|num (n:Nat)|quoted (s:Bytes)|three (v lo hi:Int)|choice (n:Nat) (l:List Bytes)
inductive T where
 |mk (kind:Kd) (parts:List T) (blocks:List (List T)) (name:Option Bytes) (names:List Bytes) (value:TV) (depth:Nat)
def T.kind:T->Kd| .mk k _ _ _ _ _ _=>k
def T.parts:T->[24]| .mk _ p _ _ _ _ _=>p
def T.blocks:T->[100]| .mk _ _ b _ _ _ _=>b
def T.name:T->[74]| .mk _ _ _ n _ _ _=>n
def T.names:T->[23]| .mk _ _ _ _ n _ _=>n
def T.value:T->TV| .mk _ _ _ _ _ v _=>v
def T.depth:T->Nat| .mk _ _ _ _ _ _ d=>d
def aX(l:[24]):Nat:=l.foldr (λt d=>max t.depth d) 0
def bX(p:[24])(bs:[100]):Nat:=bs.foldl (λd x=>max d (aX x)) (aX p)
def eS(kind:Kd)(parts:[24]:=[])(blocks:[100]:=[])(name:[74]:=Option.none)(names:[23]:=[])(value:TV:= .none):T:= .mk kind parts blocks name names value (1+bX parts blocks)
mutual
def cO:Expr->T
 | .num n=>eS .number (value:= .num n)
 | .quoted s=>eS .quoted (value:= .quoted s)
 | .truth v=>eS (if v then .qH else .DY)
 | .nothing=>eS .none_
 | .name x=>[726]
 | .list l=>eS .list (parts:=xu l)
 | .record l=>[133,HD l,Vanbkc.fieldNames l]
 | .minus e=>eS .minus (parts:=[cO e])
 | .not e=>eS .not_ (parts:=[cO e])
 | .bin o x y=>eS (Fv o) (parts:=[cO x,cO y])
 | .pick c x y=>eS .quest (parts:=[cO c,cO x,cO y])
 | .call f l=>eS .call (parts:=cO f::xu l)
 | .index l i=>eS .element (parts:=[cO l,cO i])
 | .field r x=>[123,.field,[cO r]]
 | .prim p l=>eS (A4 p) (parts:=xu l)
 | .fn own ps s=>eS .qK (blocks:=[iE s]) (name:=own) (names:=ps)
def xu:Exprs->[24]
 | .nil=>[]
 | .cons e l=>cO e::xu l
def HD:Fields->[24]
 | .nil=>[]
 | .cons _ e l=>cO e::HD l
def lq:Stmt->T
 | .leta x e=>[123,.oP,[cO e]]
 | .seta x e=>[123,.dy,[cO e]]
 | .way w e=>eS (KO w) (parts:=[cO e])
 | .iff c x=>[439,[iE x]]
 | .iffElse c x y=>[439,[iE x,iE y]]
 | .while_ c x=>eS .while_ (parts:=[cO c]) (blocks:=[iE x])
 | .for x e l=>eS .iJ (parts:=[cO e]) (blocks:=[iE l]) (name:=[142])
 | .slider x v lo hi=>eS .cq (name:=[142]) (value:= .three v lo hi)
 | .choice x v l=>eS .bW (name:=[142]) (value:= .choice v l)
def iE:Stmts->[24]
 | .nil=>[]
 | .cons s l=>lq s::iE l
end
mutual
theorem fY:∀e:Expr,(cO e).depth=e.depth
 | .num n=>rfl
 | .quoted s=>rfl
 | .truth v=>by cases v<;>rfl
 | .nothing=>rfl
 | .name x=>rfl
 | .list l=>congrArg (1+·) (zf l)
 | .record l=>congrArg (1+·) (Jk l)
 | .minus e=>by rw[57]
 | .not e=>by rw[57]
 | .bin o x y=>by
  show 1+[84,cO x,[143,cO y]]=1+max x.depth y.depth;rw[fY x,fY y];simp
 | .pick c x y=>by
  show 1+[84,cO c,[84,cO x,[143,cO y]]]=1+max c.depth (max x.depth y.depth);rw[fY c,fY x,fY y];simp
 | .call f l=>by
  show 1+[84,cO f,aX (xu l)]=1+max f.depth l.depth;rw[fY f,zf l]
 | .index l i=>by
  show 1+[84,cO l,[143,cO i]]=1+max l.depth i.depth;rw[fY l,fY i];simp
 | .field r x=>by
  show 1+[143,cO r]=1+r.depth;rw[fY r];simp
 | .prim p l=>congrArg (1+·) (zf l)
 | .fn own ps s=>by
  show 1+(max 0 (aX (iE s)))=1+s.depth;rw[oG s];simp
theorem zf:∀l:Exprs,aX (xu l)=l.depth
 | .nil=>rfl
 | .cons e l=>by
  show[84,cO e,aX (xu l)]=max e.depth l.depth;rw[fY e,zf l]
theorem Jk:∀l:Fields,aX (HD l)=l.depth
 | .nil=>rfl
 | .cons x e l=>by
  show[84,cO e,aX (HD l)]=max e.depth l.depth;rw[fY e,Jk l]
theorem Rv:∀s:Stmt,(lq s).depth=s.depth
 | .leta x e=>by rw[57]
 | .seta x e=>by rw[57]
 | .way w e=>by rw[57]
 | .iff c x=>by
  show 1+[966]=1+max c.depth x.depth;rw[fY c,oG x];simp
 | .iffElse c x y=>by
  show 1+(max [966] (aX (iE y)))=1+max c.depth (max x.depth y.depth);rw[fY c,oG x,oG y,Nat.max_assoc];simp
 | .while_ c x=>by
  show 1+[966]=1+max c.depth x.depth;rw[fY c,oG x];simp
 | .for x e l=>by
  show 1+(max [143,cO e] (aX (iE l)))=1+max e.depth l.depth;rw[fY e,oG l];simp
 | .slider x v lo hi=>rfl
 | .choice x v l=>rfl
theorem oG:∀l:Stmts,aX (iE l)=l.depth
 | .nil=>rfl
 | .cons s l=>by
  show[84,lq s,aX (iE l)]=max s.depth l.depth;rw[Rv s,oG l]
end
structure jf where
 expr:List Tok->Res T
 orr:List Tok->Res T
 chain:Bool->List Tok->Res T
 jd:List Tok->Res T
 compared:List Tok->Res T
 joined:List Tok->Res T
 signed:List Tok->Res T
 bH:List Tok->Res T
 simple:List Tok->Res T
 eR:List Tok->Res T
 cp:List Tok->Res T
 function:List Tok->Res T
 dj:Kd->List Tok->Res T
 listed:Kd->List Tok->Res (List T)
 block:List Tok->Res (List T)
 stmts:Kd->List Tok->Res (List T)
 stmt:List Tok->Res T
 di:Kd->List Tok->Res T
 telling:Kd->List Tok->Res T
 iff:List Tok->Res T
 kK:List Tok->Res T
 iT:List Tok->Res T
def rq(F:jf)(ts:[5]):[58]:=(F.orr ts).bind λfirst r=>[4,hd r,.quest,(F.orr [122]).bind λsecond r=>[20,.colon,(F.orr r).bind λthird r=> .ok (eS .quest [first,second,third]) r],[12,first]]
def zS(F:jf)(ts:[5]):[58]:=[6,.not_,[51,F.compared [61],.ok (eS .not_ [e]) r],F.compared ts]
def iu(F:jf)(ts:[5]):[58]:=(F.joined ts).bind λleft r=>[4,strength (hd r),4,(F.joined [122]).bind λright r'=> .ok (eS (hd r) [left,right]) r',[12,left]]
def join(st:Nat)(x:T):([281])->T×[281]
 | []=>(x,[])
 |(l,s)::gI=>if[935] then join st (eS s [l,x]) gI else(x,(l,s)::gI)
def ec(part:([5])->[58])(lo hi:Nat):Nat->T->([281])->([5])->[58]
 |0,_,_,_=> .out
 |k+1,x,gI,ts=>if lo<=[254]/\[254]<=hi then(part [61]).bind λy r=>ec part lo hi k y (((join [254] x gI).1,[12])::(join [254] x gI).2) r else .ok (join lo x gI).1 ts
def lV(F:jf)(j:Bool)(ts:List Tok):Res T:=
 let part:=if j then F.signed else F.jd
 (part ts).bind λx r=>ec part (if j then 5 else 1) (if j then 7 else 2) (r.length+1) x [] r
def kG(F:jf)(ts:[5]):[58]:=[6,.sub,[51,F.bH [61],.ok (eS .minus [e]) r],F.bH ts]
def eZ(F:jf):Nat->T->([5])->[58]
 |0,_,_=> .out
 |k+1,x,ts=>[6,.lpar,[40,F.listed .rpar [61],eZ F k (eS .call (x::l)) r],[6,.iU,[51,F.expr [61],[20,.pQ,eZ F k (eS .element [x,e]) r]],[6,.dot,[40,tk .name [61],eZ F k (eS .field [x] (name:=some [147])) r],.ok x ts]]]
def jr(F:jf)(ts:[5]):[58]:=[98,F.simple ts,eZ F [90] x r]
def dY(F:jf):[1227]
 |0,_,_=> .out
 |k+1,acc,ts=>[6,.comma,[51,F.expr [61],dY F k (acc++[e]) r],.ok acc ts]
def jq(F:jf)(close:Kd)(ts:[5]):Res [24]:=[6,close,.ok [] [61],[51,F.expr ts,[40,dY F [90] [e] r,[20,close,[12,l]]]]]
def kH(F:jf)(ts:[5]):[58]:=[6,.number,[99,.number,.ok (eS .number (value:= .num (numOf l))) r],[6,.quoted,[99,.quoted,.ok (eS .quoted (value:= .quoted [147])) r],[6,.name,[99,.name,.ok (eS .name (name:=some [147])) r],[6,.lpar,F.eR ts,[6,.qK,F.function ts,if(fK [12]).isSome then F.dj [12] ts else[6,.iU,[40,F.listed .pQ [61],.ok (eS .list l) r],if[1007] then .ok (eS [12]) [61] else .bad]]]]]]
def js(F:jf)(ts:[5]):[58]:=[82,.lpar,[4,hd r,.colon,(tk .rpar [122]).bind λ_ r=> .ok (eS .record) r,if[761] then F.cp r else[51,F.expr r,[20,.rpar,[12,e]]]]]
def lg(F:jf)(ts:[5]):Res (Bytes×T):=[99,.name,[20,.colon,[51,F.expr r,[12,([147],e)]]]]
def dk(F:jf):Nat->([23])->([24])->([5])->[58]
 |0,_,_,_=> .out
 |k+1,ns,ps,ts=>[6,.comma,[98,lg F [61],dk F k (ns++[x.1]) (ps++[x.2]) r],[82,.rpar,.ok (eS .record ps (names:=ns)) r]]
def ic(F:jf)(ts:[5]):[58]:=[98,lg F ts,dk F [90] [x.1] [x.2] r]
def dn:[1226]
 |0,_,_=> .out
 |k+1,acc,ts=>[156,.name,dn k (acc++[[147]]) r]
def cU(ts:[5]):Res [23]:=[6,.rpar,.ok [] [61],[99,.name,[346,dn [90] [[147]] r]]]
def iy(F:jf)(ts:[5]):[58]:=[82,.qK,[4,hd r,.name,(tk .name r).bind λl r=> .ok (some [147]) r,[12,none]].bind λown r=>[20,.lpar,(cU r).bind λps r=>(F.block r).bind λs r=> .ok (eS .qK [] [s] own ps) r]]
def iA(F:jf)(w:Kd)(ts:[5]):[58]:=[82,w,[20,.lpar,[40,F.listed .rpar r,[4,some l.length,[68,fK w],.ok (eS w l) r,.bad]]]]
def nJ(F:jf)(ts:[5]):Res [24]:=[82,.qX,[40,F.stmts .iL r,[20,.iL,[12,l]]]]
def gg(F:jf)(close:Kd):[1227]
 |0,_,_=> .out
 |k+1,acc,ts=>[6,close,.ok acc ts,(F.stmt ts).bind λs r=>gg F close k (acc++[s]) r]
def zU(F:jf)(close:Kd)(ts:[5]):Res [24]:=gg F close (ts.length+1) [] ts
def d6(ts:[5]):Res Int:=[6,.sub,[40,tk .number [61],.ok (-[2,numOf l]) r],[99,.number,[12,[2,numOf l]]]]
def jU(ts:[5]):[58]:=[127,.cq,[20,.eq,(d6 r).bind λv r=>[20,.CL,(d6 r).bind λlo r=>[20,.comma,(d6 r).bind λh r=>[291,eS .cq (name:=[163,x]) (value:= .three v lo h)]]]]]
def gC:[1226]
 |0,_,_=> .out
 |k+1,acc,ts=>[156,.quoted,gC k (acc++[[147]]) r]
def jT(ts:[5]):[58]:=[127,.bW,[20,.eq,(tk .number r).bind λv r=>[20,.CL,(tk .quoted r).bind λo r=>[40,gC [90] [wordOf o] r,[291,eS .bW (name:=[163,x]) (value:= .choice (numOf v) l)]]]]]
def iz(F:jf)(k:Kd)(ts:[5]):[58]:=[127,k,[20,.eq,[51,F.expr r,[291,eS k [e] (name:=[163,x])]]]]
def jt(F:jf)(k:Kd)(ts:[5]):[58]:=[82,k,[51,F.expr r,[20,.semi,.ok (eS k [e]) r]]]
def Pf(F:jf)(ts:[5]):[58]:=[159,.x8,[4,hd r,.uZ,(F.block [122]).bind λy r=> .ok (eS .x8 [c] [x,y]) r,.ok (eS .x8 [c] [x]) r]]
def nM(F:jf)(ts:[5]):[58]:=[159,.while_,.ok (eS .while_ [c] [x]) r]
def zR(F:jf)(ts:[5]):[58]:=[127,.iJ,[20,.CL,[51,F.expr r,[40,F.block r,.ok (eS .iJ [e] [l] (name:=[163,x])) r]]]]
def o5(F:jf)(ts:[5]):[58]:=if[631] then F.di [12] ts else if(pS [12]).isSome then F.telling [12] ts else[6,.x8,F.iff ts,[6,.while_,F.kK ts,[6,.iJ,F.iT ts,[6,.cq,jU ts,[6,.bW,jT ts,.bad]]]]]
def outF:jf:=⟨[97],[97],[422],[97],[97],[97],[97],[97],[97],[97],[97],[97],[422],[422],[97],[422],[97],[422],[422],[97],[97],[97]⟩
def Mg(F:jf):jf where
 expr:=rq F
 orr:=F.chain false
 chain:=lV F
 jd:=zS F
 compared:=iu F
 joined:=F.chain true
 signed:=kG F
 bH:=jr F
 simple:=kH F
 eR:=js F
 cp:=ic F
 function:=iy F
 dj:=iA F
 listed:=jq F
 block:=nJ F
 stmts:=zU F
 stmt:=o5 F
 di:=iz F
 telling:=jt F
 iff:=Pf F
 kK:=nM F
 iT:=zR F
def Fn:Nat->jf
 |0=>outF
 |n+1=>Mg (Fn n)
section
variable {r:[5]} {k':Int} {c':Nat} {kd:Kd} {s:String}
def delta:Kd->Int
 | .lpar=>1| .iU=>1| .qX=>1| .rpar=> -1| .pQ=> -1| .iL=> -1|_=>0
theorem vX(l:Lex):opening l=[2,delta [83],1]:=by
 have h:opening l=decide ([83]= .lpar\/[83]= .iU\/[83]= .qX):=by
  unfold opening;rw[show(l==[187,"("])=[2,[83],.lpar] from[93,d5 (p:=("(",.lpar)) [3]],show(l==[187,"["])=[2,[83],.iU] from[93,d5 (p:=("[",.iU)) [3]],show(l==[187,"{"])=[2,[83],.qX] from[93,d5 (p:=("{",.qX)) [3]]];simp[Bool.or_assoc]
 rw[h];cases kdOf l<;>rfl
theorem uU(l:Lex):closing l=[2,delta [83],-1]:=by
 have h:closing l=decide ([83]= .rpar\/[83]= .pQ\/[83]= .iL):=by
  unfold closing;rw[show(l==[187,")"])=[2,[83],.rpar] from[93,d5 (p:=(")",.rpar)) [3]],show(l==[187,"]"])=[2,[83],.pQ] from[93,d5 (p:=("]",.pQ)) [3]],show(l==[187,"}"])=[2,[83],.iL] from[93,d5 (p:=("}",.iL)) [3]]];simp[Bool.or_assoc]
 rw[h];cases kdOf l<;>rfl
theorem AD(k:Kd):delta k=1\/delta k= -1\/delta k=0:=by cases k<;>simp[delta]
def Dp(h:Int)(ts:[5]):Prop:=tooDeepAt h ts=none
theorem Dp.cons {h:Int} {t:Tok}(x:Dp h (t::r)):Dp (h+delta [31]) r/\(delta [31]=1->h<24):=by
 unfold Dp tooDeepAt at x;rw[vX,uU] at x;rcases AD (kdOf t.lex) with e|e|e
 ·simp only[e,decide_true,if_true] at x;split at x
  ·cases x
  ·rw[e];rw[3,x,λ_=>[2]]
 ·simp only[e] at x;rw[e];rw[3,x,λz=>[2]]
 ·simp only[e] at x;rw[e];rw[3,(by simpa [Dp] using x),λz=>[2]]
def Net(k:Int)(ts r:[5]):Prop:=∀h,Dp h ts->Dp (h+k) r
def At(ts:[5])(k:Int)(c:Nat)(r:[5]):Prop:=r.length+c<=ts.length/\Net k ts r
theorem At.refl(ts:[5]):At ts 0 0 ts:=⟨[8],λh x=>by simpa using x⟩
theorem At.take {ts:[5]} {k:Int} {c:Nat} {t:Tok}(a:At ts k c (t::r)):At ts (k+delta [31]) (c+1) r:=⟨by have:=a.1;simp at this;omega,λh x=>by have:=(a.2 h x).cons.1;rwa [Int.add_assoc] at this⟩
theorem At.sub {ts r':[5]} {k:Int} {c:Nat}(a:[627])(a':At r k' c' r'):At ts (k+k') (c+c') r':=⟨by rw[12,a.1,a'.1],λh x=>by have:=a'.2 _ (a.2 h x);rwa [Int.add_assoc] at this⟩
theorem At.weak {ts:[5]} {k:Int} {c:Nat}(a:[627])(hk:k=k')(hc:c'<=c):At ts k' c' r:=⟨by rw[0,a.1],hk▸a.2⟩
theorem At.len {ts:[5]} {k:Int} {c:Nat}(a:[627]):r.length+c<=ts.length:=a.1
theorem At.dp {ts:[5]} {k:Int} {c:Nat} {h:Int}(a:[627])(x:Dp h ts):Dp (h+k) r:=a.2 h x
def bj {α β:Type}(rel:[4,β,α])(P:[357])(M:[65])(S:[883]):Prop:=match M with
 | .out=>False
 | .bad=>∃k,S= .error k
 | .ok a r=>∃x,S= .ok (x,r)/\rel x a/\P r
theorem bj.bind {α β γ δ:Type} {rel:[4,β,α]} {P:[357]} {rel':[4,δ,γ]} {P':[357]} {M:[65]} {S:[883]} {f:α->([5])->Res γ} {g:[247,β]} (h:bj rel P M S)(k:∀a x r,rel x a->P r->bj rel' P' (f a r) (g (x,r))):bj rel' P' (M.bind f) (S>>=g):=by cases M with
 |out=>exact h.elim
 |bad=>
  obtain⟨e,rfl⟩:=h;rw[3,e,rfl]
 |ok a r=>
  obtain⟨x,rfl,h1,h2⟩:=h;exact k a x r h1 h2
theorem bj.imp {α β:Type} {rel rel':[4,β,α]} {P P':[357]} {M:[65]} {S:[883]}(h:bj rel P M S)(k:∀x a,rel x a->rel' x a)(k':∀r,P r->P' r):bj rel' P' M S:=by cases M with
 |out=>exact h.elim
 |bad=>exact h
 |ok a r=>
  obtain⟨x,e,h1,h2⟩:=h;rw[0,x,e,k _ _ h1,k' _ h2]
theorem bj.ok {α β:Type} {rel:[4,β,α]} {P:[357]} {a:α} {x:β} {r:[5]}(h:rel x a)(p:P r):bj rel P [12,a] (.ok (x,r)):=⟨x,rfl,h,p⟩
section
variable {γ δ:Type} {rel':[4,δ,γ]} {P':[357]} {f:Lex->([5])->Res γ} {ts T0:[5]} {k:Int} {c:Nat}
theorem E5 {p:Tok->Bool} {g:([5])->Except Nat (δ×[5])}(hp:next p ts=[2,[12],kd])(hf:kd≠.fin)(a:[315]) (q:[1033]):[100,kd,eat p ts]:=by cases ts with
 |nil=>
  unfold eat;rw[hp,[20,hd [],kd,λe=>hf e.symm]];rw[1]
 |cons t r=>
  unfold eat;rw[hp];rw[34];by_cases e:[31]=kd
  ·rw[[379],[41,[2,hd (t::r),kd],e]];rw[5,q _ _ a.take λh x=>(x.cons).2]
  ·rw[[343],[20,hd (t::r),kd,e]];rw[1]
theorem cv {g:([5])->Except Nat (δ×[5])}(hp:(s,kd)∈aU)(a:[315]) (q:[1033]):[100,kd,eat (isSign s) ts]:=E5 (bx hp ts) (λe=>([33,[704]]) _ hp e) a q
theorem uY {g:([5])->Except Nat (δ×[5])}(hp:(s,kd)∈aW)(a:[315]) (q:[1033]):[100,kd,eat (isWord s) ts]:=E5 (cC hp ts) (λe=>([33,[147,Kd.fin]]) _ hp e) a q
theorem jh {g:[247,Bytes]}(a:[315])(q:[1162]):[100,.name,name ts]:=by
 unfold name;rw[j3];cases ts with
  |nil=>rw[1]
  |cons t r=>
   unfold tk;by_cases e:[31]= .name
   ·have a':=a.take;rw[e] at a';simp only[[379]];exact q _ _ (a'.weak (by simp[delta]) [8])
   ·simp only[[343]];rw[1]
theorem qe {g:[247,Nat]}(a:[315])(q:∀l r,At T0 k (c+1) r->[341,(numOf l,r)]):[100,.number,number ts]:=by cases ts with
 |nil=>rw[1]
 |cons t r=>
  obtain⟨l,p,n⟩:=t;unfold tk;cases l with
   |num v=>
    have a':=a.take;show[280,kdOf (.num v)];rw[0,if_pos [11,kdOf (Lex.num v),Kd.number,rfl],[1163]]
   |quoted v=>
    show[280,kdOf (.quoted v)];rw[0,if_neg (by intro e;cases e),[53]]
   |word v=>
    show[280,[54,v]];rw[if_neg];rw[1];intro e;rcases eO v with h|⟨p,hp,rfl⟩
    ·rw[55]
    ·rw[[595]] at e;have:[879]:=[3];exact[766]
   |sign v=>
    show[280,[90,v]];rw[if_neg];rw[1];intro e;rcases eJ v with h|⟨p,hp,rfl⟩
    ·rw[54]
    ·rw[[594]] at e;have:[878]:=[3];exact[766]
theorem uV {g:[247,Bytes]}(a:[315])(q:[1162]):[100,.quoted,quoted ts]:=by cases ts with
 |nil=>rw[1]
 |cons t r=>
  obtain⟨l,p,n⟩:=t;unfold tk;cases l with
   |quoted v=>
    have a':=a.take;show[281,kdOf (.quoted v)];rw[0,if_pos [11,kdOf (Lex.quoted v),Kd.quoted,rfl],[1163]]
   |num v=>
    show[281,kdOf (.num v)];rw[0,if_neg (by intro e;cases e),[53]]
   |word v=>
    show[281,[54,v]];rw[if_neg];rw[1];intro e;rcases eO v with h|⟨p,hp,rfl⟩
    ·rw[55]
    ·rw[[595]] at e;have:[880]:=[3];exact[766]
   |sign v=>
    show[281,[90,v]];rw[if_neg];rw[1];intro e;rcases eJ v with h|⟨p,hp,rfl⟩
    ·rw[54]
    ·rw[[594]] at e;have:[877]:=[3];exact[766]
theorem At.eD(a:[315])(e:[12]=kd)(hf:kd≠.fin):At T0 (k+delta kd) (c+1) [61]/\[1089]/\∃t,ts=t::[61]/\[31]=kd:=by cases ts with
 |nil=>exact absurd e.symm hf
 |cons t r=>exact[3,(by have:=a.take;rwa [[11,[31],kd,e]] at this),(λh x=>by have:=x.cons.2;rwa [[11,[31],kd,e]] at this),t,e]
end
end
section
variable {d c:Nat} {ts r:[5]}
abbrev RE:[4,Expr,T]:=λe t=>t=cO e
abbrev RL:[4,Exprs,[24]]:=λe t=>t=xu e
abbrev RS:[4,Stmt,T]:=λe t=>t=lq e
abbrev RB:[4,Stmts,[24]]:=λe t=>t=iE e
def iO(d:Nat)(ts:[5]):Prop:=Dp (24 -[2,d]) ts
theorem iO.at(x:[59])(a:At ts 0 c r):iO d r:=by
 have:=a.dp x;simpa [iO] using this
theorem iO.CL {k:Int}(x:[59])(a:[627])(hk:k=1)(h:∀h,Dp h ts->h<24):∃d',d=d'+1/\iO d' r:=by
 have h1:(24 -[2,d])<24:=h _ x;obtain⟨d',rfl⟩:∃d',d=d'+1:=[72,d -1];rw[6,d',rfl];have:=a.dp x;subst hk;unfold iO;have e:(24 -[11,d'+1]+1)=24 -[2,d']:=[2];rwa [e] at this
structure Good(n:Nat):Prop where
 expr:∀d ts m,iO d ts->15*d+12<=n->16*ts.length+12<=m->bj RE (At ts 0 1) ((Fn n).expr ts) (expr m ts)
 orr:∀d ts m,iO d ts->15*d+11<=n->16*ts.length+11<=m->bj RE (At ts 0 1) ((Fn n).orr ts) (line m 1 ts)
 Jd:∀d ts m,iO d ts->15*d+10<=n->16*ts.length+11<=m->bj RE (At ts 0 1) ((Fn n).chain false ts) (line m 1 ts)
 jd:∀d ts m,iO d ts->15*d+9<=n->16*ts.length+9<=m->bj RE (At ts 0 1) ((Fn n).jd ts) (line m 3 ts)
 compared:∀d ts m,iO d ts->15*d+8<=n->16*ts.length+8<=m->bj RE (At ts 0 1) ((Fn n).compared ts) (line m 4 ts)
 joined:∀d ts m,iO d ts->15*d+7<=n->16*ts.length+7<=m->bj RE (At ts 0 1) ((Fn n).joined ts) (line m 5 ts)
 Je:∀d ts m,iO d ts->15*d+6<=n->16*ts.length+7<=m->bj RE (At ts 0 1) ((Fn n).chain true ts) (line m 5 ts)
 signed:∀d ts m,iO d ts->15*d+5<=n->16*ts.length+4<=m->bj RE (At ts 0 1) ((Fn n).signed ts) (line m 8 ts)
 bH:∀d ts m,iO d ts->15*d+4<=n->16*ts.length+3<=m->bj RE (At ts 0 1) ((Fn n).bH ts) (line m 9 ts)
 simple:∀d ts m,iO d ts->15*d+3<=n->16*ts.length+2<=m->bj RE (At ts 0 1) ((Fn n).simple ts) (simple m ts)
 eR:∀d ts m,hd ts= .lpar->iO d ts->15*d+2<=n->16*ts.length<=m->bj RE (At ts 0 1) ((Fn n).eR ts) (inBrackets m (ts.drop 1))
 cp:∀d ts m,iO d ts->15*d+13<=n->16*ts.length+1<=m->bj RE (At ts (-1) 1) ((Fn n).cp ts) (do let(l,r) <-fields m ts;let r <-eat (isSign ")") r;return (.record l,r))
 function:∀d ts m,hd ts= .qK->iO d ts->15*d+2<=n->16*ts.length<=m->bj RE (At ts 0 1) ((Fn n).function ts) (function m (ts.drop 1))
 dj:∀d ts m p k,fK (hd ts)=some (p,k)->iO d ts->15*d+2<=n->16*ts.length<=m->bj RE (At ts 0 1) ((Fn n).dj (hd ts) ts) (do let r <-eat (isSign "(") (ts.drop 1);let(l,r) <-parts m k r;return (.prim p l,r))
 listed:∀d ts m s c,(s,c)∈aU->delta c= -1->iO d ts->15*d+13<=n->16*ts.length+13<=m->bj RL (At ts (-1) 1) ((Fn n).listed c ts) (listed m s ts)
 block:∀d ts m,iO d ts->15*d+1<=n->16*ts.length+1<=m->bj RB (At ts 0 1) ((Fn n).block ts) (block m ts)
 stmts:∀d ts m c,(c= .fin\/c= .iL)->iO d ts->15*d+15<=n->16*ts.length+2<=m->bj RB (At ts 0 0) ((Fn n).stmts c ts) (do let(l,r) <-statements m ts;if hd r=c then .ok (l,r) else .error 0)
 stmt:∀d ts m,iO d ts->15*d+14<=n->16*ts.length+1<=m->bj RS (At ts 0 1) ((Fn n).stmt ts) (statement m ts)
 di:∀d ts m,(hd ts= .oP\/hd ts= .dy)->iO d ts->15*d+13<=n->16*ts.length+1<=m->bj RS (At ts 0 1) ((Fn n).di (hd ts) ts) (statement m ts)
 telling:∀d ts m w,pS (hd ts)=some w->iO d ts->15*d+13<=n->16*ts.length+1<=m->bj RS (At ts 0 1) ((Fn n).telling (hd ts) ts) (statement m ts)
 iff:∀d ts m,hd ts= .x8->iO d ts->15*d+13<=n->16*ts.length+1<=m->bj RS (At ts 0 1) ((Fn n).iff ts) (statement m ts)
 kK:∀d ts m,hd ts= .while_->iO d ts->15*d+13<=n->16*ts.length+1<=m->bj RS (At ts 0 1) ((Fn n).kK ts) (statement m ts)
 iT:∀d ts m,hd ts= .iJ->iO d ts->15*d+13<=n->16*ts.length+1<=m->bj RS (At ts 0 1) ((Fn n).iT ts) (statement m ts)
theorem QF(m:Nat)(ts:List Tok):line (m+1) 3 ts=if next (isWord "not") ts then do
 let(e,r) <-line m 4 (ts.drop 1)
 return (.not e,r)
 else line m 4 ts:=by rw[line];rfl
theorem QG(m:Nat)(ts:List Tok):line (m+1) 4 ts=(do
 let(x,r) <-line m 5 ts
 match opNext 4 r with
 |some o=>do
  let(y,r) <-line m 5 (r.drop 1)
  return (.bin o x y,r)
 |none=>return (x,r)):=by rw[line];rfl
theorem QH(m:Nat)(ts:List Tok):line (m+1) 8 ts=if next (isSign "-") ts then do
 let(e,r) <-line m 9 (ts.drop 1)
 return (.minus e,r)
 else line m 9 ts:=by rw[line];rfl
theorem QI(m:Nat)(ts:List Tok):line (m+1) 9 ts=(do
 let(x,r) <-simple m ts
 reach m x r):=by rw[line];rfl
theorem pY {k:Nat}(hk:k=1\/k=2\/k=5\/k=6\/k=7)(m:Nat)(ts:List Tok):line (m+1) k ts=(do
 let(x,r) <-line m (k+1) ts
 chain m k x r):=by rcases hk with rfl|rfl|rfl|rfl|rfl<;>(rw[line];rfl)
theorem G9:Good 0:=by constructor<;>(intros;omega)
section
variable {n:Nat}(G:Good n)
include G
theorem RR(d:Nat)(ts:[5])(m:Nat)(hb:[59])(hn:[53,12])(hm:[75,12]):bj RE [273] (rq (Fn n) ts) (expr m ts):=by
 rw[5];rw[expr];unfold rq;refine bj.bind (G.orr d ts m hb [2] [2]) [143];dsimp only;subst e;rw[27,[39,"?",.quest]];by_cases h:hd r= .quest
 ·rw[[56],[56]];have p1:=(p.eD h [3]).1;refine bj.bind (G.orr d _ m [762] [2] (by rw[11])) [143];subst e;have p2:=[167];rw[1,[32,":",p2,[674]],bj.bind (G.orr d r m (hb.at (p3.weak [3] [8])) [2] (by rw[0,p3.len])) [143]];rw[5,[159,p3.sub p]]
 ·rw[[48],[48]];exact bj.ok rfl p
theorem X0(d:Nat)(ts:[5])(m:Nat)(hb:[59])(hn:[53,11])(hm:[75,11]):[90,(Fn n).chain false ts,1]:=G.Jd d ts m hb [2] hm
theorem JV(d:Nat)(ts:[5])(m:Nat)(hb:[59])(hn:[53,7])(hm:[75,7]):[90,(Fn n).chain true ts,5]:=G.Je d ts m hb [2] hm
theorem RU(d:Nat)(ts:[5])(m:Nat)(hb:[59])(hn:[53,9])(hm:[75,9]):[90,zS (Fn n) ts,3]:=by
 rw[5];rw[QF];unfold zS;rw[27,[1236]];by_cases h:[12]= .not_
 ·rw[[56],[56]];have p1:=[63,h].1;refine bj.bind (G.compared d _ m [762] [2] (by rw[11])) [143];rw[5,[159,[167]]]
 ·rw[[48],[48]];exact G.compared d ts m hb [2] [2]
theorem Dm(d:Nat)(ts:[5])(m:Nat)(hb:[59])(hn:[53,8])(hm:[75,8]):[90,iu (Fn n) ts,4]:=by
 rw[5];rw[QG];unfold iu;rw[35,G.joined d ts m hb [2] [2]];rw[sI (.inr (.inr [38]))];by_cases h:strength (hd r)=4
 ·rw[[56],[56]];dsimp only;have hk:hd r≠.fin:=by
   intro e;rw[e] at h;cases h
  have p1:=(p.eD rfl hk).1;have hd0:delta (hd r)=0:=by
   revert h;cases hd r<;>simp[strength,delta]
  rw[hd0] at p1;refine bj.bind (G.joined d _ m [762] [2] (by rw[11])) λa x r' e p'=> ?_;subst e;refine bj.ok ?_ [89,p1.sub p'];show eS (hd r) _=eS (Fv (uc (hd r))) _;rw[Fw (by rw[h];decide)]
 ·rw[[48],[48]];exact bj.ok rfl p
theorem JX(d:Nat)(ts:[5])(m:Nat)(hb:[59])(hn:[53,5])(hm:[75,4]):[90,kG (Fn n) ts,8]:=by
 rw[5];rw[QH];unfold kG;rw[27,[39,"-",.sub]];by_cases h:[12]= .sub
 ·rw[[56],[56]];have p1:=[63,h].1;refine bj.bind (G.bH d _ m [762] [2] (by rw[11])) [143];rw[5,[159,[167]]]
 ·rw[[48],[48]];exact G.bH d ts m hb [2] [2]
theorem nF(d:Nat)(T0:[5])(hb:iO d T0)(hn:[53,4]):∀(k:Nat) (x:Expr) (ts:[5]) (m:Nat),ts.length+1<=k->At T0 0 1 ts->([269])->bj RE (At T0 0 1) (eZ (Fn n) k (cO x) ts) (reach m x ts)
 |0,x,ts,m,hk,_,_=>[2]
 |k+1,x,ts,m,hk,a,hm=>by
  rw[5];rw[reach];unfold eZ;rw[[39,"(",.lpar],[39,"[",.iU],[39,".",.dot]];simp only[decide_eq_true_eq];have hbt:[59]:=hb.at a;by_cases h1:[12]= .lpar
  ·rw[if_pos h1,if_pos h1];rw[18,[63,h1],[1255]];refine bj.bind (G.listed d' _ m ")" .rpar [3] [3] xY [2] (by rw[11])) [833];subst e;have p2:=[167];exact nF (d'+1) T0 hb hn k (.call x x') r m (by rw[16]) [89,a.sub p2] (by rw[16])
  ·rw[[221],[221]];by_cases h2:[12]= .iU
   ·rw[if_pos h2,if_pos h2];rw[18,[63,h2],[1255]];refine bj.bind (G.expr d' _ m xY [2] (by rw[11])) [833];subst e;rw[4,[27,"]",[167],λl r' p3 _=> ?_],nF (d'+1) T0 hb hn k (.index x x') r' m (by rw[0,p3.len]) [89,a.sub p3] (by rw[0,p3.len])]
   ·rw[[193],[193]];by_cases h3:[12]= .dot
    ·rw[if_pos h3,if_pos h3];obtain⟨p1,_,_⟩:=[63,h3];rw[4,[480],nF d T0 hb hn k (.field x [147]) r m (by rw[16]) [89,a.sub p2] (by rw[16])]
    ·rw[[464],[464]];exact bj.ok rfl a
theorem G6(d:Nat)(ts:[5])(m:Nat)(hb:[59])(hn:[53,4])(hm:[75,3]):[90,jr (Fn n) ts,9]:=by
 rw[5];rw[QI];unfold jr;refine bj.bind (G.simple d ts m hb [2] [2]) [143];rw[5,nF G d ts hb hn _ x r m [8] p (by rw[25])]
theorem sE(d:Nat):∀(k:Nat) (acc:[24]) (ts:[5]) (m:Nat),([59])->([298])->ts.length+1<=k->([269])->bj (λl a=>a=acc++xu l) (At ts 0 0) (dY (Fn n) k acc ts) (more m ts)
 |0,acc,ts,m,_,_,hk,_=>[2]
 |k+1,acc,ts,m,hb,hn,hk,hm=>by
  rw[5];rw[more];unfold dY;rw[27,[386]];by_cases h:[12]= .comma
  ·rw[[56],[56]];have p1:=[63,h].1;have xm:=hb.at [1256];refine bj.bind (G.expr d _ m xm [2] (by rw[11])) [143];subst e;have p2:=[167];have ih:=sE d k (acc++[cO x]) r m (xm.at p) hn (by rw[16]) (by rw[16]);have:=ih.imp (rel':=λl a=>a=acc++cO x::xu l) (P':=At ts 0 0) (λl a q=>by rw[q,List.append_assoc];rfl) λr' q=>[89,p2.sub q];dsimp only;cases h2:dY (Fn n) k (acc++[cO x]) r with
    |out=>
     rw[h2] at this;exact this.elim
    |bad=>
     rw[h2] at this;obtain⟨e,q⟩:=this;rw[q];rw[1]
    |ok a r'=>
     rw[h2] at this;obtain⟨l,q,e,pr⟩:=this;rw[q];rw[0,.cons x l,rfl,e,pr]
  ·rw[[48],[48]];exact bj.ok (by simp[xu]) [322]
theorem JW(d:Nat)(ts:[5])(m:Nat)(s:String)(c:Kd)(hs:(s,c)∈aU)(hc:delta c= -1)(hb:[59])(hn:[298])(hm:[75,13]):bj RL (At ts (-1) 1) (jq (Fn n) c ts) (listed m s ts):=by
 rw[5];rw[listed];unfold jq;rw[27,bx hs];have hcf:c≠.fin:=λe=>([33,[704]]) _ hs e;by_cases h:[12]=c
 ·rw[[56],[56]];have p1:=([322].eD h hcf).1;exact[32,p1.weak [2] [2]]
 ·rw[[48],[48]];rw[35,G.expr d _ m hb [2] [2]];refine bj.bind (sE G d _ [cO x] r m (hb.at p) hn [8] (by rw[25])) λa l r e p'=> ?_;subst e;have p2:=p.sub p';rw[4,cv hs p2 [512],[32,p3.weak [2] [2]]]
end
end
section
variable {s:String}
theorem yc {k:Kd}(hp:(s,k)∈aU)(t:Tok):isSign s t=[700]:=[93,d5 hp]
theorem pE {k:Kd}(hp:(s,k)∈aW)(t:Tok):isWord s t=[700]:=[93,gQ hp]
theorem yJ(m:Nat)(t:Tok)(r:List Tok)(h1:∀v,t.lex≠ .num v)(h2:∀v,t.lex≠ .quoted v):simple (m+1) (t::r)=
 (if kdOf t.lex= .iU then(do let(l,r) <-listed m "]" r;return (.list l,r))
  else if kdOf t.lex= .lpar then inBrackets m r
  else if kdOf t.lex= .qK then function m r
  else if kdOf t.lex= .qH then .ok (.truth true,r)
  else if kdOf t.lex= .DY then .ok (.truth false,r)
  else if kdOf t.lex= .none_ then .ok (.nothing,r)
  else if kdOf t.lex= .name then .ok (.name (wordOf t.lex),r)
  else match fK (kdOf t.lex) with
   |some (p,k)=>do
    let r <-eat (isSign "(") r
    let(l,r) <-parts m k r
    return (.prim p l,r)
   |none=>halt_ (t::r)):=by
 have e:simple (m+1) (t::r)=(if isSign "[" t then(do
  let(l,r) <-listed m "]" r
  return (.list l,r))
  else if isSign "(" t then inBrackets m r
  else if isWord "fn" t then function m r
  else if isWord "yes" t then .ok (.truth true,r)
  else if isWord "no" t then .ok (.truth false,r)
  else if isWord "none" t then .ok (.nothing,r)
  else match nameNext (t::r) with
   |some x=> .ok (.name x,r)
   |none=>match(wordNext (t::r)).bind primOf with
    |some (p,k)=>(do
     let r <-eat (isSign "(") r
     let(l,r) <-parts m k r
     return (.prim p l,r))
    |none=>halt_ (t::r)):=by
  obtain⟨l,p,nn⟩:=t
  cases l with
  |num v=>exact absurd rfl (h1 v)
  |quoted v=>exact absurd rfl (h2 v)
  |word w=>rw[simple]<;>first|rfl|(intros;simp_all)
  |sign w=>rw[simple]<;>first|rfl|(intros;simp_all)
 rw[e,O8,j3,yc (s:="[") (k:= .iU) (by decide),yc (s:="(") (k:= .lpar) (by decide),pE (s:="fn") (k:= .qK) (by decide),pE (s:="yes") (k:= .qH) (by decide),pE (s:="no") (k:= .DY) (by decide),pE (s:="none") (k:= .none_) (by decide)];simp only[decide_eq_true_eq];by_cases hn:kdOf t.lex= .name
 ·simp only[hn,if_true]
 ·simp only[if_neg hn];rfl
section
variable {n:Nat}(G:Good n)
include G
theorem JY(d:Nat)(ts:[5])(m:Nat)(hb:[59])(hn:[53,3])(hm:[75,2]):bj RE [273] (kH (Fn n) ts) (simple m ts):=by
 rw[5];cases ts with
  |nil=>
   rw[simple];rw[1]
  |cons t r=>
   have hl:(t::r).length=r.length+1:=rfl;have p0:=(At.refl (t::r)).take;by_cases c1:∃v,t.lex= .num v
   ·obtain⟨v,e⟩:=c1;obtain⟨l,p,nn⟩:=t;cases e;rw[simple];exact[32,p0.weak rfl [8]]
   by_cases c2:∃v,t.lex= .quoted v
   ·obtain⟨v,e⟩:=c2;obtain⟨l,p,nn⟩:=t;cases e;rw[simple];exact[32,p0.weak rfl [8]]
   rw[yJ m t r (λv e=>c1 ⟨v,e⟩) (λv e=>c2 ⟨v,e⟩)];have k1:[31]≠.number:=λe=>by cases hl:t.lex with
    |num v=>exact c1 ⟨v,hl⟩
    |quoted v=>exact c2 ⟨v,hl⟩
    |word v=>
     rw[hl] at e;rcases eO v with h|⟨p,hp,rfl⟩
     ·rw[55]
     ·rw[[60,gQ hp]] at e;exact([33,[879]]) p hp e
    |sign v=>
     rw[hl] at e;rcases eJ v with h|⟨p,hp,rfl⟩
     ·rw[54]
     ·rw[[60,d5 hp]] at e;exact([33,[878]]) p hp e
   have k2:[31]≠.quoted:=λe=>by cases hl:t.lex with
    |num v=>exact c1 ⟨v,hl⟩
    |quoted v=>exact c2 ⟨v,hl⟩
    |word v=>
     rw[hl] at e;rcases eO v with h|⟨p,hp,rfl⟩
     ·rw[55]
     ·rw[[60,gQ hp]] at e;exact([33,[880]]) p hp e
    |sign v=>
     rw[hl] at e;rcases eJ v with h|⟨p,hp,rfl⟩
     ·rw[54]
     ·rw[[60,d5 hp]] at e;exact([33,[877]]) p hp e
   unfold kH;show bj RE (At (t::r) 0 1) [101,.number,[101,.quoted,[101,.name,[101,.lpar,[101,.qK,if(fK [31]).isSome then _ else[101,.iU,if[31]= .qH\/[31]= .DY\/[31]= .none_ then _ else _]]]]]] _;rw[if_neg k1,if_neg k2];have Gr:=G.eR d (t::r) m;have Gf:=G.function d (t::r) m;have Gw:=G.dj d (t::r) m;have hh:hd (t::r)=[31]:=rfl;have AY:∀k,[31]=k->tk k (t::r)=[12,t.lex]:=λk e=>by
    rw[34];rw[17,e]
   cases hk:kdOf t.lex with
    |name=>
     simp only[reduceCtorEq,if_false,if_true];rw[0,AY _ hk,[32,p0.weak (by rw[hk];rfl) [8]]]
    |lpar=>
     simp only[reduceCtorEq,if_false,if_true];exact Gr (hh.trans hk) hb [2] [2]
    |qK=>
     simp only[reduceCtorEq,if_false,if_true];exact Gf (hh.trans hk) hb [2] [2]
    |iU=>
     simp only[reduceCtorEq,if_false,if_true,fK,Option.isSome];rw[18,(At.refl (t::r)).eD (hh.trans hk) [3],[986]];refine bj.bind (G.listed d' r m "]" .pQ [3] [3] xY [2] [2]) [833];rw[5,[159,[167]]]
    |qH=>
     rw[78];exact[32,p0.weak (by rw[hk];rfl) [8]]
    |DY=>
     rw[78];exact[32,p0.weak (by rw[hk];rfl) [8]]
    |none_=>
     rw[78];exact[32,p0.weak (by rw[hk];rfl) [8]]
    |Hw=>
     simp only[reduceCtorEq,if_false,if_true,fK,Option.isSome];exact Gw _ _ (by rw[30]) hb [2] [2]
    |ye=>
     simp only[reduceCtorEq,if_false,if_true,fK,Option.isSome];exact Gw _ _ (by rw[30]) hb [2] [2]
    |yQ=>
     simp only[reduceCtorEq,if_false,if_true,fK,Option.isSome];exact Gw _ _ (by rw[30]) hb [2] [2]
    |HC=>
     simp only[reduceCtorEq,if_false,if_true,fK,Option.isSome];exact Gw _ _ (by rw[30]) hb [2] [2]
    |yG=>
     simp only[reduceCtorEq,if_false,if_true,fK,Option.isSome];exact Gw _ _ (by rw[30]) hb [2] [2]
    |Gz=>
     simp only[reduceCtorEq,if_false,if_true,fK,Option.isSome];exact Gw _ _ (by rw[30]) hb [2] [2]
    |yY=>
     simp only[reduceCtorEq,if_false,if_true,fK,Option.isSome];exact Gw _ _ (by rw[30]) hb [2] [2]
    |number=>exact absurd hk k1
    |quoted=>exact absurd hk k2
    |_=>
     simp only[reduceCtorEq,if_false,fK,Option.isSome,or_self];rw[1]
theorem G7(d:Nat)(ts:[5])(m:Nat)(e:[12]= .lpar)(hb:[59])(hn:[53,2])(hm:16*ts.length<=m):bj RE [273] (js (Fn n) ts) (inBrackets m [61]):=by
 obtain⟨p1,ez,t,et,ht⟩:=[63,e];generalize ts.drop 1=r at p1 et;subst et;have hl:(t::r).length=r.length+1:=rfl;obtain⟨d',rfl,xY⟩:=[986];rw[5];unfold js;rw[show tk .lpar (t::r)=[12,t.lex] by rw[34];rw[17,ht]];rw[inBrackets,[39,":",.colon],[39,":",.colon]];simp only[decide_eq_true_eq];show bj _ _ [4,hd r,.colon,_,if[761] then _ else _] _;by_cases h1:hd r= .colon
 ·rw[if_pos h1,if_pos h1];obtain⟨p2,_⟩:=p1.eD h1 [3];rw[4,[32,")",p2,[674]],[32,[605]]]
 ·rw[[221],[221]];have x6:[92,nameNext r]↔hd r= .name:=by
   rw[j3];cases r with
    |nil=>simp[hd]
    |cons t r=>
     show(Option.isSome [4,[31],.name,_,_])=true↔[31]= .name;by_cases h:[31]= .name<;>simp[h]
  have hc:((nameNext r).isSome&&[2,hd [122],.colon])=true↔[761]:=by rw[Bool.and_eq_true,x6,decide_eq_true_eq]
  by_cases h2:[761]
  ·rw[if_pos h2,if_pos (hc.mpr h2)];exact(G.cp d' r m xY [2] [2]).imp [203] λr' q=>[89,p1.sub q]
  ·rw[[193],[59,h2 (hc.mp z)]];refine bj.bind (G.expr d' r m xY [2] [2]) [143];subst e;rw[4,[27,")",[167],[674]],[32,[605]]]
end
end
section
variable {α β:Type}
theorem Res.assoc {γ:Type}(x:[65])(f:[610])(g:β->([5])->Res γ):(x.bind f).bind g=x.bind λa r=>(f a r).bind g:=by cases x<;>rfl
theorem Res.cJ(a:α)(r:[5])(f:[610]):(Res.ok a r).bind f=f a r:=rfl
theorem oH(a:α)(f:α->Except Nat β):(Except.ok a>>=f)=f a:=rfl
theorem uq(a:α)(f:α->Except Nat β):(pure a>>=f)=f a:=rfl
section
variable {n:Nat}(G:Good n)
include G
theorem tE(d:Nat):∀(k:Nat) (ns:List Bytes) (ps:List T) (ts:List Tok) (m:Nat),iO d ts->15*d+13<=n+1->ts.length+1<=k->16*ts.length+1<=m->
 bj (λl a=>a=eS .record (ps++HD l) (names:=ns++Vanbkc.fieldNames l)) (At ts (-1) 1) (dk (Fn n) k ns ps ts) (do let(l,r) <-(if hd ts= .comma then fields m (ts.drop 1) else .ok (.nil,ts));let r <-eat (isSign ")") r;return (l,r))
 |0,_,_,ts,m,_,_,hk,_=>by omega
 |k+1,ns,ps,ts,m,hb,hn,hk,hm=>by
  obtain⟨m,rfl⟩:∃m',m=m'+1:=⟨m - 1,by omega⟩;unfold dk;by_cases h:hd ts= .comma
  ·rw[if_pos h,if_pos h,fields];have p1:=((At.refl ts).eD h (by decide)).1;unfold lg;simp only[bind_assoc,Res.assoc];refine jh p1 λl r p2=> ?_;dsimp only
   try simp only[bind_assoc]
   refine cv (s:=":") (by decide) p2 λ_ r p3 _=> ?_;have NY:=hb.at (p3.weak (k':=0) (by decide) (Nat.le_refl _));refine bj.bind (G.expr d r m NY (by omega) (by have:=p3.len;omega)) λa x r e p=> ?_;subst e;have p4:=p3.sub p;dsimp only[Res.cJ];have ih:=tE d k (ns++[wordOf l]) (ps++[cO x]) r m (NY.at p) hn (by have:=p4.len;omega) (by have:=p4.len;omega);have ih:=ih.imp (rel':=λl' a=>a=eS .record (ps++HD (.cons (wordOf l) x l')) (names:=ns++Vanbkc.fieldNames (.cons (wordOf l) x l'))) (P':=At ts (-1) 1) (λl' a q=>by rw[q,List.append_assoc,List.append_assoc];rfl) λr' q=>(p4.sub q).weak (by decide) (by omega);rw[bx (s:=",") (k:= .comma) (by decide)];simp only[decide_eq_true_eq]
   revert ih
   generalize dk (Fn n) k (ns++[wordOf l]) (ps++[cO x]) r=M;intro ih;by_cases h2:hd r= .comma
   ·rw[if_pos h2] at ih ⊢
    cases hf:fields m (r.drop 1) with
    |error e=>
     rw[hf] at ih
     cases M with
     |out=>exact ih.elim
     |bad=>exact⟨_,rfl⟩
     |ok a r'=>obtain⟨x',q,_⟩:=ih;cases q
    |ok v=>
     obtain⟨l',r'⟩:=v;rw[hf] at ih;simp only[oH,uq] at ih ⊢
     cases he:eat (isSign ")") r' with
     |error e=>
      rw[he] at ih
      cases M with
      |out=>exact ih.elim
      |bad=>exact⟨_,rfl⟩
      |ok a r'=>obtain⟨x',q,_⟩:=ih;cases q
     |ok v=>
      rw[he] at ih
      cases M with
      |out=>exact ih.elim
      |bad=>obtain⟨_,q⟩:=ih;cases q
      |ok a r'=>obtain⟨x',q,e1,e2⟩:=ih;cases q;exact⟨_,rfl,e1,e2⟩
   ·rw[if_neg h2] at ih ⊢;simp only[oH,uq] at ih ⊢
    cases he:eat (isSign ")") r with
    |error e=>
     rw[he] at ih
     cases M with
     |out=>exact ih.elim
     |bad=>exact⟨_,rfl⟩
     |ok a r'=>obtain⟨x',q,_⟩:=ih;cases q
    |ok v=>
     rw[he] at ih
     cases M with
     |out=>exact ih.elim
     |bad=>obtain⟨_,q⟩:=ih;cases q
     |ok a r'=>obtain⟨x',q,e1,e2⟩:=ih;cases q;exact⟨_,rfl,e1,e2⟩
  ·rw[if_neg h,if_neg h];refine cv (s:=")") (by decide) (At.refl ts) λl r p3 _=> ?_;exact bj.ok (by simp[HD,Vanbkc.fieldNames]) (p3.weak (by decide) (by omega))
theorem AK(d:Nat)(ts:List Tok)(m:Nat)(hb:iO d ts)(hn:15*d+13<=n+1)(hm:16*ts.length+1<=m):
 bj RE (At ts (-1) 1) (ic (Fn n) ts) (do let(l,r) <-fields m ts;let r <-eat (isSign ")") r;return (.record l,r)):=by
 obtain⟨m,rfl⟩:∃m',m=m'+1:=⟨m - 1,by omega⟩;unfold ic lg;rw[fields];simp only[bind_assoc,Res.assoc];refine jh (At.refl ts) λl r p2=> ?_;dsimp only
 try simp only[bind_assoc]
 refine cv (s:=":") (by decide) p2 λ_ r p3 _=> ?_;have NY:=hb.at (p3.weak (k':=0) (by decide) (Nat.le_refl _));refine bj.bind (G.expr d r m NY (by omega) (by have:=p3.len;omega)) λa x r e p=> ?_;subst e;have p4:=p3.sub p;dsimp only[Res.cJ];have ih:=tE G d (r.length+1) [wordOf l] [cO x] r m (NY.at p) hn (Nat.le_refl _) (by have:=p4.len;omega);have ih:=ih.imp (rel':=λl' a=>a=cO (.record (.cons (wordOf l) x l'))) (P':=At ts (-1) 1) (λl' a q=>by rw[q];rfl) λr' q=>(p4.sub q).weak (by decide) (by omega);rw[bx (s:=",") (k:= .comma) (by decide)];simp only[decide_eq_true_eq]
 revert ih
 generalize dk (Fn n) (r.length+1) [wordOf l] [cO x] r=M;intro ih;by_cases h2:hd r= .comma
 ·rw[if_pos h2] at ih ⊢
  cases hf:fields m (r.drop 1) with
  |error e=>
   rw[hf] at ih
   cases M with
   |out=>exact ih.elim
   |bad=>exact⟨_,rfl⟩
   |ok a r'=>obtain⟨x',q,_⟩:=ih;cases q
  |ok v=>
   obtain⟨l',r'⟩:=v;rw[hf] at ih;simp only[oH,uq] at ih ⊢
   cases he:eat (isSign ")") r' with
   |error e=>
    rw[he] at ih
    cases M with
    |out=>exact ih.elim
    |bad=>exact⟨_,rfl⟩
    |ok a r'=>obtain⟨x',q,_⟩:=ih;cases q
   |ok v=>
    rw[he] at ih
    cases M with
    |out=>exact ih.elim
    |bad=>obtain⟨_,q⟩:=ih;cases q
    |ok a r'=>obtain⟨x',q,e1,e2⟩:=ih;cases q;exact⟨_,rfl,e1,e2⟩
 ·rw[if_neg h2] at ih ⊢;simp only[oH,uq] at ih ⊢
  cases he:eat (isSign ")") r with
  |error e=>
   rw[he] at ih
   cases M with
   |out=>exact ih.elim
   |bad=>exact⟨_,rfl⟩
   |ok a r'=>obtain⟨x',q,_⟩:=ih;cases q
  |ok v=>
   rw[he] at ih
   cases M with
   |out=>exact ih.elim
   |bad=>obtain⟨_,q⟩:=ih;cases q
   |ok a r'=>obtain⟨x',q,e1,e2⟩:=ih;cases q;exact⟨_,rfl,e1,e2⟩
omit G in theorem vR:[163,dn k acc ts,namesMore m ts]
 |0,acc,ts,m,hk,_=>[2]
 |k+1,acc,ts,m,hk,hm=>by
  unfold dn;by_cases h:[12]= .comma
  ·rw[[56]];have p1:=[63,h].1;obtain⟨m,rfl⟩:∃m',m=m'+1:=⟨m -1,by rw[11]⟩;rw[namesMore,[386]];simp only[decide_eq_true_eq];rw[8,[56],[480]];dsimp only;have ih:=vR k (acc++[[147]]) r m (by rw[16]) (by rw[16]);cases h2:dn k (acc++[wordOf l]) r with
    |out=>
     rw[h2] at ih;exact ih.elim
    |bad=>
     rw[h2] at ih;obtain⟨e,q⟩:=ih;rw[q];rw[1]
    |ok a r'=>
     rw[h2] at ih;obtain⟨l',q,e,pr⟩:=ih;rw[q];rw[0,_,rfl,(by rw[e,List.append_assoc];rfl),[89,p2.sub pr]]
  ·rw[[48]];cases m with
    |zero=>
     rw[namesMore];exact[730]
    |succ m=>
     rw[namesMore,[386]];simp only[decide_eq_true_eq];rw[0,[48],[730]]
omit G in theorem KY(ts:[5]):bj (λl a=>a=l) (At ts (-1) 1) (cU ts) (params ts):=by
 unfold cU params;rw[27,[39,")",.rpar]];by_cases h:[12]= .rpar
 ·rw[[56],[56]];have p1:=[63,h].1;exact[32,p1.weak [3] [2]]
 ·rw[[48],[48]];rw[24,jh [322] λl r p1=> ?_];refine bj.bind (vR [90] [[147]] r r.length [8] [8]) [143];subst e;rw[4,[27,")",[167],[674]],[32,[605]]]
theorem Dn(d:Nat)(ts:List Tok)(m:Nat)(e:hd ts= .qK)(hb:iO d ts)(hn:15*d+2<=n+1)(hm:16*ts.length<=m):bj RE (At ts 0 1) (iy (Fn n) ts) (function m (ts.drop 1)):=by
 obtain⟨p1,ez,t,et,ht⟩:=(At.refl ts).eD e (by decide);generalize ts.drop 1=r at p1 et;subst et;have hl:(t::r).length=r.length+1:=rfl;obtain⟨m,rfl⟩:∃m',m=m'+1:=⟨m - 1,by omega⟩;unfold iy;rw[show tk .qK (t::r)= .ok t.lex r by unfold tk;dsimp only;rw[if_pos ht]];rw[function];dsimp only[Res.cJ]
 have key:∀(own:Option Bytes) (r':List Tok) (c:Nat),1<=c->At (t::r) 0 c r'->bj RE (At (t::r) 0 1) ((tk .lpar r').bind λ_ r=>(cU r).bind λps r=>((Fn n).block r).bind λs r=> .ok (eS .qK [] [s] own ps) r)
  (do let r <-eat (isSign "(") r';let(l,r) <-params r;let(s,r) <-block m r;return (.fn own l s,r)):=by
  intro own r' c hc p;refine cv (s:="(") (by decide) p λ_ r2 p2 _=> ?_;refine bj.bind (KY r2) λa x r3 e p3=> ?_;subst e;have p4:=(p2.sub p3).weak (k':=0) (by decide) (Nat.le_refl _);dsimp only;refine bj.bind (G.block d r3 m (hb.at p4) (by omega) (by have:=p4.len;omega)) λa x r4 e p5=> ?_;subst e;exact bj.ok rfl ((p4.sub p5).weak (by decide) (by omega))
 by_cases h:hd r= .name
 ·rw[if_pos h]
  cases r with
  |nil=>cases h
  |cons t2 r2=>
   have h':kdOf t2.lex= .name:=h;have e2:nameNext (t2::r2)=some (wordOf t2.lex):=by rw[j3];dsimp only;rw[if_pos h']
   rw[show tk .name (t2::r2)= .ok t2.lex r2 by unfold tk;dsimp only;rw[if_pos h'],e2];dsimp only[Res.cJ];have p2:=(p1.take).weak (k':=0) (by rw[h'];decide) (Nat.le_refl _);exact key _ r2 _ (by omega) p2
 ·rw[if_neg h]
  have e2:nameNext r=none:=by
   rw[j3]
   cases r with
   |nil=>rfl
   |cons t2 r2=>dsimp only;rw[if_neg (show ¬kdOf t2.lex= .name from h)]
  rw[e2];dsimp only[Res.cJ];exact key none r _ (Nat.le_refl _) (p1.weak (by decide) (Nat.le_refl _))
end
end
section
section
variable {n:Nat}(G:Good n)
include G
theorem v9(d:Nat):∀(j:Nat) (ts:[5]) (m:Nat) (kf:([5])->Nat) (acc:[24]),([59])->([298])->1<=j->(∀r',r'.length<ts.length->r'.length+1<=kf r')->[75,13]->bj (λl a=>a=acc++xu l) (At ts (-1) 1) [51,(Fn n).expr ts,[40,dY (Fn n) (kf r) (acc++[e]) r,[20,.rpar,[4,l.length,acc.length+j,[12,l],.bad]]]] (parts m j ts)
 |0,ts,m,kf,acc,_,_,hj,_,_=>[2]
 |j+1,ts,m,kf,acc,hb,hn,hj,hk,hm=>by
  rw[5];rw[parts];rw[35,G.expr d ts m hb [2] [2]];have hkr:=hk r (by rw[25]);obtain⟨k,ek⟩:∃k',kf r=k'+1:=[72,kf r -1];rw[ek] at hkr ⊢;unfold dY;by_cases h:hd r= .comma
  ·rw[[56]];have p1:=(p.eD h [3]).1;have q1:=((At.refl r).eD h [3]).1;have xm:=hb.at [1256];by_cases YC:j+1<=1
   ·rw[17,YC];have he:eat (isSign ")") r=halt_ r:=by
     unfold eat;rw[[39,")",.rpar],h];rfl
    rw[he];simp only[Res.assoc];have hE:=G.expr d _ m xm [2] (by rw[11]);cases hx:(Fn n).expr (r.drop 1) with
     |out=>
      rw[hx] at hE;exact hE.elim
     |bad=>rw[1]
     |ok e2 r2=>
      rw[hx] at hE;obtain⟨x2,_,re2,p2⟩:=hE;subst re2;dsimp only[Res.cJ];have p3:=p1.sub p2;have hM:=sE G d k (acc++[cO x]++[cO x2]) r2 (16*r2.length+1) (xm.at p2) hn (by rw[0,(q1.sub p2).len]) [8];cases UX:dY (Fn n) k (acc++[cO x]++[cO x2]) r2 with
       |out=>
        rw[UX] at hM;exact hM.elim
       |bad=>rw[1]
       |ok l r3=>
        rw[UX] at hM;obtain⟨l',_,el,_⟩:=hM;dsimp only[Res.cJ];cases AY:tk .rpar r3 with
         |out=>
          exfalso;revert AY;cases r3<;>(rw[98])<;>intro z<;>cases z
         |bad=>rw[1]
         |ok _ r4=>
          dsimp only[Res.cJ];rw[0,if_neg (by rw[el];rw[0]),[53]]
   ·rw[16,YC];have he:eat (isSign ",") r= .ok [122]:=by
     unfold eat;rw[[386],h];rfl
    rw[he];simp only[Res.assoc];show bj _ _ _ (parts m j [122]>>=_);have ih:=v9 d j [122] m (λ_=>k) (acc++[cO x]) xm hn [2] (λr' hr'=>by rw[0,q1.len]) (by rw[11]);have e1:(acc++[cO x]).length+j=acc.length+(j+1):=by rw[0]
    rw[e1] at ih;revert ih;generalize (((Fn n).expr (r.drop 1)).bind λe r=>(dY (Fn n) k (acc++[cO x]++[e]) r).bind λl r=>(tk .rpar r).bind λ_ r=>if l.length=acc.length+(j+1) then .ok l r else .bad)=M;intro ih;cases hp:parts m j (r.drop 1) with
     |error e=>
      rw[hp] at ih;cases M with
       |out=>exact ih.elim
       |bad=>rw[1]
       |ok a r'=>
        obtain⟨x',q,_⟩:=ih;cases q
     |ok v=>
      rw[hp] at ih;cases M with
       |out=>exact ih.elim
       |bad=>
        obtain⟨_,q⟩:=ih;cases q
       |ok a r'=>
        obtain⟨x',q,e1,e2⟩:=ih;cases q;rw[0,.cons x x',rfl,(by rw[e1,List.append_assoc];rfl),[89,p1.sub e2]]
  ·rw[[48]];dsimp only[Res.cJ];by_cases YC:j+1<=1
   ·rw[8,if_pos YC,[32,")",p,[512]]];rw[0,if_pos (by rw[0]),[32,[605]]]
   ·rw[16,YC];have he:eat (isSign ",") r=halt_ r:=by
     unfold eat;rw[[386],if_neg (by simp[h])]
    rw[he];cases AY:tk .rpar r with
     |out=>
      exfalso;revert AY;cases r<;>(rw[98])<;>intro z<;>cases z
     |bad=>rw[1]
     |ok _ r4=>
      dsimp only[Res.cJ];rw[0,if_neg (by rw[0]),[53]]
theorem NO(d:Nat)(ts:[5])(m:Nat)(hb:[59])(hn:15*d+1<=n+1)(hm:[269]):bj RB [273] (nJ (Fn n) ts) (block m ts):=by
 rw[5];unfold nJ;rw[block];refine[27,"{",[322],λ_ r p1 ez=> ?_];obtain⟨d',rfl,xY⟩:=[986];have h:=G.stmts d' r m .iL [267] xY [2] (by rw[11]);cases hM:(Fn n).stmts .iL r with
  |out=>
   rw[hM] at h;exact h.elim
  |bad=>
   rw[hM] at h;obtain⟨e,q⟩:=h;cases hS:statements m r with
    |error e=>rw[1]
    |ok v=>
     obtain⟨l,r'⟩:=v;rw[hS] at q;have q:[4,hd r',.iL,Except.ok (l,r'),.error 0]= .error e:=q;have gx:¬hd r'= .iL:=λz=>by
      rw[7,z];cases q
     show bj _ _ _ (eat (isSign "}") r'>>=_);unfold eat;rw[[39,"}",.iL],if_neg (by simp[gx])];rw[1]
  |ok a r'=>
   rw[hM] at h;obtain⟨x,q,e1,p2⟩:=h;cases hS:statements m r with
    |error e=>
     rw[hS] at q;cases q
    |ok v=>
     obtain⟨l,r2⟩:=v;rw[hS] at q;have q:[4,hd r2,.iL,Except.ok (l,r2),.error 0]= .ok (x,r'):=q;by_cases hc:hd r2= .iL
     ·rw[7,hc];cases q;subst e1;show bj _ _ ((tk .iL r').bind _) (eat (isSign "}") r'>>=_);rw[4,[27,"}",p1.sub p2,[512]],[32,[605]]]
     ·rw[10,hc];cases q
theorem wH(d:Nat)(c:Kd)(hc:c= .fin\/c= .iL):∀(k:Nat) (acc:List T) (ts:List Tok) (m:Nat),iO d ts->15*d+15<=n+1->ts.length+1<=k->16*ts.length+2<=m->
 bj (λl a=>a=acc++iE l) (At ts 0 0) (gg (Fn n) c k acc ts) (do let(l,r) <-statements m ts;if hd r=c then .ok (l,r) else .error 0)
 |0,_,ts,m,_,_,hk,_=>by omega
 |k+1,acc,ts,m,hb,hn,hk,hm=>by
  obtain⟨m,rfl⟩:∃m',m=m'+1:=⟨m - 1,by omega⟩;unfold gg;rw[statements,bx (s:="}") (k:= .iL) (by decide)]
  have Kz:(ts.isEmpty||decide (hd ts= .iL))=true↔(hd ts= .fin\/hd ts= .iL):=by
   cases ts with
   |nil=>simp[hd]
   |cons t r=>
    have:kdOf t.lex≠ .fin:=by
     intro e
     cases hl:t.lex with
     |num v=>rw[hl] at e;cases e
     |quoted v=>rw[hl] at e;cases e
     |word v=>
      rw[hl] at e;rcases eO v with h|⟨p,hp,rfl⟩
      ·rw[show kdOf (.word v)= .name from cw h] at e;cases e
      ·rw[(gQ hp).mpr rfl] at e;exact(show ∀p∈aW,p.2≠Kd.fin by decide) p hp e
     |sign v=>
      rw[hl] at e;rcases eJ v with h|⟨p,hp,rfl⟩
      ·rw[show kdOf (.sign v)= .bad from cw h] at e;cases e
      ·rw[(d5 hp).mpr rfl] at e;exact(show ∀p∈aU,p.2≠Kd.fin by decide) p hp e
    show(false||decide (kdOf t.lex= .iL))=true↔(kdOf t.lex= .fin\/kdOf t.lex= .iL);simp[this]
  by_cases h:hd ts=c
  ·rw[if_pos h,if_pos (Kz.mpr (by rw[h];exact hc))];show bj _ _ _ (if hd ts=c then _ else _);rw[if_pos h];exact bj.ok (by simp[iE]) (At.refl ts)
  ·rw[if_neg h];by_cases h2:hd ts= .fin\/hd ts= .iL
   ·rw[if_pos (Kz.mpr h2)];show bj _ _ _ (if hd ts=c then _ else _);rw[if_neg h];have hs:=G.stmt d ts (16*ts.length+1) hb (by omega) (Nat.le_refl _)
    cases hM:(Fn n).stmt ts with
    |out=>rw[hM] at hs;exact hs.elim
    |bad=>exact⟨_,rfl⟩
    |ok a r=>
     rw[hM] at hs;obtain⟨x,q,_⟩:=hs;exfalso;have h3:pS (hd ts)=none:=by rcases h2 with e|e<;>rw[e]<;>rfl
     rw[statement] at q;simp only[cC (s:="let") (k:= .oP) (by decide),cC (s:="set") (k:= .dy) (by decide),cC (s:="if") (k:= .x8) (by decide),cC (s:="while") (k:= .while_) (by decide),cC (s:="for") (k:= .iJ) (by decide),cC (s:="slider") (k:= .cq) (by decide),cC (s:="choice") (k:= .bW) (by decide),MG,h3] at q;rcases h2 with e|e<;>(rw[e] at q;cases q)
   ·rw[if_neg (λz=>h2 (Kz.mp z))];simp only[bind_assoc];refine bj.bind (G.stmt d ts m hb (by omega) (by omega)) λa x r e p=> ?_;subst e;have ih:=wH d c hc k (acc++[lq x]) r m (hb.at p) hn (by have:=p.len;omega) (by have:=p.len;omega);dsimp only
    revert ih
    generalize gg (Fn n) c k (acc++[lq x]) r=M;intro ih
    cases hf:statements m r with
    |error e=>
     rw[hf] at ih
     cases M with
     |out=>exact ih.elim
     |bad=>exact⟨_,rfl⟩
     |ok a r'=>obtain⟨x',q,_⟩:=ih;cases q
    |ok v=>
     obtain⟨l',r'⟩:=v;rw[hf] at ih;have ih:bj _ _ M (if hd r'=c then .ok (l',r') else .error 0):=ih;show bj _ _ M (if hd r'=c then .ok (Stmts.cons x l',r') else .error 0);by_cases Yr:hd r'=c
     ·rw[if_pos Yr] at ih ⊢
      cases M with
      |out=>exact ih.elim
      |bad=>obtain⟨_,q⟩:=ih;cases q
      |ok a r'=>obtain⟨x',q,e1,e2⟩:=ih;cases q;exact⟨_,rfl,by rw[e1,List.append_assoc];rfl,(p.sub e2).weak (by decide) (by omega)⟩
     ·rw[if_neg Yr] at ih ⊢
      cases M with
      |out=>exact ih.elim
      |bad=>exact⟨_,rfl⟩
      |ok a r'=>obtain⟨x',q,_⟩:=ih;cases q
theorem NQ(d:Nat)(ts:List Tok)(m:Nat)(c:Kd)(hc:c= .fin\/c= .iL)(hb:iO d ts)(hn:15*d+15<=n+1)(hm:16*ts.length+2<=m):
 bj RB (At ts 0 0) (zU (Fn n) c ts) (do let(l,r) <-statements m ts;if hd r=c then .ok (l,r) else .error 0):=
 (wH G d c hc _ [] ts m hb hn (Nat.le_refl _) hm).imp (λ_ _ z=>z) λ_ z=>z
end
end
section
theorem qc {k:Kd} {ts:[5]}(e:[12]=k)(hf:[144]):∃l,[234]= .ok l [61]:=by cases ts with
 |nil=>exact absurd e.symm hf
 |cons t r=>rw[3,t.lex,(by rw[34];rw[if_pos (show[31]=k from e)];rfl)]
theorem lN(m:Nat)(ts:List Tok):statement (m+1) ts=(
 if hd ts= .oP then(do
  let(x,r) <-name (ts.drop 1)
  let r <-eat (isSign "=") r
  let(e,r) <-expr m r
  let r <-eat (isSign ";") r
  return (.leta x e,r))
 else if hd ts= .dy then(do
  let(x,r) <-name (ts.drop 1)
  let r <-eat (isSign "=") r
  let(e,r) <-expr m r
  let r <-eat (isSign ";") r
  return (.seta x e,r))
 else if hd ts= .x8 then(do
  let(c,r) <-expr m (ts.drop 1)
  let(x,r) <-block m r
  if next (isWord "else") r then
   let(y,r) <-block m (r.drop 1)
   return (.iffElse c x y,r)
  else return (.iff c x,r))
 else if hd ts= .while_ then(do
  let(c,r) <-expr m (ts.drop 1)
  let(x,r) <-block m r
  return (.while_ c x,r))
 else if hd ts= .iJ then(do
  let(x,r) <-name (ts.drop 1)
  let r <-eat (isWord "in") r
  let(e,r) <-expr m r
  let(l,r) <-block m r
  return (.for x e l,r))
 else if hd ts= .cq then(do
  let(x,r) <-name (ts.drop 1)
  let r <-eat (isSign "=") r
  let(v,r) <-whole r
  let r <-eat (isWord "in") r
  let(lo,r) <-whole r
  let r <-eat (isSign ",") r
  let(hi,r) <-whole r
  let r <-eat (isSign ";") r
  return (.slider x v lo hi,r))
 else if hd ts= .bW then(do
  let(x,r) <-name (ts.drop 1)
  let r <-eat (isSign "=") r
  let(v,r) <-number r
  let r <-eat (isWord "in") r
  let(o,r) <-quoted r
  let(l,r) <-quotedMore r.length r
  let r <-eat (isSign ";") r
  return (.choice x v (o::l),r))
 else match pS (hd ts) with
  |some w=>(do
   let(e,r) <-expr m (ts.drop 1)
   let r <-eat (isSign ";") r
   return (.way w e,r))
  |none=>halt_ ts):=by
 rw[statement];simp only[cC (s:="let") (k:= .oP) (by decide),cC (s:="set") (k:= .dy) (by decide),cC (s:="if") (k:= .x8) (by decide),cC (s:="while") (k:= .while_) (by decide),cC (s:="for") (k:= .iJ) (by decide),cC (s:="slider") (k:= .cq) (by decide),cC (s:="choice") (k:= .bW) (by decide),MG,decide_eq_true_eq];rfl
section
variable {n:Nat}(G:Good n)
include G
theorem Dq(d:Nat)(ts:[5])(m:Nat)(h:[631])(hb:[59])(hn:[298])(hm:[269]):[205,iz (Fn n) [12] ts]:=by
 rw[5];have hf:[568]:=by rcases h with e|e<;>rw[e]<;>decide
 have p1:=[468,(by rcases h with e|e<;>rw[e]<;>rfl)];obtain⟨l0,e0⟩:=qc (ts:=ts) rfl hf;rw[lN];unfold iz;rw[e0];rcases h with e|e<;>(rw[e];simp only[reduceCtorEq,if_true,if_false,Res.cJ];rw[24,[480]];refine[970];have NY:=hb.at [1257];rw[35,G.expr d r m NY [2] (by rw[0,p3.len])];rw[4,[27,";",p3.sub p,λ_ r p4 _=> ?_],[32,p4.weak [3] [2]]])
theorem G8(d:Nat)(ts:[5])(m:Nat)(w:Way)(h:pS [12]=some w)(hb:[59])(hn:[298])(hm:[269]):[205,jt (Fn n) [12] ts]:=by
 rw[5];have hk:=Ho h;have hf:[568]:=by rw[28]
 have p1:=[468,(by rw[<-hk];cases w<;>rfl)];obtain⟨l0,e0⟩:=qc (ts:=ts) rfl hf;rw[lN,h];unfold jt;rw[e0];rw[if_neg (by rw[28]),if_neg (by rw[28]),if_neg (by rw[28]),if_neg (by rw[28]),if_neg (by rw[28]),if_neg (by rw[28]),if_neg (by rw[28])];dsimp only[Res.cJ];rw[35,G.expr d _ m (hb.at p1) [2] (by rw[11])];rw[4,[27,";",[167],λ_ r p4 _=> ?_],bj.ok (by rw[<-hk];rfl) (p4.weak [3] [2])]
theorem XZ(d:Nat)(ts:[5])(m:Nat)(h:[12]= .x8)(hb:[59])(hn:[298])(hm:[269]):[205,Pf (Fn n) ts]:=by
 rw[96];unfold Pf;rw[43];refine bj.bind (G.expr d _ m (hb.at p1) [2] (by rw[11])) [143];subst e;have p2:=[122,[167]];dsimp only;refine bj.bind (G.block d r m (hb.at p2) [2] (by rw[16])) [834];subst e;have p3:=[122,p2.sub p];dsimp only;rw[27,cC (s:="else") (k:= .uZ) [3]];by_cases h2:hd r= .uZ
 ·rw[if_pos h2,if_pos h2];have p4:=[122,(p3.eD h2 [3]).1];refine bj.bind (G.block d _ m (hb.at p4) [2] (by rw[0,p4.len])) λa z r e p=> ?_;rw[5,[159,p4.sub p]]
 ·rw[[193],[193]];exact[32,p3.weak rfl [2]]
theorem RW(d:Nat)(ts:[5])(m:Nat)(h:[12]= .while_)(hb:[59])(hn:[298])(hm:[269]):[205,nM (Fn n) ts]:=by
 rw[96];unfold nM;rw[43];refine bj.bind (G.expr d _ m (hb.at p1) [2] (by rw[11])) [143];subst e;have p2:=[122,[167]];dsimp only;refine bj.bind (G.block d r m (hb.at p2) [2] (by rw[16])) [834];rw[5,[159,p2.sub p]]
theorem RT(d:Nat)(ts:[5])(m:Nat)(h:[12]= .iJ)(hb:[59])(hn:[298])(hm:[269]):[205,zR (Fn n) ts]:=by
 rw[96];unfold zR;rw[43];rw[24,[480]];refine uY (s:="in") [3] p2 [512];have NY:=hb.at [1257];refine bj.bind (G.expr d r m NY [2] (by rw[0,p3.len])) [143];subst e;have p4:=[122,p3.sub p];dsimp only;refine bj.bind (G.block d r m (hb.at p4) [2] (by rw[0,p4.len])) [834];rw[5,[159,p4.sub p]]
omit G in theorem sh {γ δ:Type} {rel':[4,δ,γ]} {P':[357]} {f:Int->([5])->Res γ} {ts T0:[5]} {c:Nat} {k:Int} {g:[247,Int]}(a:[315])(q:∀z r,At T0 k (c+1) r->bj rel' P' (f z r) (g (z,r))):bj rel' P' ((d6 ts).bind f) (whole ts>>=g):=by
 unfold d6 whole;rw[27,[39,"-",.sub]];by_cases h:[12]= .sub
 ·rw[[56],[56]];have p1:=(a.eD h [3]).1;simp only[bind_assoc,Res.assoc];rw[4,qe p1 [651],q _ _ (p2.weak (by simp[delta]) [2])]
 ·rw[[48],[48]];simp only[bind_assoc,Res.assoc];rw[4,qe a [651],q _ _ p2]
omit G in theorem JZ(ts:[5])(m:Nat)(h:[12]= .cq):bj RS [273] (jU ts) (statement (m+1) ts):=by
 have p1:=[122,[63,h].1];obtain⟨l0,e0⟩:=qc (ts:=ts) h [3];rw[lN,h];unfold jU;rw[43];rw[24,[480]];rw[1,[970],sh p3 λv r p4=> ?_];dsimp only;rw[1,[1246],sh p5 λlo r p6=> ?_];dsimp only;rw[1,[32,",",p6,λ_ r p7 _=> ?_],sh p7 λhi r p8=> ?_];dsimp only;rw[4,[32,";",p8,λ_ r p9 _=> ?_],[32,p9.weak [3] [2]]]
omit G in theorem tR:[163,gC k acc ts,quotedMore m ts]
 |0,acc,ts,m,hk,_=>[2]
 |k+1,acc,ts,m,hk,hm=>by
  unfold gC;by_cases h:[12]= .comma
  ·rw[[56]];have p1:=[63,h].1;obtain⟨m,rfl⟩:∃m',m=m'+1:=⟨m -1,by rw[11]⟩;rw[quotedMore,[386]];simp only[decide_eq_true_eq];rw[8,[56],uV p1 [651]];dsimp only;have ih:=tR k (acc++[[147]]) r m (by rw[16]) (by rw[16]);cases h2:gC k (acc++[wordOf l]) r with
    |out=>
     rw[h2] at ih;exact ih.elim
    |bad=>
     rw[h2] at ih;obtain⟨e,q⟩:=ih;rw[q];rw[1]
    |ok a r'=>
     rw[h2] at ih;obtain⟨l',q,e,pr⟩:=ih;rw[q];rw[0,_,rfl,(by rw[e,List.append_assoc];rfl),[89,p2.sub pr]]
  ·rw[[48]];cases m with
    |zero=>
     rw[quotedMore];exact[730]
    |succ m=>
     rw[quotedMore,[386]];simp only[decide_eq_true_eq];rw[0,[48],[730]]
omit G in theorem JU(ts:[5])(m:Nat)(h:[12]= .bW):bj RS [273] (jT ts) (statement (m+1) ts):=by
 have p1:=[122,[63,h].1];obtain⟨l0,e0⟩:=qc (ts:=ts) h [3];rw[lN,h];unfold jT;rw[43];rw[24,[480]];rw[1,[970],qe p3 λv r p4=> ?_];dsimp only;rw[1,[1246],uV p5 λo r p6=> ?_];dsimp only;rw[35,tR [90] [wordOf o] r r.length [8] [8]];rw[4,[27,";",p6.sub p,λ_ r p9 _=> ?_],[32,p9.weak [3] [2]]]
theorem RV(d:Nat)(ts:[5])(m:Nat)(hb:[59])(hn:[53,14])(hm:[269]):[205,o5 (Fn n) ts]:=by
 unfold o5;by_cases h1:[631]
 ·rw[0,if_pos h1,G.di d ts m h1 hb [2] hm]
 rw[16,h1];cases h2:pS (hd ts) with
  |some w=>rw[0,if_pos [44,(some w).isSome,rfl],G.telling d ts m w h2 hb [2] hm]
  |none=>
   rw[[213]];by_cases h3:[12]= .x8
   ·rw[0,if_pos h3,G.iff d ts m h3 hb [2] hm]
   rw[16,h3];by_cases h4:[12]= .while_
   ·rw[0,if_pos h4,G.kK d ts m h4 hb [2] hm]
   rw[16,h4];by_cases h5:[12]= .iJ
   ·rw[0,if_pos h5,G.iT d ts m h5 hb [2] hm]
   rw[16,h5];rw[5];by_cases h6:[12]= .cq
   ·rw[0,if_pos h6,JZ ts m h6]
   rw[16,h6];by_cases h7:[12]= .bW
   ·rw[0,if_pos h7,JU ts m h7]
   rw[if_neg h7,lN,h2,[59,h1 [150]],[59,h1 (.inr z)],[464],if_neg h4,if_neg h5,if_neg h6,if_neg h7];rw[1]
omit G in theorem mq:∀(m k:Nat) (ts:[5]),[12]= .rpar->1<=k->k<=9->∃e,line m k ts= .error e
 |0,k,ts,_,_,_=>by
  rw[line];rw[1]
 |m+1,k,ts,h,h1,h9=>by
  by_cases hC:k=1\/k=2\/k=5\/k=6\/k=7
  ·obtain⟨e,q⟩:=mq m (k+1) ts h [2] [2];rw[pY hC,q];rw[1]
  ·obtain rfl|rfl|rfl|rfl:k=3\/k=4\/k=8\/k=9:=[2]
   ·rw[48,4];rw[QF,[1236],h,[213],q];rw[1]
   ·rw[48,5];rw[QG,q];rw[1]
   ·rw[48,9];rw[QH,[39,"-",.sub],h,[213],q];rw[1]
   ·rw[QI];have:∃e,simple m ts= .error e:=by cases m with
     |zero=>
      rw[simple];rw[1]
     |succ m=>cases ts with
      |nil=>cases h
      |cons t r=>
       have h':[31]= .rpar:=h;rw[yJ m t r (λv e=>by rw[e] at h';cases h') (λv e=>by rw[e] at h';cases h'),h'];rw[1]
    obtain⟨e,q⟩:=this;rw[q];rw[1]
omit G in theorem G2(m:Nat)(ts:[5])(h:[12]= .rpar):∃e,expr m ts= .error e:=by cases m with
 |zero=>
  rw[expr];rw[1]
 |succ m=>
  rw[48,1];rw[expr,q];rw[1]
theorem Dr(d:Nat)(ts:List Tok)(m:Nat)(p:Prim)(k:Nat)(h:fK (hd ts)=some (p,k))(hb:iO d ts)(hn:15*d+2<=n+2)(hm:16*ts.length<=m):
 bj RE (At ts 0 1) (iA (Fn (n+1)) (hd ts) ts) (do let r <-eat (isSign "(") (ts.drop 1);let(l,r) <-parts m k r;return (.prim p l,r)):=by
 have hk:=A5 h;have IE:1<=k:=by revert h;cases hd ts<;>intro h<;>cases h<;>decide
 have hf:hd ts≠ .fin:=by rw[<-hk];cases p<;>decide
 have p1:=(((At.refl ts).eD rfl hf).1).weak (k':=0) (by rw[<-hk];cases p<;>rfl) (Nat.le_refl _)
 obtain⟨l0,e0⟩:=qc (ts:=ts) rfl hf;unfold iA;rw[e0,h];dsimp only[Res.cJ,Option.map];refine cv (s:="(") (by decide) p1 λ_ r p2 ez=> ?_;have xm:=hb.at p1;obtain⟨d',rfl,xY⟩:=hb.CL p2 (by decide) λh x=>ez h (by have:=p1.dp x;simpa using this) (by decide);show bj _ _ ((jq (Fn n) .rpar r).bind _) _;unfold jq;by_cases hr:hd r= .rpar
 ·rw[if_pos hr];dsimp only[Res.cJ];rw[if_neg (by simp;omega)];obtain⟨m,rfl⟩:∃m',m=m'+1:=⟨m - 1,by have:=p2.len;omega⟩;obtain⟨e,q⟩:=G2 m r hr;rw[parts,q];exact⟨_,rfl⟩
 ·rw[if_neg hr];have ih:=v9 G d' k r m (λr=>r.length+1) [] xY (by omega) IE (λ_ _=>Nat.le_refl _) (by have:=p2.len;omega);simp only[List.nil_append,List.length_nil,Nat.zero_add] at ih;simp only[Res.assoc,Res.cJ]
  cases hx:(Fn n).expr r with
  |out=>rw[hx] at ih;exact ih.elim
  |bad=>
   rw[hx] at ih;obtain⟨e,q⟩:=ih;rw[q];exact⟨_,rfl⟩
  |ok e2 r2=>
   rw[hx] at ih;dsimp only[Res.cJ] at ih ⊢
   cases UX:dY (Fn n) (r2.length+1) [e2] r2 with
   |out=>rw[UX] at ih;exact ih.elim
   |bad=>rw[UX] at ih;obtain⟨e,q⟩:=ih;rw[q];exact⟨_,rfl⟩
   |ok l r3=>
    rw[UX] at ih;dsimp only[Res.cJ] at ih ⊢
    cases AY:tk .rpar r3 with
    |out=>rw[AY] at ih;exact ih.elim
    |bad=>rw[AY] at ih;obtain⟨e,q⟩:=ih;rw[q];exact⟨_,rfl⟩
    |ok _ r4=>
     rw[AY] at ih;dsimp only[Res.cJ] at ih ⊢;by_cases hl:l.length=k
     ·rw[if_pos hl] at ih;rw[if_pos (by rw[hl])];obtain⟨x,q,e1,p5⟩:=ih;rw[q];subst e1;exact⟨_,rfl,by rw[<-hk];rfl,(p2.sub p5).weak (by decide) (by omega)⟩
     ·rw[if_neg hl] at ih;rw[if_neg (λz=>hl (Option.some.inj z))];obtain⟨e,q⟩:=ih;rw[q];exact⟨_,rfl⟩
end
end
section
variable {st:Nat} {x:Expr} {l:T} {s:Kd} {gI:[281]} {s7 s6 s5:[763]} {ts:[5]}
def app(s:[763])(x:Expr):Expr:=match s with
 |none=>x
 |some p=>[928]
def ju(s7 s6 s5:[763]):[281]:=(s7.toList++s6.toList++s5.toList).map λp=>(cO p.1,Fv p.2)
def Wk(k:Nat)(s:[763]):Prop:=∀p,s=some p->p.2.strength=k
theorem Wk.none(k:Nat):Wk k none:=λ_ h=>[180]
theorem Wk.some {k:Nat} {x:Expr} {o:Op}(h:o.strength=k):Wk k [11,x,o]:=λ_ e=>by
 cases e;exact h
theorem kC {x:T}(h:[935]):join st x ((l,s)::gI)=join st (eS s [l,x]) gI:=by rw[join,[56]]
theorem ux {x:T}(h:¬[935]):join st x ((l,s)::gI)=(x,(l,s)::gI):=by rw[join,[48]]
theorem Zi(h7:Wk 7 s7)(h6:Wk 6 s6)(h5:Wk 5 s5):join 7 (cO x) (ju s7 s6 s5)=(cO (app s7 x),[584]):=by
 have low:∀y,join 7 y [584]=(y,[584]):=λy=>by cases s6 with
  |none=>cases s5 with
   |none=>rfl
   |some p=>exact ux (by rw[cu,h5 p rfl];omega)
  |some p=>exact ux (by rw[cu,h6 p rfl];omega)
 cases s7 with
  |none=>exact low _
  |some p=>exact(kC (by rw[cu,h7 p rfl];omega)).trans (low _)
theorem Zh(h7:Wk 7 s7)(h6:Wk 6 s6)(h5:Wk 5 s5):join 6 (cO x) (ju s7 s6 s5)=(cO (app s6 (app s7 x)),[585]):=by
 have low:∀y,join 6 y [585]=(y,[585]):=λy=>by cases s5 with
  |none=>rfl
  |some p=>exact ux (by rw[cu,h5 p rfl];omega)
 have mid:∀y,join 6 (cO y) [584]=(cO (app s6 y),[585]):=λy=>by cases s6 with
  |none=>exact low _
  |some p=>exact(kC (by rw[cu,h6 p rfl];omega)).trans (low _)
 cases s7 with
  |none=>exact mid _
  |some p=>exact(kC (by rw[cu,h7 p rfl];omega)).trans (mid [928])
theorem QD(h7:Wk 7 s7)(h6:Wk 6 s6)(h5:Wk 5 s5):join 5 (cO x) (ju s7 s6 s5)=(cO (app s5 (app s6 (app s7 x))),[]):=by
 have low:∀y,join 5 (cO y) [585]=(cO (app s5 y),[]):=λy=>by cases s5 with
  |none=>rfl
  |some p=>exact kC (by rw[cu,h5 p rfl];omega)
 have mid:∀y,join 5 (cO y) [584]=(cO (app s5 (app s6 y)),[]):=λy=>by cases s6 with
  |none=>exact low _
  |some p=>exact(kC (by rw[cu,h6 p rfl];omega)).trans (low (.bin p.2 p.1 y))
 cases s7 with
  |none=>exact mid _
  |some p=>exact(kC (by rw[cu,h7 p rfl];omega)).trans (mid [928])
theorem gw {k:Nat}(hk:lvl k)(h:[254]≠k)(m:Nat)(hm:1<=m)(x:Expr):chain m k x ts= .ok (x,ts):=by
 rw[5];rw[chain,sI hk,[48]]
theorem oA {k:Nat}(hk:lvl k)(h:strength (hd ts)=k)(m:Nat)(x:Expr):chain (m+1) k x ts=(do let(y,r) <-line m (k+1) (ts.drop 1);chain m k (.bin (uc (hd ts)) x y) r):=by
 rw[chain,sI hk,if_pos h]
theorem Ke(h:[254]≠0):[568]/\delta [12]=0/\(uc [12]).strength=[254]/\Fv (uc [12])=[12]:=by
 refine⟨λe=>h (by rw[e];rfl),?_,?_,Fw h⟩
 ·revert h;cases hd ts<;>simp[strength,delta]
 ·revert h;cases hd ts<;>simp[strength,uc,Op.strength]
section
variable {n:Nat}(G:Good n)
include G
theorem zc(d:Nat)(T0:List Tok)(hb:iO d T0)(hn:15*d+5<=n):∀(k:Nat) (x:Expr) (s7 s6 s5:Option (Expr×Op)) (ts:List Tok) (m7 m6 m5:Nat),Wk 7 s7->Wk 6 s6->Wk 5 s5->ts.length+1<=k->At T0 0 1 ts->
 16*ts.length+1<=m7->16*ts.length+1<=m6->16*ts.length+1<=m5->
 bj RE (At T0 0 1) (ec (Fn n).signed 5 7 k (cO x) (ju s7 s6 s5) ts) (do let(a,r) <-chain m7 7 (app s7 x) ts;let(c,r) <-chain m6 6 (app s6 a) r;chain m5 5 (app s5 c) r)
 |0,_,_,_,_,ts,_,_,_,_,_,_,hk,_,_,_,_=>by omega
 |k+1,x,s7,s6,s5,ts,m7,m6,m5,h7,h6,h5,hk,a,g7,g6,g5=>by
  have l5:lvl 5:= .inr (.inr (.inr (.inl rfl)));have l6:lvl 6:= .inr (.inr (.inr (.inr (.inl rfl))));have l7:lvl 7:= .inr (.inr (.inr (.inr (.inr rfl))));unfold ec;by_cases hc:5<=strength (hd ts)/\strength (hd ts)<=7
  ·rw[if_pos hc];obtain⟨q1,q2,q3,q4⟩:=Ke (ts:=ts) (by omega);have p1:=(((At.refl ts).eD rfl q1).1).weak (k':=0) (by rw[q2];rfl) (Nat.le_refl _);have xm:=(hb.at a).at p1;have hl:=p1.len;obtain hs|hs|hs:strength (hd ts)=7\/strength (hd ts)=6\/strength (hd ts)=5:=by omega
   ·rw[hs,Zi h7 h6 h5];obtain⟨m7,rfl⟩:∃m',m7=m'+1:=⟨m7 - 1,by omega⟩;rw[oA l7 hs];simp only[bind_assoc];refine bj.bind (G.signed d _ m7 xm hn (by omega)) λb y r e p=> ?_;subst e;have p2:=p1.sub p;have ih:=zc d T0 hb hn k y (some (app s7 x,uc (hd ts))) s6 s5 r m7 m6 m5 (Wk.some (q3.trans hs)) h6 h5 (by have:=p2.len;omega) ((a.sub p2).weak (by decide) (by omega)) (by have:=p2.len;omega) (by have:=p2.len;omega) (by have:=p2.len;omega)
    have e1:ju (some (app s7 x,uc (hd ts))) s6 s5=(cO (app s7 x),hd ts)::ju none s6 s5:=by
     show(cO (app s7 x),Fv (uc (hd ts)))::_=_;rw[q4];rfl
    rw[e1] at ih;exact ih
   ·rw[hs,Zh h7 h6 h5,gw l7 (by omega) m7 (by omega)];obtain⟨m6,rfl⟩:∃m',m6=m'+2:=⟨m6 - 2,by omega⟩;rw[oH];dsimp only;rw[oA l6 hs,pY (.inr (.inr (.inr (.inr rfl))))];simp only[bind_assoc];refine bj.bind (G.signed d _ m6 xm hn (by omega)) λb y r e p=> ?_;subst e;have p2:=p1.sub p;have ih:=zc d T0 hb hn k y none (some (app s6 (app s7 x),uc (hd ts))) s5 r m6 (m6+1) m5 (Wk.none _) (Wk.some (q3.trans hs)) h5 (by have:=p2.len;omega) ((a.sub p2).weak (by decide) (by omega)) (by have:=p2.len;omega) (by have:=p2.len;omega) (by have:=p2.len;omega)
    have e1:ju none (some (app s6 (app s7 x),uc (hd ts))) s5=(cO (app s6 (app s7 x)),hd ts)::ju none none s5:=by
     show(cO (app s6 (app s7 x)),Fv (uc (hd ts)))::_=_;rw[q4];rfl
    rw[e1] at ih;exact ih
   ·rw[hs,QD h7 h6 h5,gw l7 (by omega) m7 (by omega),oH];dsimp only;rw[gw l6 (by omega) m6 (by omega),oH];dsimp only;obtain⟨m5,rfl⟩:∃m',m5=m'+3:=⟨m5 - 3,by omega⟩;rw[oA l5 hs,pY (.inr (.inr (.inr (.inl rfl)))),pY (.inr (.inr (.inr (.inr rfl))))];simp only[bind_assoc];refine bj.bind (G.signed d _ m5 xm hn (by omega)) λb y r e p=> ?_;subst e;have p2:=p1.sub p;have ih:=zc d T0 hb hn k y none none (some (app s5 (app s6 (app s7 x)),uc (hd ts))) r m5 (m5+1) (m5+2) (Wk.none _) (Wk.none _) (Wk.some (q3.trans hs)) (by have:=p2.len;omega) ((a.sub p2).weak (by decide) (by omega)) (by have:=p2.len;omega) (by have:=p2.len;omega) (by have:=p2.len;omega)
    have e1:ju none none (some (app s5 (app s6 (app s7 x)),uc (hd ts)))=(cO (app s5 (app s6 (app s7 x))),hd ts)::[]:=by
     show(cO (app s5 (app s6 (app s7 x))),Fv (uc (hd ts)))::_=_;rw[q4];rfl
    rw[e1] at ih;exact ih
  ·rw[if_neg hc,QD h7 h6 h5,gw l7 (by omega) m7 (by omega),oH];dsimp only;rw[gw l6 (by omega) m6 (by omega),oH];dsimp only;rw[gw l5 (by omega) m5 (by omega)];exact bj.ok rfl a
theorem JT(d:Nat)(ts:[5])(m:Nat)(hb:[59])(hn:[53,6])(hm:[75,7]):[90,lV (Fn n) true ts,5]:=by
 obtain⟨m,rfl⟩:∃m',m=m'+3:=[72,m -3];unfold lV;rw[pY (.inr (.inr [38])),pY [189,[38]],pY [189,[267]]];simp only[bind_assoc,if_true];refine bj.bind (G.signed d ts m hb [2] [2]) λb y r e p=> ?_;rw[5,zc G d ts hb [2] [90] y none none none r m (m+1) (m+2) [536] [536] [536] [8] p (by rw[25]) (by rw[25]) (by rw[25])]
theorem C6(d:Nat)(T0:List Tok)(hb:iO d T0)(hn:15*d+9<=n):∀(k:Nat) (x:Expr) (s2 s1:Option (Expr×Op)) (ts:List Tok) (m2 m1:Nat),Wk 2 s2->Wk 1 s1->ts.length+1<=k->At T0 0 1 ts->
 16*ts.length+1<=m2->16*ts.length+1<=m1->
 bj RE (At T0 0 1) (ec (Fn n).jd 1 2 k (cO x) (ju none s2 s1) ts) (do let(a,r) <-chain m2 2 (app s2 x) ts;chain m1 1 (app s1 a) r)
 |0,_,_,_,ts,_,_,_,_,hk,_,_,_=>by omega
 |k+1,x,s2,s1,ts,m2,m1,h2,h1,hk,a,g2,g1=>by
  have l1:lvl 1:= .inl rfl;have l2:lvl 2:= .inr (.inl rfl)
  have j2:∀y,join 2 (cO y) (ju none s2 s1)=(cO (app s2 y),ju none none s1):=λy=>by
   have low:∀y,join 2 y (ju none none s1)=(y,ju none none s1):=λy=>by
    cases s1 with
    |none=>rfl
    |some p=>exact ux (by rw[cu,h1 p rfl];omega)
   cases s2 with
   |none=>exact low _
   |some p=>exact(kC (by rw[cu,h2 p rfl];omega)).trans (low _)
  have j1:∀y,join 1 (cO y) (ju none s2 s1)=(cO (app s1 (app s2 y)),[]):=λy=>by
   have low:∀y,join 1 (cO y) (ju none none s1)=(cO (app s1 y),[]):=λy=>by
    cases s1 with
    |none=>rfl
    |some p=>exact kC (by rw[cu,h1 p rfl];omega)
   cases s2 with
   |none=>exact low _
   |some p=>exact(kC (by rw[cu,h2 p rfl];omega)).trans (low (.bin p.2 p.1 y))
  unfold ec;by_cases hc:1<=strength (hd ts)/\strength (hd ts)<=2
  ·rw[if_pos hc];obtain⟨q1,q2,q3,q4⟩:=Ke (ts:=ts) (by omega);have p1:=(((At.refl ts).eD rfl q1).1).weak (k':=0) (by rw[q2];rfl) (Nat.le_refl _);have xm:=(hb.at a).at p1;have hl:=p1.len;obtain hs|hs:strength (hd ts)=2\/strength (hd ts)=1:=by omega
   ·rw[hs,j2];obtain⟨m2,rfl⟩:∃m',m2=m'+1:=⟨m2 - 1,by omega⟩;rw[oA l2 hs];simp only[bind_assoc];refine bj.bind (G.jd d _ m2 xm hn (by omega)) λb y r e p=> ?_;subst e;have p2:=p1.sub p;have ih:=C6 d T0 hb hn k y (some (app s2 x,uc (hd ts))) s1 r m2 m1 (Wk.some (q3.trans hs)) h1 (by have:=p2.len;omega) ((a.sub p2).weak (by decide) (by omega)) (by have:=p2.len;omega) (by have:=p2.len;omega)
    have e1:ju none (some (app s2 x,uc (hd ts))) s1=(cO (app s2 x),hd ts)::ju none none s1:=by
     show(cO (app s2 x),Fv (uc (hd ts)))::_=_;rw[q4];rfl
    rw[e1] at ih;exact ih
   ·rw[hs,j1,gw l2 (by omega) m2 (by omega),oH];dsimp only;obtain⟨m1,rfl⟩:∃m',m1=m'+2:=⟨m1 - 2,by omega⟩;rw[oA l1 hs,pY (.inr (.inl rfl))];simp only[bind_assoc];refine bj.bind (G.jd d _ m1 xm hn (by omega)) λb y r e p=> ?_;subst e;have p2:=p1.sub p;have ih:=C6 d T0 hb hn k y none (some (app s1 (app s2 x),uc (hd ts))) r m1 (m1+1) (Wk.none _) (Wk.some (q3.trans hs)) (by have:=p2.len;omega) ((a.sub p2).weak (by decide) (by omega)) (by have:=p2.len;omega) (by have:=p2.len;omega)
    have e1:ju none none (some (app s1 (app s2 x),uc (hd ts)))=(cO (app s1 (app s2 x)),hd ts)::[]:=by
     show(cO (app s1 (app s2 x)),Fv (uc (hd ts)))::_=_;rw[q4];rfl
    rw[e1] at ih;exact ih
  ·rw[if_neg hc,j1,gw l2 (by omega) m2 (by omega),oH];dsimp only;rw[gw l1 (by omega) m1 (by omega)];exact bj.ok rfl a
theorem JS(d:Nat)(ts:[5])(m:Nat)(hb:[59])(hn:[53,10])(hm:[75,11]):[90,lV (Fn n) false ts,1]:=by
 obtain⟨m,rfl⟩:∃m',m=m'+2:=[72,m -2];unfold lV;rw[pY [38],pY (.inr [38])];simp only[bind_assoc,Bool.false_eq_true,if_false];refine bj.bind (G.jd d ts m hb [2] [2]) λb y r e p=> ?_;rw[5,C6 G d ts hb [2] [90] y none none r m (m+1) [536] [536] [8] p (by rw[25]) (by rw[25])]
end
theorem J1(n:Nat)(G:Good n)(G':∀n',n=n'+1->Good n'):Good (n+1) where
 expr:=RR G
 orr:=X0 G
 Jd:=JS G
 jd:=RU G
 compared:=Dm G
 joined:=JV G
 Je:=JT G
 signed:=JX G
 bH:=G6 G
 simple:=JY G
 eR:=G7 G
 cp:=AK G
 function:=Dn G
 dj:=λd ts m p k h hb hn hm=>by cases n with
  |zero=>omega
  |succ n=>exact Dr (G' n rfl) d ts m p k h hb [2] hm
 listed:=JW G
 block:=NO G
 stmts:=NQ G
 stmt:=RV G
 di:=Dq G
 telling:=G8 G
 iff:=XZ G
 kK:=RW G
 iT:=RT G
theorem Fh:∀n,Good n/\∀n',n=n'+1->Good n'
 |0=>⟨G9,λ_ e=>by cases e⟩
 |n+1=>⟨J1 n (Fh n).1 (Fh n).2,λn' e=>by cases e;exact(Fh n).1⟩
theorem tQ(ts:[5])(h:[906]=none)(n:Nat)(hn:375<=n):match(Fn n).stmts .fin ts with
 | .out=>False
 | .bad=>∃k,program ts= .error k
 | .ok a r=>r=[]/\∃x,program ts= .ok x/\a=iE x:=by
 have hb:iO 24 ts:=by
  unfold iO Dp;simpa using h
 have g:=(Fh n).1.stmts 24 ts (enough ts) .fin [38] hb [2] (by unfold enough;omega);have Yv:∀r:[5],hd r= .fin↔r.isEmpty=true:=λr=>by cases r with
  |nil=>simp[hd]
  |cons t r=>
   have:[31]≠.fin:=by
    intro e;cases hl:t.lex with
     |num v=>rw[59]
     |quoted v=>rw[59]
     |word v=>
      rw[hl] at e;rcases eO v with h|⟨p,hp,rfl⟩
      ·rw[55]
      ·rw[[60,gQ hp]] at e;exact([33,[147,Kd.fin]]) p hp e
     |sign v=>
      rw[hl] at e;rcases eJ v with h|⟨p,hp,rfl⟩
      ·rw[54]
      ·rw[[60,d5 hp]] at e;exact([33,[704]]) p hp e
   rw[32,absurd e this]
 unfold program;cases hM:(Fn n).stmts .fin ts with
  |out=>
   rw[hM] at g;exact g.elim
  |bad=>
   rw[hM] at g;obtain⟨e,q⟩:=g;cases hS:statements (enough ts) ts with
    |error e=>rw[1]
    |ok v=>
     obtain⟨l,r⟩:=v;rw[hS] at q;have q:[4,hd r,.fin,Except.ok (l,r),.error 0]= .error e:=q;have gx:¬hd r= .fin:=λz=>by
      rw[7,z];cases q
     show∃k,[1196]= .error k;rw[0,[59,gx ((Yv r).mpr z)],[53]]
  |ok a r=>
   rw[hM] at g;obtain⟨x,q,e1,_⟩:=g;cases hS:statements (enough ts) ts with
    |error e=>
     rw[hS] at q;cases q
    |ok v=>
     obtain⟨l,r2⟩:=v;rw[hS] at q;have q:[4,hd r2,.fin,Except.ok (l,r2),.error 0]= .ok (x,r):=q;by_cases hc:hd r2= .fin
     ·rw[7,hc];cases q;have hr:=(Yv r).mp hc;refine⟨List.isEmpty_iff.mp hr,x,?_,e1⟩;show[1196]= .ok x;rw[if_pos hr];rfl
     ·rw[10,hc];cases q
end
section
variable {α:Type} {m n:Nat} {ts:[5]}
def Res.le {α:Type}(x:[65])(n:Nat):Prop:=∀a r,x=[12,a]->r.length<=n
theorem az {β:Type} {x:[65]} {f:[610]}(h:x.le m)(k:∀a r,x=[12,a]->r.length<=m->(f a r).le n):(x.bind f).le n:=by
 intro b r e;cases hx:x with
  |ok a r1=>
   rw[hx] at e;exact k a r1 hx (h a r1 hx) b r e
  |bad=>rw[60]
  |out=>rw[60]
theorem cP {a:α} {r:[5]}(h:r.length<=n):(Res.ok a r).le n:=by
 rw[35];exact h
theorem DM:(Res.bad:[65]).le n:=by rw[35]
theorem cS:(Res.out:[65]).le n:=by rw[35]
theorem bR {k:Kd}(h:ts.length<=n+1):[234].le n:=by
 intro a r e;cases ts with
  |nil=>cases e
  |cons t r'=>
   unfold tk at e;simp only[] at e;split at e
   ·cases e;simpa using h
   ·cases e
theorem bZ {c:Prop} [Decidable c] {x y:[65]}(h1:c->x.le n)(h2:¬c->y.le n):(if c then x else y).le n:=by rw[14,h1 ‹_›,h2 ‹_›]
theorem Res.le.mono {x:[65]}(h:x.le m)(e:m<=n):x.le n:=[1325]
theorem dh(ts:[5]):[32,[61],ts.length]:=[4]
theorem eE {k:Kd}(h:[12]=k)(hk:[144]):[1224]:=by cases ts with
 |nil=>exact absurd h.symm hk
 |cons t r=>rfl
structure M'(F:jf):Prop where
 expr:∀ts,(F.expr ts).le ts.length
 orr:∀ts,(F.orr ts).le ts.length
 chain:∀j ts,(F.chain j ts).le ts.length
 jd:∀ts,(F.jd ts).le ts.length
 compared:∀ts,(F.compared ts).le ts.length
 joined:∀ts,(F.joined ts).le ts.length
 signed:∀ts,(F.signed ts).le ts.length
 bH:∀ts,(F.bH ts).le ts.length
 simple:∀ts,(F.simple ts).le ts.length
 eR:∀ts,(F.eR ts).le ts.length
 cp:∀ts,(F.cp ts).le ts.length
 function:∀ts,(F.function ts).le ts.length
 dj:∀k ts,(F.dj k ts).le ts.length
 listed:∀k ts,(F.listed k ts).le ts.length
 block:∀ts,(F.block ts).le ts.length
 stmts:∀k ts,(F.stmts k ts).le ts.length
 stmt:∀ts,(F.stmt ts).le (ts.length - 1)
 di:∀k ts,(F.di k ts).le (ts.length - 1)
 telling:∀k ts,(F.telling k ts).le (ts.length - 1)
 iff:∀ts,(F.iff ts).le (ts.length - 1)
 kK:∀ts,(F.kK ts).le (ts.length - 1)
 iT:∀ts,(F.iT ts).le (ts.length - 1)
theorem pF(ts:[5]):[65,d6 ts]:=by
 unfold d6;refine[22,?_,?_];rw[2,[36,bR (n:=ts.length) (by rw[0,dh ts]),cP h],[261]]
theorem lU:[367,[65,gC k acc ts]]
 |0,_,_=>cS
 |k+1,acc,ts=>by
  unfold gC;rw[4,[22,?_,cP [8]],[74,bR (n:=ts.length) (by rw[0,dh ts]),lU k _ r]]
theorem rf:[367,[65,dn k acc ts]]
 |0,_,_=>cS
 |k+1,acc,ts=>by
  unfold dn;rw[4,[22,?_,cP [8]],[74,bR (n:=ts.length) (by rw[0,dh ts]),rf k _ r]]
theorem DQ(ts:[5]):[65,cU ts]:=by
 unfold cU;rw[1,[22,cP (dh ts),?_],[77,az ((rf _ _ r).mono h) λ_ r2 _ h2=>az [699] λ_ r3 _ h3=>cP h3]]
theorem DR(ts:[5]):(jU ts).le [649]:=by
 unfold jU;refine[29,[184],[29,[184],[29,[184],[29,(pF r).mono h,[29,[184],[151,(pF r).mono h,pF r]]]]]]
theorem DP(ts:[5]):(jT ts).le [649]:=by
 unfold jT;refine[29,[184],[29,[184],[29,[184],[29,[184],[151,[184],lU _ _ r]]]]]
section
variable {F:jf}(S:M' F)
include S
theorem qP {part:([5])->[58]}(hp:∀ts,[65,part ts])(lo h:Nat):[472,[65,ec part lo h k x gI ts]]
 |0,_,_,_=>cS
 |k+1,x,gI,ts=>by
  unfold ec;rw[4,[22,?_,cP [8]],az ((hp _).mono (dh ts)) λa r _ h'=>(qP hp lo h k _ _ r).mono h']
theorem kF:∀(k:Nat) (x:T) (ts:[5]),[65,eZ F k x ts]
 |0,_,_=>cS
 |k+1,x,ts=>by
  unfold eZ;have Hf:=dh ts;refine[22,?_,[24,?_,?_,cP [8]]];rw[2,[74,(S.listed _ _).mono Hf,kF k _ r],[36,(S.expr _).mono Hf,[77,(kF k _ r).mono h]]]
  ·exact[77,(kF k _ r).mono h]
theorem tI:[285,[65,dY F k acc ts]]
 |0,_,_=>cS
 |k+1,acc,ts=>by
  unfold dY;rw[4,[22,?_,cP [8]],[74,(S.expr _).mono (dh ts),tI k _ r]]
theorem xT(ts:[5]):[65,lg F ts]:=by
 unfold lg;exact[29,[699],[29,[699],[29,(S.expr r).mono h,cP h]]]
theorem pV:[473,[65,dk F k ns ps ts]]
 |0,_,_,_=>cS
 |k+1,ns,ps,ts=>by
  unfold dk;refine[22,?_,?_];rw[2,[74,(xT S _).mono (dh ts),pV k _ _ r],[29,[699],cP h]]
theorem rH(c:Kd):[285,[65,gg F c k acc ts]]
 |0,_,_=>cS
 |k+1,acc,ts=>by
  unfold gg;rw[4,[22,cP [8],?_],[74,(S.stmt _).mono (Nat.sub_le _ _),rH c k _ r]]
theorem L0:M' (Mg F) where
 expr ts:=by
  show(rq F ts).le _;unfold rq;refine[36,S.orr ts,[22,?_,cP h]];have:=dh r;exact[36,(S.orr _).mono (Nat.le_trans this h),[77,[47,S.orr r,cP h]]]
 orr ts:=S.chain false ts
 chain j ts:=by
  show(lV F j ts).le _;rw[53,∀ts,[65,[1301]]];exact[74,hp ts,qP S hp _ _ _ _ _ r]
 jd ts:=by
  show(zS F ts).le _;unfold zS;exact[22,[36,(S.compared _).mono (dh ts),cP h],S.compared ts]
 compared ts:=by
  show(iu F ts).le _;unfold iu;exact[36,S.joined ts,[22,[449,S.joined _],cP h]]
 joined ts:=S.chain true ts
 signed ts:=by
  show(kG F ts).le _;unfold kG;exact[22,[36,(S.bH _).mono (dh ts),cP h],S.bH ts]
 bH ts:=by
  show(jr F ts).le _;unfold jr;exact[74,S.simple ts,kF S _ _ r]
 simple ts:=by
  show(kH F ts).le _;unfold kH;have:=dh ts;refine[24,[261],[261],[24,[261],S.eR ts,[24,S.function ts,S.dj _ ts,[24,[36,(S.listed _ _).mono this,cP h],cP this,DM]]]]
 eR ts:=by
  show(js F ts).le _;unfold js;refine[77,[24,?_,(S.cp r).mono h,?_]]
  ·have:=dh r;exact[261]
  ·exact[47,S.expr r,[261]]
 cp ts:=by
  show(ic F ts).le _;unfold ic;exact[74,xT S ts,pV S _ _ _ r]
 function ts:=by
  show(iy F ts).le _;unfold iy;refine[77,az (m:=ts.length) [22,[261],cP h] λa r _ h=>[77,[47,DQ r,[47,S.block r,cP h]]]]
 dj k ts:=by
  show(iA F k ts).le _;unfold iA;exact[77,[77,[47,S.listed _ r,[22,cP h,DM]]]]
 listed k ts:=by
  show(jq F k ts).le _;unfold jq;exact[22,cP (dh ts),[36,S.expr ts,[47,tI S _ _ r,[261]]]]
 block ts:=by
  show(nJ F ts).le _;unfold nJ;exact[77,[47,S.stmts _ r,[261]]]
 stmts k ts:=rH S k _ _ ts
 stmt ts:=by
  show(o5 F ts).le _;unfold o5;exact[22,S.di _ ts,[24,S.telling _ ts,S.iff ts,[24,S.kK ts,S.iT ts,[24,DR ts,DP ts,DM]]]]
 di k ts:=by
  show(iz F k ts).le _;unfold iz;exact[121,[121,[1193]]]
 telling k ts:=by
  show(jt F k ts).le _;unfold jt;exact[1193]
 iff ts:=by
  show(Pf F ts).le _;unfold Pf;rw[4,[121,[47,S.expr r,[47,S.block r,[22,?_,cP h]]]],[449,S.block _]]
 kK ts:=by
  show(nM F ts).le _;unfold nM;exact[1160]
 iT ts:=by
  show(zR F ts).le _;unfold zR;exact[121,[121,[1160]]]
end
theorem shr:∀n,M' (Fn n)
 |0=>⟨[98],[98],[423],[98],[98],[98],[98],[98],[98],[98],[98],[98],[423],[423],[98],[423],[98],[423],[423],[98],[98],[98]⟩
 |n+1=>L0 (shr n)
end
section
variable {α:Type} {n:Nat} {r ts:[5]}
mutual
def T.sz:T->Nat
 | .mk _ p b _ ns _ _=>1+ns.length+eY p+iN b
def eY:([24])->Nat
 | []=>0
 |t::r=>t.sz+eY r
def iN:([100])->Nat
 | []=>0
 |l::r=>eY l+iN r
end
theorem dX(k:Kd)(p:[24])(b:[100])(n:[74])(ns:[23])(v:TV):(eS k p b n ns v).sz=1+ns.length+eY p+iN b:=by
 unfold eS;rw[T.sz]
theorem uF(a b:[24]):eY (a++b)=eY a+eY b:=by induction a with
 |nil=>simp[eY]
 |cons x r ih=>
  rw[List.cons_append,eY,eY,ih];omega
theorem T8(t:T):1<=t.sz:=by
 cases t;rw[T.sz];omega
theorem zx:∀l:[24],l.length<=eY l
 | []=>[8]
 |t::r=>by
  have:=T8 t;have:=zx r;rw[eY,List.length_cons];omega
def Res.fit {α:Type}(s:α->Nat)(x:[65])(n:Nat):Prop:=∀a r,x=[12,a]->s a+r.length<=n
theorem aw {β:Type} {s:β->Nat} {x:[65]} {f:[610]}(k:∀a r,x=[12,a]->(f a r).fit s n):(x.bind f).fit s n:=by
 intro b r e;cases hx:x with
  |ok a r1=>
   rw[hx] at e;exact k a r1 hx b r e
  |bad=>rw[60]
  |out=>rw[60]
theorem ck {s:α->Nat} {a:α}(h:s a+r.length<=n):(Res.ok a r).fit s n:=by
 rw[35];exact h
theorem zk {s:α->Nat}:(Res.bad:[65]).fit s n:=by rw[35]
theorem cb {s:α->Nat}:(Res.out:[65]).fit s n:=by rw[35]
theorem dz {k:Kd} {l:Lex}(e:[234]=[12,l]):[90]=ts.length:=by cases ts with
 |nil=>cases e
 |cons t r'=>
  unfold tk at e;simp only[] at e;split at e
  ·cases e;rfl
  ·cases e
theorem bC {s:α->Nat} {c:Prop} [Decidable c] {x y:[65]}(h1:c->x.fit s n)(h2:¬c->y.fit s n):(if c then x else y).fit s n:=by rw[14,h1 ‹_›,h2 ‹_›]
theorem Res.fit.mono {s:α->Nat} {x:[65]} {m:Nat}(h:x.fit s m)(e:m<=n):x.fit s n:=[1325]
structure Fit(F:jf):Prop where
 expr:∀ts,(F.expr ts).fit T.sz ts.length
 orr:∀ts,(F.orr ts).fit T.sz ts.length
 chain:∀j ts,(F.chain j ts).fit T.sz ts.length
 jd:∀ts,(F.jd ts).fit T.sz ts.length
 compared:∀ts,(F.compared ts).fit T.sz ts.length
 joined:∀ts,(F.joined ts).fit T.sz ts.length
 signed:∀ts,(F.signed ts).fit T.sz ts.length
 bH:∀ts,(F.bH ts).fit T.sz ts.length
 simple:∀ts,(F.simple ts).fit T.sz ts.length
 eR:∀ts,(F.eR ts).fit T.sz ts.length
 cp:∀ts,(F.cp ts).fit T.sz (ts.length+1)
 function:∀ts,(F.function ts).fit T.sz ts.length
 dj:∀k ts,(F.dj k ts).fit T.sz ts.length
 listed:∀k ts,(F.listed k ts).fit eY ts.length
 block:∀ts,(F.block ts).fit eY ts.length
 stmts:∀k ts,(F.stmts k ts).fit eY ts.length
 stmt:∀ts,(F.stmt ts).fit T.sz ts.length
 di:∀k ts,(F.di k ts).fit T.sz ts.length
 telling:∀k ts,(F.telling k ts).fit T.sz ts.length
 iff:∀ts,(F.iff ts).fit T.sz ts.length
 kK:∀ts,(F.kK ts).fit T.sz ts.length
 iT:∀ts,(F.iT ts).fit T.sz ts.length
theorem pZ:[367,(dn k acc ts).fit List.length (acc.length+ts.length)]
 |0,_,_=>cb
 |k+1,acc,ts=>by
  unfold dn;rw[1,[915],[145,[66,pZ k _ r]]];have:=dz e;have:=[196];rw[0]
theorem Bk(ts:[5]):(cU ts).fit List.length ts.length:=by
 unfold cU;rw[1,[28,ck [4],?_],[145,aw λns r2 e2=>[705]]];rw[11,dz e,pZ _ _ _ ns r2 e2];have h3:=dz e3;simp at h2;omega
theorem vJ {z:Int}(e:d6 ts=[12,z]):[90]<=ts.length:=by
 have h:=pF ts z r e;revert e;unfold d6;split
 ·intro e;cases e2:tk .number (ts.drop 1) with
   |ok l r1=>
    rw[24];rw[12,dz e2,dh ts]
   |bad=>rw[24]
   |out=>rw[24]
 ·intro e;cases e2:tk .number ts with
   |ok l r1=>
    rw[24];rw[0,dz e2]
   |bad=>rw[24]
   |out=>rw[24]
theorem Bl(ts:[5]):[289,jU ts]:=by
 unfold jU;refine aw [94,λ_ r2 e2=>[192,λ_ r4 e4=>aw λ_ r5 e5=>aw λ_ r6 e6=>aw λ_ r7 e7=>aw λ_ r8 e8=>aw λ_ r9 e9=>ck ?_]];have:=dz e1;have:=dz e2;have:=dz e3;have:=vJ e4;have:=dz e5;have:=vJ e6;have:=dz e7;have:=vJ e8;rw[19,dz e9]
theorem Bi(ts:[5]):[289,jT ts]:=by
 unfold jT;refine aw [94,λ_ r2 e2=>[192,λ_ r4 e4=>aw λ_ r5 e5=>aw λ_ r6 e6=>aw λ_ r7 e7=>aw λ_ r8 e8=>ck ?_]];have:=dz e1;have:=dz e2;have:=dz e3;have:=dz e4;have:=dz e5;have:=dz e6;have:=lU _ _ _ _ _ e7;have:=dz e8;rw[29]
def wI:([281])->Nat
 | []=>0
 |p::r=>p.1.sz+1+wI r
theorem zu(st:Nat):∀(gI:[281]) (x:T),(join st x gI).1.sz+wI (join st x gI).2=x.sz+wI gI
 | [],x=>rfl
 |(l,s)::gI,x=>by
  unfold join;split
  ·rw[zu st gI,dX];simp[eY,iN,wI];omega
  ·rfl
section
variable {F:jf}(S:Fit F)(S':M' F)
include S
theorem pU {part:([5])->[58]}(hp:∀ts,[289,part ts])(lo h:Nat)(hlo:1<=lo):[472,(ec part lo h k x gI ts).fit T.sz (x.sz+wI gI+ts.length)]
 |0,_,_,_=>cb
 |k+1,x,gI,ts=>by
  unfold ec;refine bC (λhc=> ?_) λ_=>ck ?_
  ·refine aw λy r e=>[66,pU hp lo h hlo k _ _ r];rw[11,hp _ y r e,eE (ts:=ts) rfl (λz=>by rw[z] at hc;have:=hc.1;simp[strength] at this;omega)];have h3:=zu [254] gI x;simp only[wI];omega
  ·rw[0,zu lo gI x]
theorem jX:∀(k:Nat) (x:T) (ts:[5]),(eZ F k x ts).fit T.sz (x.sz+ts.length)
 |0,_,_=>cb
 |k+1,x,ts=>by
  unfold eZ;refine[49,?_,[49,?_,[915]]]
  ·rw[31,[66,jX k _ r]];have:=S.listed _ _ a r e;have:=[196];rw[29]
  ·rw[31,aw λ_ r2 e2=>[66,jX k _ r2]];have:=S.expr _ a r e;have:=[196];rw[19,dz e2]
  ·refine aw λa r e=>[66,jX k _ r];have:=dz e;have:=[196];rw[29]
theorem rb:[285,(dY F k acc ts).fit eY (eY acc+ts.length)]
 |0,_,_=>cb
 |k+1,acc,ts=>by
  unfold dY;rw[1,[915],[145,[66,rb k _ r]]];have:=S.expr _ a r e;have:=[196];rw[uF];simp[eY];omega
theorem u5 {x:Bytes×T}(e:lg F ts=[12,x]):x.2.sz+r.length+2<=ts.length:=by
 unfold lg at e;cases e1:tk .name ts with
  |bad=>
   rw[e1] at e;cases e
  |out=>
   rw[e1] at e;cases e
  |ok l r1=>
   rw[e1] at e;change(tk .colon r1).bind _=_ at e;cases e2:tk .colon r1 with
    |bad=>rw[24]
    |out=>rw[24]
    |ok l2 r2=>
     rw[e2] at e;change(F.expr r2).bind _=_ at e;cases e3:F.expr r2 with
      |bad=>
       rw[e3] at e;cases e
      |out=>
       rw[e3] at e;cases e
      |ok t r3=>
       rw[e3] at e;change Res.ok _ _=_ at e;cases e;have:=S.expr _ t r e3;have:=dz e1;have:=dz e2;simp only[];omega
theorem oI:[473,(dk F k ns ps ts).fit T.sz (ns.length+eY ps+ts.length)]
 |0,_,_,_=>cb
 |k+1,ns,ps,ts=>by
  unfold dk;refine[49,?_,?_]
  ·rw[31,[66,oI k _ _ r]];have:=u5 S e;have:=[196];rw[uF];simp[eY];omega
  ·refine aw λ_ r e=>ck ?_;have:=dz e;rw[dX];simp[iN];omega
theorem qa(c:Kd):[285,(gg F c k acc ts).fit eY (eY acc+ts.length)]
 |0,_,_=>cb
 |k+1,acc,ts=>by
  unfold gg;rw[1,[28,ck [8],?_],[145,[66,qa c k _ r]]];have:=S.stmt _ a r e;rw[uF];simp[eY];omega
theorem JD:Fit (Mg F) where
 expr ts:=by
  rw[9,rq F ts];unfold rq;rw[1,[145,[49,?_,ck (S.orr _ a r e)]],aw λa2 r2 e2=>[192,λa4 r4 e4=>ck ?_]];have:=S.orr _ a r e;have:=S.orr _ _ _ e2;have:=dz e3;have:=S.orr _ _ _ e4;rw[19,[196]]
 orr ts:=S.chain false ts
 chain j ts:=by
  rw[9,lV F j ts];rw[53,∀ts,[289,[1301]]];rw[31,[66,pU S hp _ _ (by cases j<;>decide) _ _ _ r]];have:=hp _ a r e;simp[wI];omega
 jd ts:=by
  rw[9,zS F ts];unfold zS;refine[49,[457],S.compared ts];have:=S.compared _ _ _ e;have:=[196];rw[29]
 compared ts:=by
  rw[9,iu F ts];unfold iu;rw[31,[49,aw λa2 r2 e2=>ck ?_,ck (S.joined _ a r e)]];have:=S.joined _ _ _ e;have:=S.joined _ _ _ e2;rw[19,eE (ts:=r) rfl (λz=>by rw[z] at h;cases h)]
 joined ts:=S.chain true ts
 signed ts:=by
  rw[9,kG F ts];unfold kG;refine[49,[457],S.bH ts];have:=S.bH _ _ _ e;have:=[196];rw[29]
 bH ts:=by
  rw[9,jr F ts];unfold jr;rw[31,(jX S _ _ r).mono (S.simple _ a r e)]
 simple ts:=by
  rw[9,kH F ts];unfold kH;refine[28,[457],[28,[457],[28,[457],[28,S.eR ts,[28,S.function ts,[28,S.dj _ ts,[49,[457],[49,ck ?_,zk]]]]]]]]
  ·rw[19,dz e]
  ·rw[19,dz e]
  ·rw[19,dz e]
  ·have:=S.listed _ _ _ _ e;have:=[196];rw[dX];simp[iN];omega
  ·have:=eE (ts:=ts) rfl (λz=>by rw[z] at h;simp at h);rw[dX];simp[eY,iN] at*;omega
 eR ts:=by
  rw[9,js F ts];unfold js;refine[145,[49,?_,[28,(S.cp r).mono (by rw[0,dz e]),?_]]]
  ·refine aw λa2 r2 e2=>ck ?_;have:=dz e;have:=dz e2;rw[19,[196]]
  ·refine aw λa2 r2 e2=>[705];have:=dz e;have:=[712];rw[0,dz e3]
 cp ts:=by
  rw[9,ic F ts];unfold ic;rw[31,[66,oI S _ _ _ r]];have:=u5 S e;simp[eY];omega
 function ts:=by
  rw[9,iy F ts];unfold iy;refine aw [94,λown r2 e2=>[192,λns r4 e4=>aw λb r5 e5=>ck ?_]];have h1:=dz e1;have h3:=dz e3;have h4:=Bk _ _ _ e4;have h5:=[206,e5];have h2:r2.length<=r1.length:=by
   revert e2;split
   ·intro e2;cases e:tk .name r1 with
     |ok l r=>
      rw[e] at e2;cases e2;rw[0,dz e]
     |bad=>
      rw[e] at e2;cases e2
     |out=>
      rw[e] at e2;cases e2
   ·intro e2;cases e2;exact[8]
  rw[29]
 dj k ts:=by
  rw[9,iA F k ts];unfold iA;refine aw [94,λ_ r2 e2=>aw λa r3 e3=>[28,ck ?_,zk]];have:=dz e1;have:=dz e2;have:=S.listed _ _ _ _ e3;rw[dX];simp[iN];omega
 listed k ts:=by
  rw[9,jq F k ts];unfold jq;refine[28,ck (by simp[eY]),aw λa r1 e1=>aw λl r2 e2=>[705]];have:=S.expr _ _ _ e1;have h2:=rb S _ _ _ _ _ e2;have:=dz e3;simp[eY] at h2;omega
 block ts:=by
  rw[9,nJ F ts];unfold nJ;refine aw [94,λl r2 e2=>[705]];have:=dz e1;have:=S.stmts _ _ _ _ e2;rw[0,dz e3]
 stmts k ts:=by
  rw[9,zU F k ts];exact(qa S k _ _ ts).mono (by simp[eY])
 stmt ts:=by
  rw[9,o5 F ts];unfold o5;exact[28,S.di _ ts,[28,S.telling _ ts,[28,S.iff ts,[28,S.kK ts,[28,S.iT ts,[28,Bl ts,[28,Bi ts,zk]]]]]]]
 di k ts:=by
  rw[9,iz F k ts];unfold iz;refine aw [94,λ_ r2 e2=>[192,[1213]]];have:=dz e1;have:=dz e2;have:=dz e3;have:=[889];rw[19,dz e5]
 telling k ts:=by
  rw[9,jt F k ts];unfold jt;refine aw [94,[1213]];have:=dz e1;have:=[889];rw[19,dz e5]
 iff ts:=by
  rw[9,Pf F ts];unfold Pf;refine aw [94,λa r2 e2=>aw λb r3 e3=>[49,aw λd r4 e4=>ck ?_,ck ?_]]
  ·have:=dz e1;have:=[712];have:=[206,e3];have:=[206,e4];have:=dh r3;rw[dX];simp[eY,iN] at*;omega
  ·have:=dz e1;have:=[712];rw[19,[206,e3]]
 kK ts:=by
  rw[9,nM F ts];unfold nM;refine aw [94,λa r2 e2=>aw λb r3 e3=>ck ?_];have:=dz e1;have:=[712];rw[19,[206,e3]]
 iT ts:=by
  rw[9,zR F ts];unfold zR;refine aw [94,λ_ r2 e2=>[192,λa r4 e4=>aw λb r5 e5=>ck ?_]];have:=dz e1;have:=dz e2;have:=dz e3;have:=[889];rw[19,[206,e5]]
end
theorem fits:∀n,Fit (Fn n)
 |0=>⟨[99],[99],[424],[99],[99],[99],[99],[99],[99],[99],[99],[99],[424],[424],[99],[424],[99],[424],[424],[99],[99],[99]⟩
 |n+1=>JD (fits n)
end
end CN
end
section
namespace CN
open Vanbka Vanbkc
section
variable {st:Nat} {e:[111]}
structure Pl where
 kind:Kind
 name:Bytes
 level:Nat
 home:Nat
 st:Nat
structure Us where
 name:Bytes
 bound:Option Nat
 isSet:Bool
 level:Nat
 st:Nat
structure Vi where
 node:T
 level:Nat
 st:Nat
structure W where
 places:List Pl
 uses:List Us
 cE:List Vi
 holding:List Nat
 met:Nat
def W.start:W:=⟨[],[],[],[],1⟩
def isNm(ps:[36])(x:Bytes)(k:Nat):Bool:=match ps[k]? with
 |some p=>p.name==x
 |none=>false
def bK(ps:[36])(hold:[30])(x:Bytes):[284]:=hold.reverse.find? (isNm ps x)
def iq:Kd->Option Kind
 | .oP=>some .leta
 | .cq=>some .slider
 | .bW=>some .choice
 |_=>none
def W.lG(w:W)(v:Vi):W:={w with cE:=w.cE++[v]}
def W.put(w:W)(p:Pl):W:={w with places:=w.places++[p]}
def W.use(w:W)(u:Us):W:={w with uses:=w.uses++[u]}
def W.hold(w:W)(l:[30]):W:={w with holding:=w.holding++l}
def W.back(w:W)(n:Nat):W:={w with holding:=w.holding.take n}
def W.block(w:W):W:={w with met:=w.met+1}
abbrev Wf:=T->Nat->Nat->Nat->W->W
def bh(f:Wf)(l:[24])(home lv st:Nat)(w:W):W:=l.foldl (λw t=>[645]) w
def bI(f:Wf)(l:[24])(home lv st:Nat)(nums:[30])(w:W):W:=(bh f l home lv st [285]).back w.holding.length
def fh(f:Wf)(bs:[100])(lv st:Nat)(w:W):W:=bs.foldl (λw l=>[1017]) w
def aY(ps:[23])(lv home st:Nat)(w:W):W:=ps.foldl (λw x=>[260]) w
def kI(own:[74])(lv home st:Nat)(w:W):W:=match own with
 |some x=>[105,.own]
 |none=>w
def pq(f:Wf)(k:Kind)(t:T)(home lv st:Nat)(w:W):W:=(bh f t.parts home lv st (w.put ⟨k,[406],lv,home,st⟩)).hold [471]
def wU(f:Wf)(t:T)(home lv st:Nat)(w:W):W:=bI f [835] w.met lv st [471] (bh f t.parts home lv st (w.block.put ⟨.for,[406],lv,w.met,st⟩))
def Gi(f:Wf)(t:T)(lv st:Nat)(w:W):W:=
 let w1:=aY t.names (lv+1) w.met st (kI t.name (lv+1) w.met st w.block)
 bI f (t.blocks.headD []) w.met (lv+1) st (List.range' w.places.length (w1.places.length - w.places.length)) w1
def nR(t:T)(lv st:Nat)(w:W):W:=if[632] then[35,[406],bK w.places w.holding [406],[503]] else w
def lD(f:Wf)(t:T)(home lv st:Nat)(w:W):W:=fh f t.blocks lv st (bh f t.parts home lv st (nR t lv st w))
def jA(f:Wf):Wf:=λt home lv st w=>match iq t.kind with
 |some k=>pq f k t home lv st [73]
 |none=>[4,t.kind,.iJ,wU f t home lv st [73],[4,t.kind,.qK,Gi f t lv st [73],lD f t home lv st [73]]]
def wN:Nat->Wf
 |0=>λ_ _ _ _ w=>w
 |n+1=>jA (wN n)
def making:[258]
 | .leta| .slider| .choice=>true
 |_=>false
def fX:[258]
 | .slider| .choice=>true
 |_=>false
def isParam:[258]
 | .param=>true
 |_=>false
def Rep(sel:[258])(Q P:[36]):Prop:=∃A p B,P=A++p::B/\[242]=true/\∃q∈Q++A,[1019]
def fj(ps:[36])(u:Us):Bool:=match u.bound with
 |none=>false
 |some k=>match ps[k]? with
  |none=>false
  |some p=>[1436]
def aQ(t:T)(lv:Nat):Nat:=if t.kind= .record/\twice t.names=true then 3 else if[1031] then 5 else match t.value with
 | .three v lo hi=>[1313]
 | .choice c l=>[59,t.kind= .bW/\l.length<=c,8]
 |_=>0
def FK(Q P:[36])(U:List Us)(V:List Vi)(k:Nat):Prop:=(k=1/\Rep making Q P)\/(k=2/\Rep isParam Q P)\/(k=6/\∃p∈P,[756]) \/(k=4/\∃u∈U,[304,Q++P])\/(0<k/\∃v∈V,[382]=k)
def inR(n:Nat)(U:List Us):Prop:=∀u∈U,[394,k<n]
theorem FW {sel:[258]} {Q A B:[36]}:Rep sel Q (A++B)↔Rep sel Q A\/Rep sel (Q++A) B:=by
 constructor
 ·rintro⟨X,p,Y,e,hs,q,hq,h⟩;rcases List.append_eq_append_iff.mp e with⟨Z,e1,e2⟩|⟨Z,e1,e2⟩
  ·subst e1;exact .inr ⟨Z,p,Y,e2,hs,q,[243],h⟩
  ·cases Z with
   |nil=>
    simp at e1 e2;subst e1;exact .inr ⟨[],p,Y,e2.symm,hs,q,[243],h⟩
   |cons z Z=>
    simp at e2;obtain⟨rfl,e2⟩:=e2;exact .inl ⟨X,p,Z,e1,hs,q,hq,h⟩
 ·rintro(⟨X,p,Y,e,hs,q,hq,h⟩|⟨X,p,Y,e,hs,q,hq,h⟩);rw[2,⟨X,p,Y++B,[344],hs,q,hq,h⟩,⟨A++X,p,Y,[344],hs,q,[243],h⟩]
theorem nj {ps B:[36]} {u:Us}(h:[394,k<ps.length]):fj (ps++B) u=fj ps u:=by
 unfold fj;cases e:u.bound with
  |none=>rfl
  |some k=>simp[List.getElem?_append_left (h k e)]
theorem RJ {Q A B:[36]} {U U':List Us} {V V':List Vi} {k:Nat}(h:inR (Q++A).length U):FK Q (A++B) (U++U') (V++V') k↔FK Q A U V k\/FK (Q++A) B U' V' k:=by
 have e:(∃u∈U++U',[304,Q++(A++B)])↔(∃u∈U,[304,Q++A])\/(∃u∈U',[304,Q++A++B]):=by
  rw[<-List.append_assoc];constructor
  ·rintro⟨u,hu,h1,h2⟩;rcases List.mem_append.mp hu with hu|hu
   ·rw[nj (h u hu)] at h2;exact .inl ⟨u,hu,h1,h2⟩
   ·exact[6,u,hu,h1,h2]
  ·rintro(⟨u,hu,h1,h2⟩|⟨u,hu,h1,h2⟩);rw[2,⟨u,[267,hu],h1,by rw[0,nj (h u hu),h2]⟩,⟨u,[268,hu],h1,h2⟩]
 have e2:(∃p∈A++B,[756])↔(∃p∈A,[756])\/(∃p∈B,[756]):=by simp only[List.mem_append,or_and_right,exists_or]
 have e3:(∃v∈V++V',[382]=k)↔(∃v∈V,[382]=k)\/(∃v∈V',[382]=k):=by simp only[List.mem_append,or_and_right,exists_or]
 unfold FK;rw[FW,FW,e,e2,e3];have key:∀ {a b c d e a1 a2 b1 b2 c1 c2 d1 d2 e1 e2:Prop},((a/\(a1\/a2))\/(b/\(b1\/b2))\/(c/\(c1\/c2))\/(d/\(d1\/d2))\/(e/\(e1\/e2)))↔[490,e1]\/[1441]:=by
  intros;constructor
  ·rintro(⟨a,b|b⟩|⟨a,b|b⟩|⟨a,b|b⟩|⟨a,b|b⟩|⟨a,b|b⟩)<;>simp[a,b]
  ·rintro((⟨a,b⟩|⟨a,b⟩|⟨a,b⟩|⟨a,b⟩|⟨a,b⟩)|(⟨a,b⟩|⟨a,b⟩|⟨a,b⟩|⟨a,b⟩|⟨a,b⟩))<;>simp[a,b]
 exact key
def tN(p:Pl):Bytes×Kind×Nat×Bool:=(p.name,p.kind,p.level,p.home==0)
def Cv(u:Us):Bytes×[284]×Bool×Nat:=(u.name,u.bound,u.isSet,u.level)
structure Rg(w w':W)(S:Pl->Prop)(hold:List Nat)(es:List Ev)(st:Nat)(P:List Pl)(U:List Us)(V:List Vi):Prop where
 places:w'.places=w.places++P
 uses:w'.uses=w.uses++U
 cE:w'.cE=w.cE++V
 holding:w'.holding=hold
 met:w.met<=w'.met
 iC:∀p∈P,p.home<w'.met/\(w.met<=p.home\/S p)
 binds:P.map tN=es.filterMap Ev.asBind
 wM:U.map Cv=es.filterMap Ev.asUse
 T6:∀p∈P,p.st=st
 stU:∀u∈U,u.st=st
 stV:∀v∈V,v.st=st
 inr:inR (w.places++P).length U
 faults:∀k,FK w.places P U V k↔k∈es.filterMap Ev.faultKind
def Piece(w w':W)(S:[189])(hold:[30])(es:[111])(st:Nat):Prop:=∃P U V,Rg w w' S hold es st P U V
theorem Piece.trans {w w1 w2:W} {S:[189]} {h1 h2:[30]} {e1 e2:[111]} (a:Piece w w1 S h1 e1 st)(b:Piece w1 w2 S h2 e2 st):Piece w w2 S h2 (e1++e2) st:=by
 obtain⟨P,U,V,a⟩:=a;obtain⟨P',U',V',b⟩:=b;refine[15,P++P',U++U',V++V'];have hm:=a.met;have DC:=b.met;refine⟨by rw[b.places,a.places];simp,by rw[b.uses,a.uses];simp,by rw[b.cE,a.cE];simp,b.holding,[2],?_,by simp[a.binds,b.binds],by simp[a.wM,b.wM],?_,?_,?_,?_,?_⟩
 ·rw[61]
  ·obtain⟨x,y⟩:=[616];rw[3,[2],y]
  ·obtain⟨x,y⟩:=b.iC p hp;rw[3,x,y.imp (λy=>[2]) id]
 ·rw[61];rw[2,a.T6 p hp,b.T6 p hp]
 ·rw[61];rw[2,a.stU p hp,b.stU p hp]
 ·rw[61];rw[2,a.stV p hp,b.stV p hp]
 ·intro u hu k hk;rcases List.mem_append.mp hu with hu|hu
  ·have:=a.inr u hu k hk;simp at this ⊢;omega
  ·have:=b.inr u hu k hk;rw[a.places] at this;simp at this ⊢;omega
 ·intro k;have:=b.faults k;rw[a.places] at this;rw[RJ a.inr,a.faults,this];simp
theorem Piece.mono {w w':W} {S S':[189]} {h:[30]}(a:[99,e])(hs:∀p,S p->S' p):Piece w w' S' h e st:=by
 obtain⟨P,U,V,a⟩:=a;rw[0,P,U,V,{a with iC:=λp hp=>⟨[616].1,[616].2.imp id (hs p)⟩}]
theorem Piece.congr {w w':W} {S:[189]} {h:[30]} {e':[111]}(a:[99,e]) (h1:e.filterMap Ev.asBind=e'.filterMap Ev.asBind)(h2:e.filterMap Ev.asUse=e'.filterMap Ev.asUse)(h3:∀k,k∈e.filterMap Ev.faultKind↔k∈e'.filterMap Ev.faultKind):[99,e']:=by
 obtain⟨P,U,V,a⟩:=a;rw[0,P,U,V,{a with binds:=h1▸a.binds,wM:=h2▸a.wM,faults:=λk=>(a.faults k).trans (h3 k)}]
theorem RK {Q:[36]} {k:Nat}:¬FK Q [] [] [] k:=by
 rintro(⟨_,A,p,B,e,_⟩|⟨_,A,p,B,e,_⟩|⟨_,p,hp,_⟩|⟨_,p,hp,_⟩|⟨_,p,hp,_⟩)
 ·simp at e
 ·simp at e
 ·cases hp
 ·cases hp
 ·cases hp
theorem Piece.refl {w:W} {S:[189]}:Piece w w S w.holding [] st:=⟨[],[],[],[4],[4],[4],rfl,[8],[4],rfl,rfl,[4],[4],[4],by intro u hu;simp at hu,λk=>⟨λh=>(RK h).elim,[4]⟩⟩
def cy(t:T)(lv:Nat):[111]:=if 0<aQ t lv then[.fault (aQ t lv)] else[]
theorem ir {w:W} {S:[189]} {t:T} {lv:Nat}:[96,[73],cy t lv]:=by
 refine⟨[],[],[[38,t]],[472],[472],rfl,rfl,[8],[4],?_,?_,[4],[4],[4],by intro u hu;simp at hu,?_⟩
 ·unfold cy;rw[18]
 ·unfold cy;rw[18]
 ·intro k;constructor
  ·rintro(⟨_,A,p,B,e,_⟩|⟨_,A,p,B,e,_⟩|⟨_,p,hp,_⟩|⟨_,p,hp,_⟩|⟨hk,v,hv,e⟩)
   ·simp at e
   ·simp at e
   ·cases hp
   ·cases hp
   ·simp at hv;subst hv;simp at e;unfold cy;rw[if_pos [2]];simp[Ev.faultKind,e]
  ·intro h;unfold cy at h;split at h
   ·simp[Ev.faultKind] at h;exact[189,[6,[2],_,[1096],h.symm]]
   ·simp at h
end
section
variable {ps:[36]} {w w':W} {S:[189]} {es:[111]} {st j lv home:Nat} {α:Type} {x:Bytes} {c:Bool}
def no:[189]:=λ_=>False
def w6(ps:[36])(k:Nat):Bound:=match ps[k]? with
 |some p=>⟨p.name,k,p.kind,p.level⟩
 |none=>⟨[],k,.leta,0⟩
def envOf(w:W):[327]:=[1153]
structure Inv(w:W):Prop where
 iC:∀p∈w.places,p.home<w.met
 hold:∀k∈w.holding,k<w.places.length
 pos:0<w.met
theorem zb {B:[36]} {k:Nat}(h:k<ps.length):w6 (ps++B) k=w6 ps k:=by
 unfold w6;rw[List.getElem?_append_left h]
theorem Ny {P:[36]}(i:[47])(hp:w'.places=w.places++P)(hh:w'.holding=w.holding):envOf w'=[50]:=by
 unfold envOf;rw[hp,hh];refine[381,i.hold k [537]]
theorem Piece.env(i:[47])(a:[1192]):envOf w'=[50]:=by
 obtain⟨P,U,V,a⟩:=a;exact Ny i a.places a.holding
theorem Piece.len {h:[30]}(a:[99,es]):w'.places.length=w.places.length+(es.filterMap Ev.asBind).length:=by
 obtain⟨P,U,V,a⟩:=a;rw[a.places,<-a.binds];simp
theorem Piece.yt {h:[30]}(a:[99,es]):w.met<=w'.met:=by
 obtain⟨P,U,V,a⟩:=a;exact a.met
theorem Piece.CJ {h:[30]}(a:[99,es]):w'.holding=h:=by
 obtain⟨P,U,V,a⟩:=a;exact a.holding
theorem Piece.inv {h:[30]}(i:[47])(a:[99,es])(hh:∀k∈h,k<w'.places.length):Inv w':=by
 obtain⟨P,U,V,a⟩:=a;have hm:=a.met;refine⟨[244],by rw[a.holding];exact hh,by rw[0,i.pos]⟩;rw[a.places] at hp;rcases List.mem_append.mp hp with hp|hp
 ·rw[0,i.iC p hp]
 ·exact[616].1
theorem Piece.KH(i:[47])(a:[1192]):Inv w':=a.inv i λk hk=>by
 have:=i.hold k hk;rw[a.len];omega
theorem JC {β:Type} {f:α->β} {p:β->Bool} {l:[34]}:(l.map f).find? p=(l.find? λx=>p (f x)).map f:=by induction l with
 |nil=>rfl
 |cons a l ih=>
  simp only[List.map_cons,List.find?_cons];cases p (f a)<;>simp[ih]
theorem Dh {p q:[447]} {l:[34]}(h:∀x∈l,p x=q x):l.find? p=l.find? q:=by induction l with
 |nil=>rfl
 |cons a l ih=>
  simp only[List.find?_cons];rw[h a [4],ih λx hx=>h x (by simp[hx])]
theorem xR(i:[47])(x:Bytes):bound x [50]=[487].map (w6 w.places):=by
 unfold bound envOf bK;rw[JC];congr 1;refine Dh λk hk=> ?_;have hl:[299]:=i.hold k [537];unfold isNm w6;rw[[1097]]
theorem Nh {k:Nat}:(w6 ps k).number=k:=by
 unfold w6;rw[18]
theorem Pc(i:[47])(x:Bytes):ref x [50]=[487]:=by
 unfold ref;rw[xR i];cases bK w.places w.holding x with
  |none=>rfl
  |some k=>simp[Nh]
theorem FH(i:[47]) {k:Nat}(h:[487]=some k):[299]:=i.hold k (by rw[33,[1098]])
theorem Iz(i:[47])(x:Bytes)(lv st:Nat)(b:Bool):unsettable x [50] lv= ! fj w.places ⟨x,[487],b,lv,st⟩:=by
 unfold unsettable fj;rw[xR i];cases e:bK w.places w.holding x with
  |none=>rfl
  |some k=>
   have hl:=FH i e;simp only[Option.map_some,w6,[1097]];cases (w.places[k].kind==Kind.slider||w.places[k].kind==Kind.choice||w.places[k].kind==Kind.own)<;>simp[bne]
theorem uA {sel:[258]} {Q:[36]} {p:Pl}:Rep sel Q [p]↔[242]=true/\∃q∈Q,[1019]:=by
 constructor
 ·rintro⟨A,p',B,e,hs,q,hq,h⟩;have:A=[]/\p'=p/\B=[]:=by cases A with
   |nil=>
    simp at e;rw[0,rfl,e.1.symm,e.2]
   |cons a A=>simp at e
  obtain⟨rfl,rfl,rfl⟩:=this;rw[0,hs,q,[243],h]
 ·rintro⟨hs,q,hq,h⟩;exact[2,[],p,[],hs,q,[243],h]
theorem gW {k:Nat}:k∈[269,faultIf c j]↔c=true/\k=j:=by
 unfold faultIf;cases c<;>simp[Ev.faultKind]
theorem aM:[141,faultIf c j]=[]:=by
 unfold faultIf;cases c<;>simp[Ev.asBind]
theorem cz:[229,faultIf c j]=[]:=by
 unfold faultIf;cases c<;>simp[Ev.asUse]
def kQ(w:W)(home:Nat)(here:[23]):Prop:=∀x,x∈here↔∃q∈w.places,[1305]
theorem sL {p:Pl}(hm:p.home<w.met)(hs:S p) (hb:es.filterMap Ev.asBind=[tN p])(hu:es.filterMap Ev.asUse=[]) (hf:∀k,k∈[675]↔(k=1/\Rep making w.places [p])\/(k=2/\Rep isParam w.places [p])\/(k=6/\fX p.kind=true/\p.home≠0)):Piece w (w.put p) S w.holding es p.st:=by
 refine⟨[p],[],[],rfl,[473],[473],rfl,[8],?_,by simp[hb],by simp[hu],[4],[4],[4],by intro u hu;simp at hu,?_⟩
 ·intro q hq;simp at hq;subst hq;rw[3,hm,.inr hs]
 ·intro k;rw[hf];unfold FK;simp
theorem Ef {k:Kind} {here:[23]}(hk:making k=true)(hh:[611])(hm:[107])(hs:S [103,k]):[96,[105,k],[.bind x k lv (home==0)]++[1165]++[1315]]:=by
 refine[1446]
 ·rw[List.filterMap_append,List.filterMap_append,aM,aM];rfl
 ·rw[List.filterMap_append,List.filterMap_append,cz,cz];rfl
 ·intro j;have hp:[8,isParam k]:=by cases k<;>simp_all [making,isParam]
  have hr:=hh x;simp only[List.filterMap_append,List.mem_append,gW,uA,hk,hp];simp[Ev.faultKind,hr];constructor
  ·rintro(⟨a,b⟩|⟨⟨a,b⟩,c⟩);rw[2,[31,b,a],.inr ⟨c,a,b⟩]
  ·rintro(⟨a,b⟩|⟨c,a,b⟩);rw[2,[31,b,a],.inr ⟨⟨a,b⟩,c⟩]
theorem tL {k:Kind}(hk:[8,making k])(hp:[8,isParam k])(h0:0<home)(hm:[107])(hs:S [103,k]):Piece w [105,k] S w.holding [.bind x k lv false] st:=by
 have ha:[8,fX k]:=by cases k<;>simp_all [making,fX]
 refine[1446]
 ·have:[24,home,0]:=by rw[0]
  simp[Ev.asBind,tN,this]
 ·simp[Ev.asUse]
 ·intro j;simp[Ev.faultKind,uA,hk,hp,ha]
theorem yD {b:Bool}(i:[47]):[96,[35,x,[487],b],[.use x (ref x [50]) b lv]++faultIf (b&&unsettable x [50] lv) 4]:=by
 refine⟨[],[⟨x,[487],b,lv,st⟩],[],[474],rfl,[474],rfl,[8],[4],?_,?_,[4],[4],[4],?_,?_⟩
 ·rw[List.filterMap_append,aM];rfl
 ·rw[List.filterMap_append,cz,Pc i];rfl
 ·intro u hu k hk;simp at hu;subst hu;simp;exact FH i hk
 ·intro k;simp only[List.filterMap_append,List.mem_append,gW,Iz i x lv st b];unfold FK;have r1:¬Rep making w.places []:=by
   rintro⟨A,p,B,e,_⟩;simp at e
  have r2:¬Rep isParam w.places []:=by
   rintro⟨A,p,B,e,_⟩;simp at e
  simp[Ev.faultKind,r1,r2];constructor
  ·rintro⟨a,b,c⟩;rw[3,⟨b,c⟩,a]
  ·rintro⟨⟨b,c⟩,a⟩;rw[0,a,b,c]
theorem Piece.block {w w':W} {h:[30]} {es:[111]} {st:Nat}(a:Piece w.block w' (λq=>q.home=w.met) h es st):Piece w w' no h es st:=by
 obtain⟨P,U,V,a⟩:=a;refine⟨P,U,V,{a with met:=by have:=a.met;simp[W.block] at this;omega,iC:=λp hp=>⟨[616].1,.inl ?_⟩}⟩;rcases(a.iC p hp).2 with h|h
 ·simp[W.block] at h;omega
 ·omega
theorem su(i:[47]):Inv w.block:=⟨λp hp=>by have:=i.iC p hp;simp[W.block];omega,i.hold,[307]⟩
end
section
variable {lv home st:Nat}
theorem E4 {own:[74]} {ps:[23]}:[73,headEvs own ps lv,[716]+ps.length]:=by
 unfold headEvs;rw[List.filterMap_append,List.filterMap_append,aM];have:[73,ps.map λx=>[764],ps.length]:=by induction ps with
  |nil=>rfl
  |cons a l ih=>simpa [Ev.asBind] using ih
 rw[List.append_nil,List.length_append,this];cases own<;>simp[Ev.asBind]
mutual
theorem iS:∀(e:Expr) (env:[327]) (n lv:Nat),[73,evsE e env n lv,bindsE e]
 | .num _,_,_,_=>rfl
 | .quoted _,_,_,_=>rfl
 | .truth _,_,_,_=>rfl
 | .nothing,_,_,_=>rfl
 | .name x,_,_,_=>rfl
 | .list l,env,n,lv=>Np l env n lv
 | .record l,env,n,lv=>by
  rw[evsE,List.filterMap_append,aM];exact VA l env n lv
 | .minus e,env,n,lv=>iS e env n lv
 | .not e,env,n,lv=>iS e env n lv
 | .bin _ x y,env,n,lv=>by
  rw[evsE,List.filterMap_append,List.length_append,iS x,iS y];rfl
 | .pick c x y,env,n,lv=>by
  rw[evsE,List.filterMap_append,List.length_append,List.filterMap_append,List.length_append,iS c,iS x,iS y];rfl
 | .call f l,env,n,lv=>by
  rw[evsE,List.filterMap_append,List.length_append,iS f,Np l];rfl
 | .index l i,env,n,lv=>by
  rw[evsE,List.filterMap_append,List.length_append,iS l,iS i];rfl
 | .field r _,env,n,lv=>iS r env n lv
 | .prim _ l,env,n,lv=>Np l env n lv
 | .fn own ps s,env,n,lv=>by
  rw[evsE,List.filterMap_append,List.length_append,Av s,E4];rfl
theorem Np:∀(l:Exprs) (env:[327]) (n lv:Nat),[73,evsL l env n lv,bindsL l]
 | .nil,_,_,_=>rfl
 | .cons e l,env,n,lv=>by
  rw[evsL,List.filterMap_append,List.length_append,iS e,Np l];rfl
theorem VA:∀(l:Fields) (env:[327]) (n lv:Nat),[73,evsF l env n lv,bindsF l]
 | .nil,_,_,_=>rfl
 | .cons _ e l,env,n,lv=>by
  rw[evsF,List.filterMap_append,List.length_append,iS e,VA l];rfl
theorem Nq:∀(s:Stmt) (env:[327]) (n lv:Nat) (top:Bool) (here:[23]),[73,evsS s env n lv top here,bindsS s]
 | .leta x e,env,n,lv,top,here=>by
  rw[103];rw[List.filterMap_append,aM,List.nil_append,iS e,bindsS,Nat.add_comm]
 | .seta x e,env,n,lv,top,here=>by
  rw[evsS,List.cons_append,List.filterMap_cons];simp only[Ev.asBind];rw[List.filterMap_append,aM,List.nil_append,iS e,bindsS]
 | .way w e,env,n,lv,top,here=>by
  rw[evsS,List.filterMap_append,aM];exact iS e env n lv
 | .iff c x,env,n,lv,top,here=>by
  rw[evsS,List.filterMap_append,List.length_append,iS c,Av x];rfl
 | .iffElse c x y,env,n,lv,top,here=>by
  rw[evsS,List.filterMap_append,List.length_append,List.filterMap_append,List.length_append,iS c,Av x,Av y];rfl
 | .while_ c x,env,n,lv,top,here=>by
  rw[evsS,List.filterMap_append,List.length_append,iS c,Av x];rfl
 | .for x e l,env,n,lv,top,here=>by
  rw[103];rw[List.filterMap_append,List.length_append,iS e,Av l,bindsS];omega
 | .slider x v lo hi,env,n,lv,top,here=>by
  rw[evsS,List.cons_append,List.cons_append,List.filterMap_cons];simp only[Ev.asBind,List.length_cons];rw[62]
 | .choice x v l,env,n,lv,top,here=>by
  rw[evsS,List.cons_append,List.cons_append,List.filterMap_cons];simp only[Ev.asBind,List.length_cons];rw[62]
theorem Av:[493,[6,[1390].flatten.filterMap Ev.asBind,bindsB l]]
 | .nil,_,_,_,_,_=>rfl
 | .cons s l,env,n,lv,top,here=>by
  rw[evsB,List.flatten_cons,List.filterMap_append,List.length_append,Nq s,Av l];rfl
end
def j4(ps:[36])(home:Nat)(x:Bytes):Bool:=ps.any λq=>isParam q.kind&&q.home==home&&q.name==x
theorem zQ(h0:0<home):[296,([107])->[146,[794],ps.map (λx=>[764])++faultIf (twice ps||ps.any (j4 w.places home)) 2]]:=by
 intro ps;induction ps with
  |nil=>
   intro w _;exact Piece.refl
  |cons x r ih=>
   intro w hm;have a:[146,[260],[.bind x .param lv false]++faultIf (j4 w.places home x) 2]:=by
    refine sL (S:=[519]) (p:=[576]) hm rfl ?_ ?_ ?_
    ·rw[List.filterMap_append,aM];have:[24,home,0]:=by rw[0]
     simp[Ev.asBind,tN,this]
    ·rw[List.filterMap_append,cz];rfl
    ·intro j;rw[List.filterMap_append,List.mem_append,gW,uA,uA];simp[Ev.faultKind,making,isParam,fX,j4];constructor
     ·rintro⟨⟨q,hq,⟨b,c⟩,d⟩,e⟩;exact⟨e,q,hq,b,c,d⟩
     ·rintro⟨e,q,hq,b,c,d⟩;rw[3,⟨q,hq,⟨b,c⟩,d⟩,e]
   have b:=ih [260] hm;refine(a.trans b).congr ?_ ?_ ?_
   ·simp only[List.filterMap_append,aM,List.map_cons];simp[Ev.asBind]
   ·have nu:∀l:[23],[229,l.map λx=>[764]]=[]:=by
     intro l;induction l with
      |nil=>rfl
      |cons z l ih=>simpa only[List.map_cons,List.filterMap_cons,Ev.asUse] using ih
    simp only[List.filterMap_append,cz,nu];rfl
   ·intro k;have e:∀y,j4 [260].places home y=(j4 w.places home y||x==y):=by
     intro y;simp[j4,W.put,isParam]
    have e2:(r.any (j4 [260].places home))=(r.any (j4 w.places home)||r.contains x):=by
     rw[[11,j4 [260].places home,λy=>j4 w.places home y||x==y,funext e]];generalize j4 w.places home=g;clear a b e ih hm;induction r with
      |nil=>rfl
      |cons z r ih=>
       simp only[List.any_cons,List.contains_cons,ih];cases g z<;>cases (x==z)<;>cases r.any g<;>cases r.contains x<;>rfl
    have nb:∀l:[23],[269,l.map λx=>[764]]=[]:=by
     intro l;induction l with
      |nil=>rfl
      |cons z l ih=>simpa [Ev.faultKind] using ih
    simp only[List.filterMap_append,List.mem_append,gW,nb,e2];simp only[twice,List.any_cons];cases j4 w.places home x<;>cases twice r<;>cases r.any (j4 w.places home)<;>cases r.contains x<;>simp[Ev.faultKind]
theorem xA:[296,[794].places=w.places++ps.map λx=>([576]:Pl)]:=by
 intro ps;induction ps with
  |nil=>
   intro w;simp[aY]
  |cons x r ih=>
   intro w;have:=ih [260];simp only[aY,List.foldl_cons] at this ⊢;rw[this];simp[W.put]
theorem u1:∀(ps:[23]) (A:[36]),(List.range' A.length ps.length).reverse.map (w6 (A++ps.map λx=>([576]:Pl)))=paramsFrom lv A.length ps:=by
 intro ps;induction ps with
  |nil=>
   intro A;rfl
  |cons x r ih=>
   intro A;have:=ih (A++[[576]]);simp only[List.length_append,List.length_cons,List.length_nil,List.append_assoc,List.cons_append,List.nil_append] at this;simp only[List.length_cons,List.range'_succ,List.reverse_cons,List.map_append,List.map_cons,List.map_nil,paramsFrom];rw[this];congr 1;simp[w6]
end
section
variable {w w':W} {S:[189]} {home st n lv:Nat} {ns here:[23]} {ps:[24]} {s:Stmt} {l:Stmts}
def gO(k:Kd):Prop:=iq k=none/\k≠.iJ/\k≠.qK/\k≠.name/\k≠.dy
theorem iP {v:Vi}(i:[47]):Inv (w.lG v):=⟨i.iC,i.hold,i.pos⟩
theorem fo {w1:W} {g:W->W} {E1:[111]} {F2:[752]} {c:Nat}(i:[47])(hm:[107])(a:Piece w w1 S w.holding E1 st)(hc:[1186]) (b:∀w,[132,[96,g w,[1166]]]):[96,g w1,E1++[1242]]:=by
 have b':=b w1 (a.KH i) [270,a.yt];rw[a.env i,a.len,hc,a.CJ] at b';exact a.trans b'
theorem MF {t:T}(hk:gO t.kind)(hb:t.blocks=[]):[647]=[146,[73]]:=by
 obtain⟨h1,h2,h3,h4,h5⟩:=hk;show[797]=_;unfold jA;rw[h1];simp only[[193],[464]];unfold lD nR;rw[if_neg (by rintro(h|h);exact h4 h;exact h5 h),hb];rfl
theorem gF {t:T}(hk:gO t.kind)(hb:t.blocks=[])(i:[47])(hm:[107]) {F:[752]} (hp:∀w,[132,[96,[933],[936]]]):[96,[647],cy t lv++[936]]:=by
 rw[MF hk hb];have:=hp [73] (iP i) hm;exact(ir (S:=S) (t:=t) (lv:=lv) (st:=st) (w:=w)).trans this
theorem dJ {k:Kd} {p:[24]} {bs:[100]} {nm:[74]} {v:TV}(h:(eS k p bs nm ns v).depth<=n):∃m,n=m+1/\bX p bs<=m:=by
 have:(eS k p bs nm ns v).depth=1+bX p bs:=rfl;rw[0,n -1,[2],[2]]
theorem Lw(o:Op):gO (Fv o):=[1065]
theorem Eg(o:Prim):gO (A4 o):=[1065]
theorem Ic(o:Way):gO (KO o):=[1065]
theorem Pr(o:Op):cy (eS (Fv o) (parts:=ps)) lv=[]:=[875]
theorem Ii(o:Prim):cy (eS (A4 o) (parts:=ps)) lv=[]:=[875]
theorem LW(o:Way):cy (eS (KO o) (parts:=ps)) lv=faultIf (o== .give&&lv==0) 5:=by
 cases o<;>try rfl
 cases lv with
  |zero=>rfl
  |succ n=>rfl
theorem B4:cy [133,ps,ns] lv=faultIf (twice ns) 3:=by cases e:twice ns<;>simp[cy,aQ,eS,T.kind,T.names,T.value,e,faultIf]
def S6(s:Stmt)(n:Nat):[30]:=if(makes s).isSome then[n] else[]
def Ux(w w':W)(s:Stmt)(home lv st:Nat)(here:[23]):Prop:=Piece w w' [1388] (w.holding++[937]) [394] st /\∀x k,([980])->[2,w'.places,w.places.length,[103,k]]
def jF(s:Stmt)(here:[23]):[23]:=match makes s with
 |some (x,_)=>x::here
 |none=>here
theorem qY {x:Bytes} {k:Kind}(h:[980]):making k=true:=by cases s<;>simp[makes] at h<;>obtain⟨-,rfl⟩:=h<;>rfl
theorem Bm(h:[92,makes s]):0<bindsS s:=by cases s<;>simp[makes] at h<;>simp[bindsS]<;>omega
theorem rW(i:[47])(a:[802]):Inv w':=by
 refine a.1.inv i λk hk=> ?_;have hl:=a.1.len;rw[Nq] at hl;rcases List.mem_append.mp hk with hk|hk
 ·rw[0,i.hold k hk]
 ·unfold S6 at hk;split at hk
  ·rename_i h;have:=Bm h;simp at hk;omega
  ·simp at hk
theorem xM(i:[47])(a:[802]):envOf w'=behind s [50] w.places.length lv:=by
 have hh:=a.1.CJ;obtain⟨⟨P,U,V,b⟩,c⟩:=a;unfold envOf behind;rw[hh,List.reverse_append,List.map_append];have e:w.holding.reverse.map (w6 w'.places)=[1153]:=by
  rw[b.places];exact[381,i.hold k [537]]
 rw[e];unfold S6;cases hm:makes s with
  |none=>simp
  |some y=>
   obtain⟨x,k⟩:=y;have:=c x k hm;simp[w6,this]
theorem uM(i:[47])(hm:[107])(hh:[611])(a:[802]):kQ w' home (jF s here):=by
 intro x;have a0:=a;obtain⟨⟨P,U,V,b⟩,c⟩:=a;have hp:=b.places;constructor
 ·intro hx;have old:x∈here->∃q∈w'.places,[1305]:=by
   intro hx;obtain⟨q,hq,h⟩:=(hh x).mp hx;rw[0,q,(by rw[hp];exact[267,hq]),h]
  unfold jF at hx;cases DD:makes s with
   |none=>
    rw[DD] at hx;exact old hx
   |some y=>
    obtain⟨z,k⟩:=y;rw[DD] at hx;rcases List.mem_cons.mp hx with rfl|hx
    ·have:=c _ k DD;exact[3,_,[1099],qY DD,rfl]
    ·exact old hx
 ·rintro⟨q,hq,hk,he,hn⟩;rw[hp] at hq;rcases List.mem_append.mp hq with hq|hq
  ·have:=(hh x).mpr ⟨q,hq,hk,he,hn⟩;unfold jF;rw[14,[19,this],this]
  ·rcases(b.iC q hq).2 with h|⟨-,h⟩
   ·omega
   ·unfold jF;rw[h,<-hn];exact List.mem_cons_self ..
def Vp(n:Nat)(l:Stmts):Prop:=∀(home lv st:Nat) (here:[23]) (w:W),([47])->([107])->([611])->∃h,Piece w [166,iE l] [519] (w.holding++h) (evsB l [50] w.places.length lv (home==0) here).flatten st/\∀k∈h,k<[166,iE l].places.length
theorem va(b:Vp n l) {nums:[30]}(i:[47])(hm:[107])(h0:0<home)(hh:kQ w home [])(hn:∀k∈nums,[299]):Piece w (bI (wN n) (iE l) home lv st nums w) [519] w.holding [502,envOf [285]] st:=by
 have i':Inv [285]:=⟨i.iC,λk hk=>by rcases List.mem_append.mp hk with hk|hk;rw[2,i.hold k hk,hn k hk],i.pos⟩;obtain⟨h,p, -⟩:=b home lv st [] [285] i' hm hh;have e0:[24,home,0]:=by rw[0]
 rw[e0] at p;obtain⟨P,U,V,q⟩:=p;refine[1487];show[433,bh (wN n) (iE l) home lv st [285]]=w.holding;rw[q.holding];simp[W.hold]
theorem DA(i:[47]):kQ w w.met []:=by
 rw[104];rintro⟨q,hq, -,he, -⟩;rw[0,i.iC q hq]
theorem lJ(b:Vp n l)(i:[47]):Piece w [131,wN n,iE l] no w.holding [502,[50]] st:=by
 have:=va b (home:=w.met) (lv:=lv) (st:=st) (nums:=[]) (su i) [307] i.pos (DA i) [4];have e:envOf (w.block.hold [])=[50]:=by simp[envOf,W.block,W.hold]
 rw[e] at this;exact this.block
end
section
variable {n home lv st:Nat} {w:W}
abbrev EOk(n:Nat)(e:Expr):Prop:=∀(home lv st:Nat) (w:W),[132,[72,wN n (cO e) home lv st w,evsE e [50] w.places.length lv]]
abbrev LOk(n:Nat)(l:Exprs):Prop:=∀(home lv st:Nat) (w:W),[132,[72,[166,xu l],evsL l [50] w.places.length lv]]
abbrev FOk(n:Nat)(l:Fields):Prop:=∀(home lv st:Nat) (w:W),[132,[72,[166,HD l],evsF l [50] w.places.length lv]]
theorem qS {k:Kd}(hk:gO k) {v:TV}(i:[47])(hm:[107])(hs:cy [938] lv=[]):[152,[938],[]]:=by
 have:=gF (t:=[938]) (n:=n) (lv:=lv) (st:=st) hk rfl i hm (F:=λ_ _=>[]) (S:=no) [836];rw[hs] at this;rw[13]
theorem NR {x:Bytes}(i:[47]):[152,[726],[.use x (ref x [50]) false lv]]:=by
 have a:=(ir (w:=w) (S:=no) (t:=[726]) (lv:=lv) (st:=st));have b:=yD (S:=no) (x:=x) (b:=false) (lv:=lv) (st:=st) (iP (v:=[38,[726]]) i);exact a.trans b
theorem three {w1:W} {g:W->W} {h:W->W} {E1:[111]} {F2 F3:[752]} {c c2:Nat}(i:[47])(hm:[107])(a:Piece w w1 no w.holding E1 st)(hc:[1186]) (b:∀w,[132,[72,g w,[1166]]])(hc2:∀env n,[73,F2 env n,c2]) (d:∀w,[132,[72,h w,F3 [50] w.places.length]]):[72,h (g w1),E1++[1242]++F3 [50] (w.places.length+c+c2)]:=by
 have x:=fo i hm a hc b;have y:=fo i hm x (c:=c+c2) (by rw[List.filterMap_append,List.length_append,hc,hc2]) d;rw[<-Nat.add_assoc] at y;exact y
theorem HY {own:[74]}(h0:0<home)(hm:[107]):[146,[795],match own with
 |some f=>[Ev.bind f .own lv false]
 |none=>[]]:=by cases own with
 |none=>exact Piece.refl
 |some f=>exact tL (k:= .own) rfl rfl h0 hm rfl
def vZ(own:[74])(lv home st:Nat):[36]:=match own with
 |some f=>[⟨.own,f,lv,home,st⟩]
 |none=>[]
theorem v7 {own:[74]}:[795].places=w.places++vZ own lv home st:=by cases own<;>simp[kI,vZ,W.put]
theorem X1 {n:Nat} {own:[74]} {ps:[23]} {s:Stmts}(b:Vp n s) {home lv st:Nat} {w:W}(i:[47]):[72,wN (n+1) [479] home lv st w,evsE (.fn own ps s) [50] w.places.length lv]:=by
 show Piece w (Gi (wN n) [479] lv st (w.lG [38,[479]])) _ _ _ _;have a:=(ir (w:=w) (S:=no) (t:=[479]) (lv:=lv) (st:=st));have i1:=iP (v:=[38,[479]]) i;have he:cy [479] lv=[]:=rfl;rw[he] at a;refine a.trans (e1:=[]) ?_;generalize N':w.lG ⟨cO (.fn own ps s),lv,st⟩=w0 at i1 ⊢;have e1:envOf w0=[50]:=by
  subst N';rfl
 have e2:w0.places=w.places:=by
  subst N';rfl
 have e3:w0.holding=w.holding:=by
  subst N';rfl
 rw[<-e1,<-e2,<-e3];clear a he N' e1 e2 e3 i w;have ib:=su i1;have hm:w0.met<w0.block.met:=[307];have p1:=HY (own:=own) (lv:=lv+1) (st:=st) i1.pos hm;have Kl:w0.met<[399].met:=by cases own<;>exact hm
 have p2:=zQ (lv:=lv+1) (st:=st) i1.pos ps [399] Kl;rw[p1.CJ] at p2;have BG:=p1.trans p2;have pl:[283].places=w0.places++vZ own (lv+1) w0.met st++ps.map λx=>(⟨.param,x,lv+1,w0.met,st⟩:Pl):=by
  rw[xA,v7];rfl
 have hpar:∀x,[8,j4 [399].places w0.met x]:=by
  intro x;rw[v7];unfold j4;rw[List.any_eq_false];intro q hq hc;simp at hc;rcases List.mem_append.mp hq with hq|hq
  ·rw[0,i1.iC q hq]
  ·cases own with
   |none=>cases hq
   |some f=>
    simp[vZ] at hq;subst hq;simp[isParam] at hc
 have Sb:(twice ps||ps.any (j4 [399].places w0.met))=twice ps:=by
  rw[[11,j4 [399].places w0.met,[345],funext hpar]];simp
 rw[Sb,<-List.append_assoc] at BG;have i2:=BG.KH ib;have hl:=BG.len;have hcnt:[73,[987],[716]+ps.length]:=E4;change _=w0.places.length+[141,[987]].length at hl;rw[hcnt] at hl;have hh:kQ [283] w0.met []:=by
  rw[104];rintro⟨q,hq,hk,he, -⟩;rw[pl] at hq;rcases List.mem_append.mp hq with hq|hq
  ·rcases List.mem_append.mp hq with hq|hq
   ·rw[0,i1.iC q hq]
   ·cases own with
    |none=>cases hq
    |some f=>
     simp[vZ] at hq;subst hq;simp[making] at hk
  ·obtain⟨y, -,rfl⟩:=List.mem_map.mp hq;simp[making] at hk
 have hm3:=[270,BG.yt];have p3:=va b (home:=w0.met) (lv:=lv+1) (st:=st) (nums:=[1317]) i2 hm3 i1.pos hh (by intro k hk;rw[List.mem_range'_1] at hk;omega);have env:envOf ([283].hold [1317])=[1414]:=by
  unfold envOf inFunction;show([283].holding++_).reverse.map (w6 [283].places)=_;rw[BG.CJ,List.reverse_append,List.map_append];have e1:w0.block.holding.reverse.map (w6 [283].places)=w0.holding.reverse.map (w6 w0.places):=by
   rw[pl,List.append_assoc];exact[381,i1.hold k (by simpa [W.block] using hk)]
  rw[e1,hl];congr 1;rw[pl];cases own with
   |none=>
    have:=u1 (lv:=lv+1) (home:=w0.met) (st:=st) ps w0.places;simpa [vZ] using this
   |some f=>
    have:=u1 (lv:=lv+1) (home:=w0.met) (st:=st) ps (w0.places++[⟨.own,f,lv+1,w0.met,st⟩]);simp only[List.length_append,List.length_cons,List.length_nil] at this;simp only[vZ,Option.isSome_some,if_true,Nat.zero_add,List.length_cons,List.length_nil];rw[[27,w0.places.length+(1+ps.length) -w0.places.length=ps.length+1],List.range'_succ,List.reverse_cons,List.map_append,this];simp[w6]
 rw[env,BG.CJ] at p3;have p:=(BG.trans p3).block;have hl':[283].places.length=w0.places.length+[716]+ps.length:=[2];show Piece w0 _ no w0.holding ([987]++(evsB s [1414] (w0.places.length+[716]+ps.length) (lv+1) false []).flatten) st;rw[<-hl'];exact p
end
section
variable {l:[24]} {n home lv st:Nat} {w:W} {s:Stmt} {here:[23]}
theorem bE {t:T}(h:aX (t::l)<=n):t.depth<=n/\aX l<=n:=by
 have:aX (t::l)=max t.depth (aX l):=rfl;omega
theorem zg {p:[24]}(h:bX p [l]<=n):aX p<=n/\aX l<=n:=by
 have:bX p [l]=max (aX p) (aX l):=rfl;omega
theorem Rw {p k:[24]}(h:bX p [l,k]<=n):aX p<=n/\aX l<=n/\aX k<=n:=by
 have:bX p [l,k]=max (max (aX p) (aX l)) (aX k):=rfl;omega
theorem toS {w':W}(hs:makes s=none)(p:Piece w w' no w.holding [394] st):[802]:=by
 rw[7,?_,(λx k h=>by rw[hs] at h;cases h)];have:[937]=[]:=by
  unfold S6;rw[hs];rfl
 rw[this,List.append_nil];exact p.mono λ_ h=>h.elim
theorem sV {t:T}(hk:gO t.kind):[647]=fh (wN n) t.blocks lv st [146,[73]]:=by
 obtain⟨h1,h2,h3,h4,h5⟩:=hk;show[797]=_;unfold jA;rw[h1];simp only[[193],[464]];unfold lD nR;rw[if_neg (by rintro(h|h);exact h4 h;exact h5 h)]
theorem zm {t:T} {x:Bytes} {k:Kind}(DD:[980])(hk:iq t.kind=some k)(x6:t.name=some x)(i:[47])(hm:[107])(hh:[611]) {F:[752]}(hp:∀w,[132,[72,[933],[936]]]) (hb:[141,[998]]=[141,[394]].tail) (xm:[141,[394]].head? =some (x,k,lv,home==0)) (hu:[229,[998]]=[229,[394]]) (hf:∀j,j∈[269,[394]]↔j∈[269,cy t lv++([1165]++[1315])++[998]]):Ux w [647] s home lv st here:=by
 have e:[647]=pq (wN n) k t home lv st [73]:=by
  show[797]=_;unfold jA;rw[hk]
 rw[e];unfold pq;rw[x6,[11,[142].getD [],x,rfl]];let S:[189]:=[1388];have a:=(ir (w:=w) (S:=S) (t:=t) (lv:=lv) (st:=st));have i1:=iP (v:=[38,t]) i;have b:=Ef (w:=[73]) (S:=S) (k:=k) (x:=x) (lv:=lv) (home:=home) (st:=st) (here:=here) (qY DD) hh hm [18,DD];have ab:=a.trans b;have i2:=ab.KH i;have c:=hp _ i2 [270,ab.yt];have hl:=b.len;rw[List.filterMap_append,List.filterMap_append,aM,aM] at hl;simp only[Ev.asBind,List.filterMap_cons,List.filterMap_nil,List.append_nil,List.length_cons,List.length_nil,Nat.zero_add] at hl;rw[ab.env i,hl] at c;have abc:=ab.trans (c.mono (S':=S) λ_ h=>h.elim);have Vw:=abc.congr (e':=[394]) (by rw[List.filterMap_append,List.filterMap_append,List.filterMap_append,List.filterMap_append,aM,aM,[1202],hb];(have:[141,cy t lv]=[]:=by unfold cy;rw[18]);rw[this];cases hx:(evsS s (envOf w) w.places.length lv (home==0) here).filterMap Ev.asBind with
  |nil=>rw[hx] at xm;cases xm
  |cons y r=>rw[hx] at xm;cases xm;rfl) (by rw[List.filterMap_append,List.filterMap_append,List.filterMap_append,List.filterMap_append,cz,cz,[1202],hu];(have:[229,cy t lv]=[]:=by unfold cy;rw[18]);rw[this];rfl) (by intro j;rw[hf];simp only[List.filterMap_append,List.mem_append];(have:j∈[Ev.bind x k lv (home==0)].filterMap Ev.faultKind↔False:=by simp[Ev.faultKind]);rw[this];simp only[false_or];exact Iff.rfl);have CJ:=Vw.CJ;obtain⟨P,U,V,q⟩:=Vw;refine[30,[1487]]
 ·show(bh _ _ _ _ _ _).holding++[w.places.length]=_;rw[CJ];unfold S6;rw[DD];rfl
 ·intro x' k' h;rw[DD] at h;cases h;obtain⟨P',U',V',q'⟩:=c;show(bh _ _ _ _ _ _).places[_]? =_;rw[q'.places];simp[W.put,W.lG]
theorem RZ {n:Nat} {x:Bytes} {e:Expr} {l:Stmts}(he:EOk n e)(hb:Vp n l) {home lv st:Nat} {here:[23]} {w:W}(i:[47])(hm:[107]):[72,wN (n+1) (lq [317]) home lv st w,evsS [317] [50] w.places.length lv (home==0) here]:=by
 show Piece w (wU (wN n) (lq [317]) home lv st (w.lG [38,lq [317]])) _ _ _ _;have a:=(ir (w:=w) (S:=no) (t:=lq [317]) (lv:=lv) (st:=st));have i1:=iP (v:=[38,lq [317]]) i;have he0:cy (lq [317]) lv=[]:=rfl;rw[he0] at a;refine a.trans (e1:=[]) ?_;have Sr:home<(w.lG [38,lq [317]]).met:=hm;generalize N':w.lG ⟨lq (.for x e l),lv,st⟩=w0 at i1 Sr ⊢;have e1:envOf w0=[50]:=by
  subst N';rfl
 have e2:w0.places=w.places:=by
  subst N';rfl
 have e3:w0.holding=w.holding:=by
  subst N';rfl
 rw[<-e1,<-e2,<-e3];clear a he0 N' e1 e2 e3 i hm w;have ib:=su i1;have hmb:w0.met<w0.block.met:=[307];have p1:=tL (w:=w0.block) (S:=λq=>q.home=w0.met) (k:= .for) (x:=x) (lv:=lv) (home:=w0.met) (st:=st) rfl rfl i1.pos hmb rfl;have i2:=p1.KH ib;have p2:=he home lv st _ i2 (by rw[0,p1.yt]);have l1:=p1.len;simp only[Ev.asBind,List.filterMap_cons,List.filterMap_nil,List.length_cons,List.length_nil,Nat.zero_add] at l1;rw[p1.env ib,l1] at p2;have p2':=p2.mono (S':=λq=>q.home=w0.met) λ_ h=>h.elim;have BG:=p1.trans p2';have i3:=BG.KH ib;have l2:=BG.len;rw[List.filterMap_append,List.length_append,iS] at l2;simp only[Ev.asBind,List.filterMap_cons,List.filterMap_nil,List.length_cons,List.length_nil,Nat.zero_add] at l2;have hh:kQ [798] w0.met []:=by
  intro y;simp only[List.not_mem_nil,false_iff];rintro⟨q,hq,hk,hhm, -⟩;obtain⟨P,U,V,r⟩:=p2;rw[r.places] at hq;rcases List.mem_append.mp hq with hq|hq
  ·rcases List.mem_append.mp hq with hq|hq
   ·rw[0,i1.iC q hq]
   ·simp at hq;subst hq;simp[making] at hk
  ·rcases(r.iC q hq).2 with h|h
   ·have:[1079].met=w0.met+1:=rfl;omega
   ·exact h
 have p3:=va hb (home:=w0.met) (lv:=lv) (st:=st) (nums:=[w0.places.length]) i3 (Nat.lt_of_lt_of_le hmb BG.yt) i1.pos hh (by intro k hk;simp at hk;have:w0.block.places.length=w0.places.length:=rfl;omega);have env:envOf ([798].hold [w0.places.length])=⟨x,w0.places.length,.for,lv⟩::envOf w0:=by
  have h:=BG.CJ;have e0:=BG.env ib;unfold envOf at e0 ⊢;show([798].holding++[w0.places.length]).reverse.map (w6 [798].places)=_;rw[List.reverse_append,List.map_append,e0];obtain⟨P,U,V,r⟩:=p2;rw[r.places];simp[w6,W.put,W.block]
 rw[env,l2,BG.CJ] at p3;have p:=(BG.trans p3).block;rw[<-Nat.add_assoc] at p;exact p
end
mutual
theorem xW:∀(e:Expr) (n:Nat),(cO e).depth<=n->EOk n e
 | .num x,n,h,home,lv,st,w,i,hm=>by
  rw[50];exact[250,.number]
 | .quoted x,n,h,home,lv,st,w,i,hm=>by
  rw[50];exact[250,.quoted]
 | .truth x,n,h,home,lv,st,w,i,hm=>by
  rw[50];cases x;rw[2,[250,.DY],[250,.qH]]
 | .nothing,n,h,home,lv,st,w,i,hm=>by
  rw[50];exact[250,.none_]
 | .name x,n,h,home,lv,st,w,i,hm=>by
  rw[50];exact NR i
 | .list l,n,h,home,lv,st,w,i,hm=>by
  rw[3];exact gF (t:=eS .list (parts:=xu l)) [84,.list] rfl i hm (F:=λenv k=>evsL l env k lv) (λw i hm=>[1253])
 | .record l,n,h,home,lv,st,w,i,hm=>by
  rw[3];have:=gF (t:=[133,HD l,fieldNames l]) (n:=m) (lv:=lv) (st:=st) [84,.record] rfl i hm (F:=λenv k=>evsF l env k lv) (S:=no) (λw i hm=>goF l m hd home lv st w i hm);rw[B4] at this;rw[13]
 | .minus e,n,h,home,lv,st,w,i,hm=>by
  rw[3];exact gF (t:=eS .minus (parts:=[cO e])) [84,.minus] rfl i hm (F:=[111,e]) (λw i hm=>[976])
 | .not e,n,h,home,lv,st,w,i,hm=>by
  rw[3];exact gF (t:=eS .not_ (parts:=[cO e])) [84,.not_] rfl i hm (F:=[111,e]) (λw i hm=>[976])
 | .bin o x y,n,h,home,lv,st,w,i,hm=>by
  rw[3];have hx:=[35,x,hd];have hy:=[35,y,(bE hd).2];have:=gF (t:=eS (Fv o) (parts:=[cO x,cO y])) (n:=m) (lv:=lv) (st:=st) (Lw o) rfl i hm (F:=λenv k=>[1311]) (S:=no) (λw i hm=>[1434]);rw[Pr] at this;rw[13]
 | .pick c x y,n,h,home,lv,st,w,i,hm=>by
  rw[3];have hc:=[35,c,hd];have hx:=[35,x,(bE hd).2];have hy:=[35,y,(bE (bE hd).2).2];exact gF (t:=eS .quest (parts:=[cO c,cO x,cO y])) [84,.quest] rfl i hm (F:=λenv k=>[254,c]++evsE x env (k+bindsE c) lv++evsE y env (k+bindsE c+bindsE x) lv) (λw i hm=>three i hm (hc home lv st w i hm) [125,c] (g:=λw=>[260,cO x]) (h:=λw=>[260,cO y]) (F2:=[111,x]) (λw i hm=>[831]) (λenv k=>iS x env k lv) (F3:=[111,y]) (λw i hm=>[832]))
 | .call f l,n,h,home,lv,st,w,i,hm=>by
  rw[3];have hx:=[35,f,hd];have hy:=goL l m (bE hd).2;exact gF (t:=eS .call (parts:=cO f::xu l)) [84,.call] rfl i hm (F:=λenv k=>[254,f]++evsL l env (k+bindsE f) lv) (λw i hm=>fo i hm [831] [125,f] (g:=λw=>bh (wN m) (xu l) home lv st w) (F2:=λenv k=>evsL l env k lv) (λw i hm=>[832]))
 | .index x y,n,h,home,lv,st,w,i,hm=>by
  rw[3];have hx:=[35,x,hd];have hy:=[35,y,(bE hd).2];exact gF (t:=eS .element (parts:=[cO x,cO y])) [84,.element] rfl i hm (F:=λenv k=>[1311]) (λw i hm=>[1434])
 | .field e x,n,h,home,lv,st,w,i,hm=>by
  rw[3];exact gF (t:=[123,.field,[cO e]]) [84,.field] rfl i hm (F:=[111,e]) (λw i hm=>[976])
 | .prim p l,n,h,home,lv,st,w,i,hm=>by
  rw[3];have:=gF (t:=eS (A4 p) (parts:=xu l)) (n:=m) (lv:=lv) (st:=st) (Eg p) rfl i hm (F:=λenv k=>evsL l env k lv) (S:=no) (λw i hm=>[1253]);rw[Ii] at this;rw[13]
 | .fn own ps s,n,h,home,lv,st,w,i,hm=>by
  rw[3];exact X1 (RY s m (zg hd).2) i
theorem goL:∀(l:Exprs) (n:Nat),aX (xu l)<=n->LOk n l
 | .nil,n,h,home,lv,st,w,i,hm=>Piece.refl
 | .cons e l,n,h,home,lv,st,w,i,hm=>fo i hm [1212] [125,e] (g:=λw=>[166,xu l]) (F2:=λenv k=>evsL l env k lv) (λw i hm=>goL l n (bE h).2 home lv st w i hm)
theorem goF:∀(l:Fields) (n:Nat),aX (HD l)<=n->FOk n l
 | .nil,n,h,home,lv,st,w,i,hm=>Piece.refl
 | .cons _ e l,n,h,home,lv,st,w,i,hm=>fo i hm [1212] [125,e] (g:=λw=>[166,HD l]) (F2:=λenv k=>evsF l env k lv) (λw i hm=>goF l n (bE h).2 home lv st w i hm)
theorem goS:∀(s:Stmt) (n:Nat),(lq s).depth<=n->∀(home lv st:Nat) (here:[23]) (w:W),([47])->([107])->([611])->Ux w (wN n (lq s) home lv st w) s home lv st here
 | .leta x e,n,h,home,lv,st,here,w,i,hm,hh=>by
  rw[3];have he:=[35,e,hd];refine zm (x:=x) (k:= .leta) rfl rfl rfl i hm hh (F:=[111,e]) (λw i hm=>[1059]) ?_ ?_ ?_ ?_
  ·rw[evsS,List.cons_append,List.filterMap_cons];simp only[Ev.asBind,List.tail_cons];rw[List.filterMap_append,aM];rfl
  ·rw[evsS,List.cons_append,List.filterMap_cons];rfl
  ·rw[evsS,List.cons_append,List.filterMap_cons];simp only[Ev.asUse];rw[List.filterMap_append,cz];rfl
  ·intro j;rw[evsS,List.cons_append,List.filterMap_cons];simp only[Ev.faultKind];simp only[List.filterMap_append,List.mem_append,gW];have:cy (lq (.leta x e)) lv=[]:=rfl;rw[this];simp[fX,Ev.faultKind]
 | .seta x e,n,h,home,lv,st,here,w,i,hm,hh=>by
  rw[3];have he:=[35,e,hd];refine[617];have a:=(ir (w:=w) (S:=no) (t:=lq [532]) (lv:=lv) (st:=st));have i1:=iP (v:=[38,lq [532]]) i;have b:=yD (S:=no) (x:=x) (b:=true) (lv:=lv) (st:=st) i1;have ab:=a.trans b;have hc:[73,cy (lq [532]) lv++([Ev.use x (ref x [1201]) true lv]++faultIf (true&&unsettable x [1201] lv) 4),0]:=by
   rw[[11,cy (lq [532]) lv,[],rfl],List.nil_append,List.filterMap_append,aM];rfl
  exact fo i hm ab hc (g:=λw=>[260,cO e]) (F2:=[111,e]) (λw i hm=>[1059])
 | .way o e,n,h,home,lv,st,here,w,i,hm,hh=>by
  rw[3];have he:=[35,e,hd];refine[617];have:=gF (t:=eS (KO o) (parts:=[cO e])) (n:=m) (lv:=lv) (st:=st) (Ic o) rfl i hm (F:=[111,e]) (S:=no) (λw i hm=>[1059]);rw[LW] at this;rw[13]
 | .iff c x,n,h,home,lv,st,here,w,i,hm,hh=>by
  rw[3];obtain⟨h1,h2⟩:=zg hd;have hc:=[35,c,h1];have hx:=RY x m h2;refine[617];show[395,.iff c x];rw[sV (t:=lq (.iff c x)) [84,.x8]];rw[4,[382,[397,.iff c x]],fo (w:=w.lG [38,lq (.iff c x)]) (iP i) hm [1060] [125,c] (g:=[931]) (F2:=[326,x]) (λw i hm=>lJ hx i)]
 | .iffElse c x y,n,h,home,lv,st,here,w,i,hm,hh=>by
  rw[3];obtain⟨h1,h2,h3⟩:=Rw hd;have hc:=[35,c,h1];have hx:=RY x m h2;have hy:=RY y m h3;refine[617];show[395,[767]];rw[sV (t:=lq [767]) [84,.x8]];rw[4,[382,[397,[767]]],three (w:=w.lG [38,lq [767]]) (iP i) hm [1060] [125,c] (g:=[931]) (F2:=[326,x]) (λw i hm=>lJ hx i) (λenv k=>Av x env k lv false []) (h:=λw=>[131,wN m,iE y]) (F3:=[326,y]) (λw i hm=>lJ hy i)]
 | .while_ c x,n,h,home,lv,st,here,w,i,hm,hh=>by
  rw[3];obtain⟨h1,h2⟩:=zg hd;have hc:=[35,c,h1];have hx:=RY x m h2;refine[617];show[395,[743]];rw[sV (t:=lq [743]) [84,.while_]];rw[4,[382,[397,[743]]],fo (w:=w.lG [38,lq [743]]) (iP i) hm [1060] [125,c] (g:=[931]) (F2:=[326,x]) (λw i hm=>lJ hx i)]
 | .for x e l,n,h,home,lv,st,here,w,i,hm,hh=>by
  rw[3];obtain⟨h1,h2⟩:=zg hd;exact toS rfl (RZ [35,e,h1] (RY l m h2) i hm)
 | .slider x v lo hi,n,h,home,lv,st,here,w,i,hm,hh=>by
  rw[3];refine zm (x:=x) (k:= .slider) rfl rfl rfl i hm hh (F:=λenv k=>[]) [836] ?_ ?_ ?_ ?_
  ·rw[evsS,List.cons_append,List.cons_append,List.filterMap_cons];simp only[Ev.asBind,List.tail_cons];rw[62]
  ·rw[105]
  ·rw[evsS,List.cons_append,List.cons_append,List.filterMap_cons];simp only[Ev.asUse];rw[List.filterMap_append,List.filterMap_append,cz,cz,cz];rfl
  ·rw[106];simp only[Ev.faultKind];have:cy (lq (.slider x v lo hi)) lv=faultIf (v<lo||hi<v) 7:=by
    have e0:aQ (lq (.slider x v lo hi)) lv=[59,Kd.cq= .cq/\¬[504],7]:=rfl;unfold cy;rw[e0];by_cases hc:[504]
    ·have:[1376]=false:=by rw[0]
     simp[hc,this,faultIf]
    ·have:[1376]=true:=by rw[0]
     simp[hc,this,faultIf]
   rw[this];simp only[List.filterMap_append,List.mem_append,gW];simp[fX];exact or_comm
 | .choice x v l,n,h,home,lv,st,here,w,i,hm,hh=>by
  rw[3];refine zm (x:=x) (k:= .choice) rfl rfl rfl i hm hh (F:=λenv k=>[]) [836] ?_ ?_ ?_ ?_
  ·rw[evsS,List.cons_append,List.cons_append,List.filterMap_cons];simp only[Ev.asBind,List.tail_cons];rw[62]
  ·rw[105]
  ·rw[evsS,List.cons_append,List.cons_append,List.filterMap_cons];simp only[Ev.asUse];rw[List.filterMap_append,List.filterMap_append,cz,cz,cz];rfl
  ·rw[106];simp only[Ev.faultKind];have:cy (lq (.choice x v l)) lv=faultIf [10,l.length,v] 8:=by
    have e0:aQ (lq (.choice x v l)) lv=[59,Kd.bW= .bW/\l.length<=v,8]:=rfl;unfold cy;rw[e0];by_cases hc:l.length<=v<;>simp[hc,faultIf]
   rw[this];simp only[List.filterMap_append,List.mem_append,gW];simp[fX];exact or_comm
theorem RY:∀(l:Stmts) (n:Nat),aX (iE l)<=n->Vp n l
 | .nil,n,h,home,lv,st,here,w,i,hm,hh=>⟨[],by rw[List.append_nil];exact Piece.refl,[4]⟩
 | .cons s l,n,h,home,lv,st,here,w,i,hm,hh=>by
  have a:=goS s n (bE h).1 home lv st here w i hm hh;obtain⟨k,b,hk⟩:=RY l n (bE h).2 home lv st (jF s here) _ (rW i a) [270,a.1.yt] (uM i hm hh a);have hl:=a.1.len;rw[Nq] at hl;rw[xM i a,hl,a.1.CJ,List.append_assoc] at b;refine⟨[937]++k,(a.1.mono (S':=[519]) λ_ h=>h.1).trans b,λj hj=> ?_⟩;rcases List.mem_append.mp hj with hj|hj
  ·have i2:=(rW i a).hold j (by rw[0,a.1.CJ,[268,hj]]);have:=b.len;show j<(bh (wN n) (iE l) home lv st (wN n (lq s) home lv st w)).places.length;omega
  ·exact hk j hj
end
section
variable {i j st:Nat} {w w':W} {S:[189]} {es:[111]}
def eL(n:Nat):Nat->([24])->W->W
 |_,[],w=>w
 |st,t::r,w=>eL n (st+1) r (wN n t 0 0 st w)
def IP(sel:[258])(ps:[36])(j:Nat):Prop:=∃A p B,ps=A++p::B/\p.st=j/\[242]=true/\∃q∈A,[1019]
def PF(w:W)(j k:Nat):Prop:=(k=1/\IP making w.places j)\/(k=2/\IP isParam w.places j)\/(k=6/\∃p∈w.places,p.st=j/\fX p.kind=true/\p.home≠0) \/(k=4/\[1307])\/(0<k/\∃v∈w.cE,v.st=j/\[382]=k)
theorem BS {sel:[258]} {Q P:[36]}(h:∀p∈P,p.st=i):IP sel (Q++P) j↔IP sel Q j\/(j=i/\Rep sel Q P):=by
 constructor
 ·rintro⟨X,p,Y,e,hj,hs,q,hq,h'⟩;rcases List.append_eq_append_iff.mp e with⟨Z,e1,e2⟩|⟨Z,e1,e2⟩
  ·subst e1;exact .inr ⟨by rw[<-hj];exact h p (by rw[e2];simp),Z,p,Y,e2,hs,q,hq,h'⟩
  ·cases Z with
   |nil=>
    simp at e1 e2;subst e1;exact .inr ⟨by rw[<-hj];exact h p (by rw[<-e2];simp),[],p,Y,e2.symm,hs,q,[243],h'⟩
   |cons z Z=>
    simp at e2;obtain⟨rfl,e2⟩:=e2;exact .inl ⟨X,p,Z,e1,hj,hs,q,hq,h'⟩
 ·rintro(⟨X,p,Y,e,hj,hs,q,hq,h'⟩|⟨rfl,X,p,Y,e,hs,q,hq,h'⟩);rw[2,⟨X,p,Y++P,[344],hj,hs,q,hq,h'⟩,⟨Q++X,p,Y,[344],h p (by rw[e];simp),hs,q,hq,h'⟩]
theorem De {α:Type} {A B:[34]} {f:α->Nat} {g:α->Prop}(h:∀x∈B,f x=i):(∃x∈A++B,f x=j/\g x)↔(∃x∈A,f x=j/\g x)\/(j=i/\∃x∈B,g x):=by
 constructor
 ·rintro⟨x,hx,h1,h2⟩;rcases List.mem_append.mp hx with hx|hx;rw[2,.inl ⟨x,hx,h1,h2⟩,[6,(by rw[<-h1];exact h x hx),x,hx,h2]]
 ·rintro(⟨x,hx,h1,h2⟩|⟨rfl,x,hx,h2⟩);rw[2,⟨x,[267,hx],h1,h2⟩,⟨x,[268,hx],h x hx,h2⟩]
theorem BJ {h:[30]}(a:[99,es])(hr:inR w.places.length w.uses)(j k:Nat):(PF w' j k↔PF w j k\/(j=st/\k∈[675]))/\inR w'.places.length w'.uses:=by
 obtain⟨P,U,V,a⟩:=a;constructor
 ·rw[<-a.faults];unfold PF FK;rw[a.places,a.uses,a.cE,BS a.T6,BS a.T6,De a.T6,De a.stU,De a.stV];have e:[429,[8,fj (w.places++P) u]]↔[1307]:=by
   constructor
   ·rintro⟨u,hu,b,c,d⟩;rw[nj (hr u hu)] at d;exact⟨u,hu,b,c,d⟩
   ·rintro⟨u,hu,b,c,d⟩;exact⟨u,hu,b,c,by rw[0,nj (hr u hu),d]⟩
  rw[e];have key:∀ {z a b c d e a1 a2 b1 b2 c1 c2 d1 d2 e1 e2:Prop},((a/\(a1\/z/\a2))\/(b/\(b1\/z/\b2))\/(c/\(c1\/z/\c2))\/(d/\(d1\/z/\d2))\/(e/\(e1\/z/\e2)))↔[490,e1]\/(z/\[1441]):=by
   intros;constructor
   ·rintro(⟨a,b|⟨c,b⟩⟩|⟨a,b|⟨c,b⟩⟩|⟨a,b|⟨c,b⟩⟩|⟨a,b|⟨c,b⟩⟩|⟨a,b|⟨c,b⟩⟩)<;>simp_all
   ·rintro((⟨a,b⟩|⟨a,b⟩|⟨a,b⟩|⟨a,b⟩|⟨a,b⟩)|⟨c,(⟨a,b⟩|⟨a,b⟩|⟨a,b⟩|⟨a,b⟩|⟨a,b⟩)⟩)<;>simp_all
  exact key
 ·rw[a.places,a.uses];intro u hu m hm;rcases List.mem_append.mp hu with hu|hu
  ·have:=hr u hu m hm;rw[0]
  ·exact a.inr u hu m hm
theorem KQ {h:[30]}(a:[99,es]) {k:Nat}(hk:k∈[675]):k∈[1,2,3,4,5,6,7,8]:=by
 obtain⟨P,U,V,a⟩:=a;rcases(a.faults k).mpr hk with⟨rfl,_⟩|⟨rfl,_⟩|⟨rfl,_⟩|⟨rfl,_⟩|⟨h0,v,_,e⟩
 ·decide
 ·decide
 ·decide
 ·decide
 ·unfold aQ at e;subst e;revert h0;split
  ·intro _;decide
  ·split
   ·intro _;decide
   ·split
    ·split
     ·intro _;decide
     ·intro h;omega
    ·split
     ·intro _;decide
     ·intro h;omega
    ·intro h;omega
theorem Bo {h:[30]}(a:[99,es]) {k:Nat}:k∈kindsOf es↔k∈[675]:=by
 unfold kindsOf;rw[List.mem_filter];constructor
 ·rintro⟨_,h⟩;exact List.contains_iff_mem.mp h
 ·intro h;rw[3,KQ a h,List.contains_iff_mem.mpr h]
theorem Fg {n:Nat}:∀(l:Stmts) (st:Nat) (here:List Bytes) (w:W),aX (iE l)<=n->Inv w->kQ w 0 here->inR w.places.length w.uses->
 let w':=eL n st (iE l) w
 let ev:=evsB l (envOf w) w.places.length 0 true here
 w'.places.map tN=w.places.map tN++ev.flatten.filterMap Ev.asBind
 /\w'.uses.map Cv=w.uses.map Cv++ev.flatten.filterMap Ev.asUse
 /\(∀j k,PF w' j k↔PF w j k\/(j,k)∈(numbered st ev).flatMap λx=>(kindsOf x.2).map λk=>(x.1,k))
 /\inR w'.places.length w'.uses
 | .nil,st,here,w,hd,i,hh,hr=>by simp[eL,iE,evsB,numbered,hr]
 | .cons s l,st,here,w,hd,i,hh,hr=>by
   have a:=goS s n (bE hd).1 0 0 st here w i i.pos hh;have hl:=a.1.len;rw[Nq] at hl;have pf:=λj k=>(BJ a.1 hr j k).1;have hr':=(BJ a.1 hr 0 0).2;have ih:=Fg l (st+1) (jF s here) (wN n (lq s) 0 0 st w) (bE hd).2 (rW i a) (uM i i.pos hh a) hr';rw[xM i a,hl] at ih;obtain⟨h1,h2,h3,h4⟩:=ih;have mk:=λk=>Bo a.1 (k:=k);obtain⟨P,U,V,p⟩:=a.1;refine⟨?_,?_,?_,h4⟩
   ·show(eL n (st+1) (iE l) (wN n (lq s) 0 0 st w)).places.map tN=_;rw[h1,p.places,List.map_append,p.binds,evsB,List.flatten_cons,List.filterMap_append,List.append_assoc];rfl
   ·show(eL n (st+1) (iE l) (wN n (lq s) 0 0 st w)).uses.map Cv=_;rw[h2,p.uses,List.map_append,p.wM,evsB,List.flatten_cons,List.filterMap_append,List.append_assoc];rfl
   ·intro j k;show PF (eL n (st+1) (iE l) (wN n (lq s) 0 0 st w)) j k↔_;rw[h3,pf,evsB,numbered,List.flatMap_cons,List.mem_append,or_assoc];refine or_congr Iff.rfl (or_congr ?_ Iff.rfl);rw[List.mem_map];constructor
    ·rintro⟨rfl,h⟩;exact⟨k,(mk k).mpr h,rfl⟩
    ·rintro⟨k',h,e⟩
     cases e
     exact⟨rfl,(mk k).mp h⟩
theorem cY {n:Nat} {p:Stmts}(hd:aX (iE p)<=n):[591].places.map tN=bindings p/\[591].uses.map Cv=uses p/\∀j k,PF [591] j k↔(j,k)∈faults p:=by
 obtain⟨h1,h2,h3, -⟩:=Fg (n:=n) p 0 [] W.start hd ⟨by simp[W.start],by simp[W.start],by simp[W.start]⟩ (by intro x;simp[W.start]) (by intro u hu;simp[W.start] at hu);refine⟨h1,h2,λj k=> ?_⟩;rw[h3];constructor
 ·rintro(h|h)
  ·rcases h with⟨_,A,p,B,e,_⟩|⟨_,A,p,B,e,_⟩|⟨_,p,hp,_⟩|⟨_,p,hp,_⟩|⟨_,p,hp,_⟩
   ·simp[W.start] at e
   ·simp[W.start] at e
   ·simp[W.start] at hp
   ·simp[W.start] at hp
   ·simp[W.start] at hp
  ·exact h
 ·exact .inr
end
section
variable {a:[113]} {α:Type} {n j:Nat} {l:[136]}
def lex(a b:[113]):Prop:=a.1<b.1\/(a.1=b.1/\a.2<b.2)
theorem Ot:¬lex a a:=by rintro(h|⟨_,h⟩)<;>omega
theorem lex_trans {b c:[113]}(h:lex a b)(k:lex b c):lex a c:=by
 rcases h with h|⟨h,h'⟩<;>rcases k with k|⟨k,k'⟩
 rw[2,.inl [2],.inl [2]];rw[2,.inl [2],.inr [72,[2]]]
theorem LF {R:[4,α,α]}(irr:∀ {a},¬R a a)(tr:∀ {a b c},R a b->R b c->R a c):∀ {x y:[34]},x.Pairwise R->y.Pairwise R->(∀a,a∈x↔a∈y)->x=y:=by
 intro x;induction x with
  |nil=>
   intro y _ _ h;cases y with
    |nil=>rfl
    |cons b y=>exact absurd ((h b).mpr [4]) [4]
  |cons a x ih=>
   intro y hx hy h;cases y with
    |nil=>exact absurd ((h a).mp [4]) [4]
    |cons b y=>
     obtain⟨MX,A0⟩:=List.pairwise_cons.mp hx;obtain⟨U7,Y9⟩:=List.pairwise_cons.mp hy;have Fi:a=b:=by
      rcases List.mem_cons.mp ((h a).mp (by simp)) with e|e
      ·exact e
      ·rcases List.mem_cons.mp ((h b).mpr (by simp)) with f|f;rw[2,f.symm,absurd (tr (U7 a e) (MX b f)) irr]
     subst Fi;congr 1;refine ih A0 Y9 λc=>⟨λhc=> ?_,λhc=> ?_⟩
     ·rcases List.mem_cons.mp ((h c).mp (by simp[hc])) with e|e
      ·rw[5,absurd (MX c hc) irr]
      ·exact e
     ·rcases List.mem_cons.mp ((h c).mpr (by simp[hc])) with e|e
      ·rw[5,absurd (U7 c hc) irr]
      ·exact e
theorem DL(es:[111]):(kindsOf es).Pairwise (·<·):=by
 unfold kindsOf;refine List.Pairwise.filter _ ?_;decide
theorem xt:∀(l:List [111]) (st:Nat),([414,st].Pairwise lex)/\∀a∈[414,st],st<=a.1:=by
 intro l;induction l with
  |nil=>
   intro st;simp[numbered]
  |cons es l ih=>
   intro st;obtain⟨h1,h2⟩:=ih (st+1);rw[numbered,List.flatMap_cons];refine[30,List.pairwise_append.mpr [21,?_,h1]]
   ·rw[List.pairwise_map];exact(DL es).imp λh=> .inr [18,h]
   ·intro a ha b hb;obtain⟨k, -,rfl⟩:=[909];have:=h2 b hb;exact .inl (by show st<b.1;omega)
   ·intro a ha;rcases List.mem_append.mp ha with ha|ha
    ·obtain⟨k, -,rfl⟩:=[909];exact[8]
    ·rw[0,h2 a ha]
theorem AH(p:Stmts):(faults p).Pairwise lex:=(xt _ 0).1
theorem xi {p:Stmts}(hd:aX (iE p)<=n)(hl:l.Pairwise lex)(hm:∀j k,(j,k)∈l↔PF [591] j k):l=faults p:=LF Ot lex_trans hl (AH p) λ⟨j,k⟩=>by rw[hm,(cY hd).2.2]
def again(l:[36]):([36])->[36]
 | []=>[]
 |p::r=>if l.any [1342] then p::again (l++[p]) r else again (l++[p]) r
theorem yq:∀(r l:[36]) (p:Pl),p∈again l r↔[462,l++A]:=by
 intro r;induction r with
  |nil=>
   intro l p;simp[again]
  |cons x r ih=>
   intro l p;have tail:(∃A B,x::r=A++p::B/\∃q∈l++A,[828])↔(x=p/\∃q∈l,[828])\/[462,(l++[x])++A]:=by
    constructor
    ·rintro⟨A,B,e,q,hq,h⟩;cases A with
      |nil=>
       simp at e hq;exact .inl ⟨e.1,q,hq,h⟩
      |cons a A=>
       simp at e;obtain⟨rfl,e⟩:=e;exact .inr ⟨A,B,e,q,[243],h⟩
    ·rintro(⟨rfl,q,hq,h⟩|⟨A,B,e,q,hq,h⟩);rw[2,⟨[],r,rfl,q,[243],h⟩,⟨x::A,B,[344],q,[243],h⟩]
   rw[tail,<-ih,again];split
   ·rename_i h;rw[List.any_eq_true] at h;obtain⟨q,hq,h⟩:=h;simp at h;rw[List.mem_cons];constructor
    ·rintro(rfl|h');rw[2,.inl ⟨rfl,q,hq,h⟩,.inr h']
    ·rintro(⟨rfl,_⟩|h');rw[2,[38],.inr h']
   ·rename_i h;constructor
    ·exact .inr
    ·rintro(⟨rfl,q,hq,h'⟩|h');rw[2,absurd (List.any_eq_true.mpr ⟨q,hq,by simp[h']⟩) h,h']
theorem zZ {f:[447]}:∀ {l A B:[34]} {p:α},l.filter f=A++p::B->∃A' B',l=A'++p::B'/\A=A'.filter f/\B=B'.filter f:=by
 intro l;induction l with
  |nil=>
   intro A B p h;simp at h
  |cons x l ih=>
   intro A B p h;by_cases hx:f x=true
   ·rw[[1100]] at h;cases A with
     |nil=>
      simp at h;exact[3,[],l,(by simp[h.1]),h.2.symm]
     |cons a A=>
      simp at h;obtain⟨A',B',e,e1,e2⟩:=ih h.2;exact⟨x::A',B',[344],by rw[[1100],<-e1,h.1],e2⟩
   ·rw[[1101]] at h;obtain⟨A',B',e,e1,e2⟩:=ih h;exact⟨x::A',B',[344],by rw[[1101],<-e1],e2⟩
theorem wj {sel:[258]} {ps:[36]}:IP sel ps j↔∃p∈again [] [112,[242]],p.st=j:=by
 constructor
 ·rintro⟨A,p,B,e,hj,hs,q,hq,h1,h2,h3⟩;refine⟨p,(yq _ _ _).mpr ⟨A.filter λp=>[242],B.filter λp=>[242],?_,q,?_,h2,h3⟩,hj⟩
  ·rw[e,List.filter_append,List.filter_cons_of_pos (p:=λp:Pl=>[242]) hs]
  ·rw[List.nil_append,List.mem_filter];rw[3,hq,h1]
 ·rintro⟨p,hp,hj⟩;obtain⟨A,B,e,q,hq,h2,h3⟩:=(yq _ _ _).mp hp;obtain⟨A',B',e',e1,e2⟩:=zZ e;have hs:[242]=true:=by
   have:p∈[112,[242]]:=by
    rw[e];simp
   exact(List.mem_filter.mp this).2
  rw[List.nil_append,e1,List.mem_filter] at hq;exact⟨A',p,B',e',hj,hs,q,hq.1,hq.2,h2,h3⟩
def ly(ps:[36]):[136]:=(again [] [112,making p.kind]).map (λp=>(p.st,1))++(again [] [112,isParam p.kind]).map (λp=>(p.st,2)) ++([112,fX p.kind].filter λp=>p.home !=0).map (λp=>(p.st,6))
def ie(us:List Us)(ps:[36]):[136]:=(us.filter λu=>u.isSet&& ! fj ps u).map λu=>(u.st,4)
def fz(vs:List Vi):[136]:=(vs.filter λv=>0<[382]).map λv=>(v.st,[382])
def pairs(w:W):[136]:=ly w.places++ie w.uses w.places++fz w.cE
theorem yr {w:W} {k:Nat}:(j,k)∈pairs w↔PF w j k:=by
 unfold pairs ly ie fz PF;rw[wj,wj];simp only[List.mem_append,List.mem_map,List.mem_filter,Prod.mk.injEq];constructor
 ·rintro((((⟨p,hp,h,rfl⟩|⟨p,hp,h,rfl⟩)|⟨p,⟨⟨hp,ha⟩,hh⟩,h,rfl⟩)|⟨u,⟨hu,hs⟩,h,rfl⟩)|⟨v,⟨hv,h0⟩,h,rfl⟩);rw[2,.inl ⟨rfl,p,hp,h⟩,.inr (.inl ⟨rfl,p,hp,h⟩)]
  ·exact .inr (.inr (.inl ⟨rfl,p,hp,h,ha,[717]⟩))
  ·simp at hs;exact[189,.inl ⟨rfl,u,hu,h,hs.1,hs.2⟩]
  ·simp at h0;exact[189,.inr ⟨h0,v,hv,h,rfl⟩]
 ·rintro(⟨rfl,p,hp,h⟩|⟨rfl,p,hp,h⟩|⟨rfl,p,hp,h,ha,hh⟩|⟨rfl,u,hu,h,hs,hm⟩|⟨h0,v,hv,h,rfl⟩);rw[2,.inl [181,.inl ⟨p,hp,h,rfl⟩],.inl [181,[6,p,hp,h,rfl]]];rw[2,[181,[6,p,⟨⟨hp,ha⟩,by simpa using hh⟩,h,rfl]],.inl [6,u,⟨hu,by simp[hs,hm]⟩,h,rfl]]
  ·exact[6,v,⟨hv,by simpa using h0⟩,h,rfl]
theorem tY {p:Stmts}(hd:aX (iE p)<=n)(hl:l.Pairwise lex)(hm:∀a,a∈l↔a∈pairs [591]):l=faults p:=xi hd hl λj k=>by rw[hm,yr]
end
def dq(w:W)(i:Nat):Nat:=(w.uses.filter [988]).length
section
variable {a:W} {m n:Nat}
structure Gr(w w':W)(n:Nat):Prop where
 p:w'.places.length<=w.places.length+n
 u:w'.uses.length<=w.uses.length+n
 v:w'.cE.length<=w.cE.length+n
 h:w'.holding.length<=w.holding.length+n
 m:w.places.length<=w'.places.length
theorem Gr.refl(w:W):Gr w w 0:=⟨[2],[2],[2],[2],[8]⟩
theorem Gr.trans {b c:W}(x:Gr a b m)(y:Gr b c n):Gr a c (m+n):=⟨by rw[12,x.p,y.p],by rw[12,x.u,y.u],by rw[12,x.v,y.v],by rw[12,x.h,y.h],Nat.le_trans x.m y.m⟩
theorem Gr.mono {b:W}(x:Gr a b m)(e:m<=n):Gr a b n:=⟨by rw[0,x.p],by rw[0,x.u],by rw[0,x.v],by rw[0,x.h],x.m⟩
theorem J2(w:W)(v:Vi):Gr w (w.lG v) 1:=⟨[472],[472],[472],[472],by simp[W.lG]⟩
theorem qi(w:W)(v:Pl):Gr w (w.put v) 1:=⟨[473],[473],[473],[473],by simp[W.put]⟩
theorem J3(w:W)(v:Us):Gr w (w.use v) 1:=⟨[474],[474],[474],[474],by simp[W.use]⟩
theorem zo(w:W)(l:[30]):Gr w (w.hold l) l.length:=⟨[727],[727],[727],[727],by simp[W.hold]⟩
theorem jY(w:W):Gr w w.block 0:=⟨[307],[307],[307],[307],by simp[W.block]⟩
theorem NS(w:W)(n:Nat):Gr w (w.back n) 0:=⟨[910],[910],[910],by simp[W.back];omega,by simp[W.back]⟩
section
variable {f:Wf}(hf:∀t home lv st w,Gr w [645] (3*t.sz))
include hf
theorem gG(home lv st:Nat):∀(l:[24]) (w:W),Gr w (bh f l home lv st w) (3*eY l)
 | [],w=>[538]
 |t::r,w=>by
  show Gr w (bh f r home lv st [645]) _;exact((hf t home lv st w).trans (gG home lv st r _)).mono (by rw[eY];omega)
theorem sk(l:[24])(home lv st:Nat)(nums:[30])(w:W):Gr w [1303] (nums.length+3*eY l):=[29,zo w nums,gG hf home lv st l _,NS _ _].mono [2]
theorem pC(lv st:Nat):∀(bs:[100]) (w:W),Gr w (fh f bs lv st w) (3*iN bs)
 | [],w=>[538]
 |l::r,w=>by
  show Gr w (fh f r lv st [1017]) _;exact[29,jY w,sk hf l w.met lv st [] _,pC lv st r _].mono (by rw[iN];rw[0])
omit hf in theorem pD(lv home st:Nat):[296,Gr w [794] ps.length]
 | [],w=>[538]
 |x::r,w=>by
  show Gr w (aY r lv home st [260]) _;exact((qi w _).trans (pD lv home st r _)).mono (by rw[0])
omit hf in theorem Du(own:[74])(lv home st:Nat)(w:W):Gr w [795] 1:=by cases own with
 |none=>exact[538].mono [2]
 |some x=>exact qi w _
theorem Ml(bs:[100]):eY (bs.headD [])<=iN bs:=by cases bs with
 |nil=>exact[8]
 |cons l r=>
  show eY l<=iN (l::r);rw[iN];omega
theorem sz_t(t:T):[1045]:=by
 cases t;rw[T.sz];rfl
theorem NT(t:T)(home lv st:Nat)(w:W):Gr w (jA f t home lv st w) (3*t.sz):=by
 have hs:=sz_t hf t;have hb:=Ml hf t.blocks;have h0:=J2 w [38,t];unfold jA;cases hk:iq t.kind with
  |some k=>
   refine[66,h0.trans [29,qi _ _,[934],zo _ _]];rw[0]
  |none=>
   dsimp only;split
   ·refine[66,h0.trans ([29,jY _,qi _ _,[934]].trans (sk hf _ _ _ _ _ _))];simp only[List.length_cons,List.length_nil];omega
   ·split
    ·unfold Gi;have a1:=(jY [73]).trans ((Du t.name (lv+1) [73].met st _).trans (pD (lv+1) [73].met st t.names _));refine[66,h0.trans (a1.trans (sk hf _ _ _ _ _ _))];have:=a1.p;rw[79]
    ·unfold lD;have a0:Gr [73] (nR t lv st [73]) 1:=by
      unfold nR;rw[14,J3 _ _,(Gr.refl _).mono [2]]
     exact(h0.trans ((a0.trans [934]).trans (pC hf lv st t.blocks _))).mono [2]
end
theorem nX:[474,Gr w [975] (3*t.sz)]
 |0,t,home,lv,st,w=>[538].mono [2]
 |n+1,t,home,lv,st,w=>NT (nX n) t home lv st w
end
section
variable {l:[24]} {i:Nat}
def WF:[4,Nat,T]
 |0,_=>False
 |n+1,t=>([92,iq t.kind]\/t.kind= .iJ\/[632]->[609])/\(t.kind= .iJ\/t.kind= .qK->[989])/\[583]/\[728]
theorem si {t:T}(h:t∈l):t.depth<=aX l:=by induction l with
 |nil=>cases h
 |cons a r ih=>
  show t.depth<=max a.depth (aX r);rcases List.mem_cons.mp h with rfl|h
  ·omega
  ·rw[0,ih h]
theorem tm(p:[24])(bs:[100])(d:Nat)(hd:d<=aX p\/∃b∈bs,d<=aX b):d<=bX p bs:=by
 unfold bX;have gen:∀(bs:[100]) (m:Nat),(d<=m\/∃b∈bs,d<=aX b)->d<=bs.foldl (λd x=>max d (aX x)) m:=by
  intro bs;induction bs with
   |nil=>
    intro m h;rcases h with h|⟨b,hb,_⟩;exact h;cases hb
   |cons b r ih=>
    intro m h;refine ih _ ?_;rcases h with h|⟨x,hx,h⟩
    ·exact .inl (by show d<=max m (aX b);omega)
    ·rcases List.mem_cons.mp hx with rfl|hx;rw[2,.inl (by show d<=max m (aX x);omega),.inr ⟨x,hx,h⟩]
 exact gen bs _ hd
theorem gJ {k:Kd} {p:[24]} {b:[100]} {nm:[74]} {ns:[23]} {v:TV} {n:Nat}(hd:(eS k p b nm ns v).depth<=n)(c1:[487,∃x,nm=some x])(c2:k= .iJ\/k= .qK->∃x r,b=x::r) (hp:∀t∈p,[1285])(hb:∀x∈b,∀t∈x,[1285]):WF n (eS k p b nm ns v):=by
 have hd:1+bX p b<=n:=hd;obtain⟨m,rfl⟩:∃m,n=m+1:=[72,n -1];refine⟨c1,c2,λt ht=>hp t ht m ?_,λx hx t ht=>hb x hx t ht m ?_⟩
 ·rw[0,tm p b t.depth (.inl (si ht))]
 ·rw[0,tm p b t.depth (.inr ⟨x,hx,si ht⟩)]
theorem nz {k:Kd} {q:Prop}(h:(iq k).isSome=false/\k≠.iJ/\k≠.name/\k≠.dy):[487,q]:=by
 rintro(z|z|z|z)
 ·rw[h.1] at z;cases z
 rw[2,absurd z h.2.1,absurd z h.2.2.1]
 ·exact absurd z h.2.2.2
theorem gX {k:Kd} {q:Prop}(h:k≠.iJ/\k≠.qK):k= .iJ\/k= .qK->q:=by
 rintro(z|z);rw[2,absurd z h.1,absurd z h.2]
theorem mL {q:T->Prop}:∀x∈([]:[100]),∀t∈x,q t:=λx h=>[180]
theorem CM {q:T->Prop}:∀t∈([]:[24]),q t:=λx h=>[180]
mutual
theorem yX:∀(e:Expr) (n:Nat),(cO e).depth<=n->WF n (cO e)
 | .num _,n,h=>[893]
 | .quoted _,n,h=>[893]
 | .truth v,n,h=>gJ h (nz (by cases v<;>decide)) (gX (by cases v<;>decide)) CM mL
 | .nothing,n,h=>[893]
 | .name x,n,h=>[894]
 | .list l,n,h=>gJ h [145] [109] (wfL l) mL
 | .record l,n,h=>gJ h [145] [109] (wfF l) mL
 | .minus e,n,h=>gJ h [145] [109] (λt ht=>by rw[5,ht,yX e]) mL
 | .not e,n,h=>gJ h [145] [109] (λt ht=>by rw[5,ht,yX e]) mL
 | .bin o x y,n,h=>gJ h (nz (by cases o<;>decide)) (gX (by cases o<;>decide)) (λt ht=>by simp only[List.mem_cons,List.not_mem_nil,or_false] at ht;rcases ht with rfl|rfl;rw[2,yX x,yX y]) mL
 | .pick c x y,n,h=>gJ h [145] [109] (λt ht=>by simp only[List.mem_cons,List.not_mem_nil,or_false] at ht;rcases ht with rfl|rfl|rfl;rw[2,yX c,yX x];·exact yX y) mL
 | .call f l,n,h=>gJ h [145] [109] (λt ht=>by rcases List.mem_cons.mp ht with rfl|ht;rw[2,yX f,wfL l t ht]) mL
 | .index l i,n,h=>gJ h [145] [109] (λt ht=>by simp only[List.mem_cons,List.not_mem_nil,or_false] at ht;rcases ht with rfl|rfl;rw[2,yX l,yX i]) mL
 | .field r _,n,h=>gJ h [145] [109] (λt ht=>by rw[5,ht,yX r]) mL
 | .prim p l,n,h=>gJ h (nz (by cases p<;>decide)) (gX (by cases p<;>decide)) (wfL l) mL
 | .fn own ps s,n,h=>gJ h [145] (λ_=>[36,_]) CM (λx hx=>by rw[5,hx,Q5 s])
theorem wfL:[147,Exprs,xu l]
 | .nil=>[451]
 | .cons e l=>λt h=>by rw[16,yX e,wfL l t h]
theorem wfF:[147,Fields,HD l]
 | .nil=>[451]
 | .cons _ e l=>λt h=>by rw[16,yX e,wfF l t h]
theorem wfS:∀(s:Stmt) (n:Nat),(lq s).depth<=n->WF n (lq s)
 | .leta x e,n,h=>gJ h [665] [109] (λt ht=>by rw[5,ht,yX e]) mL
 | .seta x e,n,h=>gJ h [665] [109] (λt ht=>by rw[5,ht,yX e]) mL
 | .way w e,n,h=>gJ h (nz (by cases w<;>decide)) (gX (by cases w<;>decide)) (λt ht=>by rw[5,ht,yX e]) mL
 | .iff c x,n,h=>gJ h [145] [109] (λt ht=>by rw[5,ht,yX c]) (λb hb=>by rw[5,hb,Q5 x])
 | .iffElse c x y,n,h=>gJ h [145] [109] (λt ht=>by rw[5,ht,yX c]) (λb hb=>by simp only[List.mem_cons,List.not_mem_nil,or_false] at hb;rcases hb with rfl|rfl;rw[2,Q5 x,Q5 y])
 | .while_ c x,n,h=>gJ h [145] [109] (λt ht=>by rw[5,ht,yX c]) (λb hb=>by rw[5,hb,Q5 x])
 | .for x e l,n,h=>gJ h [665] (λ_=>[36,_]) (λt ht=>by rw[5,ht,yX e]) (λb hb=>by rw[5,hb,Q5 l])
 | .slider x _ _ _,n,h=>[894]
 | .choice x _ _,n,h=>[894]
theorem Q5:[147,Stmts,iE l]
 | .nil=>[451]
 | .cons s l=>λt h=>by rw[16,wfS s,Q5 l t h]
end
theorem Cj {t:T}(h:[3,l,t]):eY [245]+t.sz<=eY l:=by
 have hi:=[25,h];have e:l=[245]++t::l.drop (i+1):=by
  rw[[601]] at h;rw[<-[539],<-[1102],List.take_append_drop]
 have:=congrArg eY e;rw[uF,eY] at this;omega
theorem Cz(f:Wf)(l:[24])(home lv st:Nat)(w:W) {t:T}(h:[3,l,t]):bh f (l.take (i+1)) home lv st w=f t home lv st (bh f [245] home lv st w):=by
 unfold bh;rw[80]
end
section
def Va(t:T):Prop:=(t.kind= .cq->∃v lo hi,t.value= .three v lo hi)/\(t.kind= .bW->∃c l,t.value= .choice c l)
inductive rV:T->Prop
 |mk (t:T) (h:Va t) (hp:∀p∈t.parts,rV p) (hb:∀b∈t.blocks,∀p∈b,rV p):rV t
theorem rV.v {t:T}(h:rV t):Va t:=by
 cases h;assumption
theorem rV.p {t:T}(h:rV t):∀p∈t.parts,rV p:=by
 cases h;assumption
theorem rV.b {t:T}(h:rV t):∀b∈t.blocks,∀p∈b,rV p:=by
 cases h;assumption
theorem gY {k:Kd} {p:[24]} {b:[100]} {nm:[74]} {ns:[23]} {v:TV}(hv:k≠.cq/\k≠.bW)(hp:∀t∈p,rV t)(hb:∀x∈b,∀t∈x,rV t):rV (eS k p b nm ns v):= .mk _ ⟨[190,hv.1],[190,hv.2]⟩ hp hb
mutual
theorem yx:∀(e:Expr),rV (cO e)
 | .num _=>[740]
 | .quoted _=>[740]
 | .truth v=>gY (by cases v<;>decide) CM mL
 | .nothing=>[740]
 | .name x=>[740]
 | .list l=>gY [3] (okL l) mL
 | .record l=>gY [3] (okF l) mL
 | .minus e=>gY [3] (λt ht=>by rw[5,ht,yx e]) mL
 | .not e=>gY [3] (λt ht=>by rw[5,ht,yx e]) mL
 | .bin o x y=>gY (by cases o<;>decide) (λt ht=>by simp only[List.mem_cons,List.not_mem_nil,or_false] at ht;rcases ht with rfl|rfl;rw[2,yx x,yx y]) mL
 | .pick c x y=>gY [3] (λt ht=>by simp only[List.mem_cons,List.not_mem_nil,or_false] at ht;rcases ht with rfl|rfl|rfl;rw[2,yx c,yx x];·exact yx y) mL
 | .call f l=>gY [3] (λt ht=>by rcases List.mem_cons.mp ht with rfl|ht;rw[2,yx f,okL l t ht]) mL
 | .index l i=>gY [3] (λt ht=>by simp only[List.mem_cons,List.not_mem_nil,or_false] at ht;rcases ht with rfl|rfl;rw[2,yx l,yx i]) mL
 | .field r _=>gY [3] (λt ht=>by rw[5,ht,yx r]) mL
 | .prim p l=>gY (by cases p<;>decide) (okL l) mL
 | .fn own ps s=>gY [3] CM (λx hx=>by rw[5,hx,M1 s])
theorem okL:∀(l:Exprs),∀t∈xu l,rV t
 | .nil=>[451]
 | .cons e l=>λt h=>by rw[16,yx e,okL l t h]
theorem okF:∀(l:Fields),∀t∈HD l,rV t
 | .nil=>[451]
 | .cons _ e l=>λt h=>by rw[16,yx e,okF l t h]
theorem okS:∀(s:Stmt),rV (lq s)
 | .leta x e=>gY [3] (λt ht=>by rw[5,ht,yx e]) mL
 | .seta x e=>gY [3] (λt ht=>by rw[5,ht,yx e]) mL
 | .way w e=>gY (by cases w<;>decide) (λt ht=>by rw[5,ht,yx e]) mL
 | .iff c x=>gY [3] (λt ht=>by rw[5,ht,yx c]) (λb hb=>by rw[5,hb,M1 x])
 | .iffElse c x y=>gY [3] (λt ht=>by rw[5,ht,yx c]) (λb hb=>by simp only[List.mem_cons,List.not_mem_nil,or_false] at hb;rcases hb with rfl|rfl;rw[2,M1 x,M1 y])
 | .while_ c x=>gY [3] (λt ht=>by rw[5,ht,yx c]) (λb hb=>by rw[5,hb,M1 x])
 | .for x e l=>gY [3] (λt ht=>by rw[5,ht,yx e]) (λb hb=>by rw[5,hb,M1 l])
 | .slider x v lo hi=> .mk _ ⟨λ_=>⟨v,lo,hi,rfl⟩,[222]⟩ CM mL
 | .choice x v l=> .mk _ ⟨λz=>(by cases z),λ_=>⟨v,l,rfl⟩⟩ CM mL
theorem M1:∀(l:Stmts),∀t∈iE l,rV t
 | .nil=>[451]
 | .cons s l=>λt h=>by rw[16,okS s,M1 l t h]
end
def iB(N:Nat)(w:W):Prop:=∀v∈w.cE,Va v.node/\v.node.sz<=N
theorem PQ {l:[100]} {b:[24]}(h:b∈l):eY b<=iN l:=by induction l with
 |nil=>cases h
 |cons a r ih=>
  rw[iN];rcases List.mem_cons.mp h with rfl|h
  ·omega
  ·rw[0,ih h]
theorem QY(t:T):[1045]:=by
 cases t;rw[T.sz];rfl
theorem Uo {N:Nat} {w:W} {t:T} {lv st:Nat}(h:iB N w)(ho:Va t)(hs:t.sz<=N):iB N [73]:=λv hv=>by
 rcases List.mem_append.mp hv with hv|hv
 ·exact h v hv
 ·rw[5,hv,⟨ho,hs⟩]
section
variable {N:Nat} {f:Wf}(hf:∀t home lv st w,rV t->t.sz<=N->iB N w->iB N [645])
include hf
theorem pj(home lv st:Nat):∀(l:[24]) (w:W),[448,bh f l home lv st w]
 | [],w,_,_,h=>h
 |t::r,w,ho,hs,h=>by
  rw[eY] at hs;exact pj home lv st r [645] [990] [2] (hf t home lv st w [353,t] [2] h)
theorem wR(l:[24])(home lv st:Nat)(nums:[30])(w:W)(ho:∀t∈l,rV t)(hs:eY l<=N)(h:iB N w):iB N [1303]:=pj hf home lv st l [285] ho hs h
theorem yT(lv st:Nat):∀(bs:[100]) (w:W),(∀b∈bs,∀t∈b,rV t)->iN bs<=N->iB N w->iB N (fh f bs lv st w)
 | [],w,_,_,h=>h
 |l::r,w,ho,hs,h=>by
  rw[iN] at hs;exact yT lv st r [1017] [990] [2] (wR hf l w.met lv st [] w.block [353,l] [2] h)
omit hf in theorem yU(lv home st:Nat):[296,iB N w->iB N [794]]
 | [],w,h=>h
 |x::r,w,h=>yU lv home st r [260] h
omit hf in theorem Um(own:[74])(lv home st:Nat)(w:W)(h:iB N w):iB N [795]:=by cases own with
 |none=>exact h
 |some x=>exact h
theorem P0(t:T)(home lv st:Nat)(w:W)(ho:rV t)(hs:t.sz<=N)(h:iB N w):iB N (jA f t home lv st w):=by
 have e:=QY t;have h0:=Uo (lv:=lv) (st:=st) h ho.v hs;have hh:∀x∈[835],rV x:=by cases hb:t.blocks with
  |nil=>
   intro x hx;cases hx
  |cons b r=>
   intro x hx;exact ho.b b (by rw[hb];simp) x hx
 have hz:eY [835]<=N:=by cases hb:t.blocks with
  |nil=>exact[33]
  |cons b r=>
   have:=PQ (l:=t.blocks) (b:=b) (by rw[hb];simp);show eY b<=N;omega
 unfold jA;cases hk:iq t.kind with
  |some k=>exact[421,h0]
  |none=>
   dsimp only;split
   ·exact wR hf _ _ _ _ _ _ hh hz [421,h0]
   ·split
    ·exact wR hf _ _ _ _ _ _ hh hz (yU _ _ _ _ _ (Um _ _ _ _ _ h0))
    ·refine yT hf lv st t.blocks _ ho.b [2] [421,?_];unfold nR;rw[14,h0,h0]
end
theorem Q3 {N:Nat}:[474,rV t->t.sz<=N->iB N w->iB N [975]]
 |0,t,home,lv,st,w,_,_,h=>h
 |n+1,t,home,lv,st,w,ho,hs,h=>P0 (Q3 n) t home lv st w ho hs h
theorem Gh {N:Nat}(n:Nat):∀(l:[24]) (st:Nat) (w:W),[448,eL n st l w]
 | [],_,w,_,_,h=>h
 |t::r,st,w,ho,hs,h=>by
  rw[eY] at hs;exact Gh n r (st+1) (wN n t 0 0 st w) [990] [2] (Q3 n t 0 0 st w [353,t] [2] h)
theorem ME(N:Nat):iB N W.start:=λv hv=>by cases hv
theorem HA {α:Type} {m ks:[34]}(hm:m.Nodup)(he:∀k,k∈m↔k∈ks):m.length<ks.length↔¬ks.Nodup:=by
 have h1:m.length<=ks.length:=[271,λk hk=>(he k).mp hk];constructor
 ·intro hl hn;rw[0,List.Nodup.length_le_of_subset hn λk hk=>(he k).mpr hk]
 ·intro hn;have gen:∀(ks:[34]),¬ks.Nodup->∃A x B,ks=A++x::B/\x∈A:=by
   intro ks;induction ks with
    |nil=>
     intro h;exact absurd List.nodup_nil h
    |cons a r ih=>
     intro h;rw[List.nodup_cons] at h;rcases Classical.em (a∈r) with ha|ha
     ·obtain⟨A,B,e⟩:=List.append_of_mem ha;exact⟨a::A,a,B,by rw[e];rfl,List.mem_cons_self⟩
     ·obtain⟨A,x,B,e,hx⟩:=ih λhr=>h ⟨ha,hr⟩;exact⟨a::A,x,B,by rw[e];rfl,[19,hx]⟩
  obtain⟨A,x,B,rfl,hx⟩:=gen ks hn;have hs:m ⊆A++B:=λk hk=>by
   have:=(he k).mp hk;rcases List.mem_append.mp this with z|z
   ·exact[95,z]
   ·rcases List.mem_cons.mp z with rfl|z;rw[2,[95,hx],[1167]]
  have:=[271,hs];simp only[List.length_append,List.length_cons] at this ⊢;omega
theorem Iy(l:[23]):twice l=true↔¬l.Nodup:=by induction l with
 |nil=>simp[twice]
 |cons a r ih=>
  rw[twice,Bool.or_eq_true,ih,List.nodup_cons];simp only[List.contains_iff_mem];constructor
  ·rintro(h|h) ⟨h1,h2⟩;rw[2,h1 h,h h2]
  ·intro h;rcases Classical.em (a∈r) with z|z;rw[2,[150],.inr λq=>h ⟨z,q⟩]
theorem uN:∀(r l:[36]) (p:Pl),again l (r++[p])=again l r++(if(l++r).any [1342] then[p] else[])
 | [],l,p=>by
  show again l [p]=[]++_;rw[again,List.append_nil,List.nil_append];rfl
 |x::r,l,p=>by
  rw[List.cons_append,again,again,uN r (l++[x]) p,List.append_assoc,List.singleton_append];rw[18]
end
end CN
end
section
namespace L2
open PySem PySem.Spec PyProof.Rows
abbrev Key:=Sum Int Str
def vz:Key->Value->Bool
 | .inl k,v=>Value.isInt k v
 | .inr x,v=>Value.isStrOf x v
def Zj(w:World):Key->Int
 | .inl k=>hashInt k
 | .inr x=>hashStr w x
theorem fe:∀ {k:Key} {v:Value},vz k v=true->(∃i t,k=Sum.inl i/\v=[109,i])\/(∃x t,k=Sum.inr x/\v=[744])
 | .inl i,v,h=>by
  obtain⟨t,e⟩:=Value.isInt_shape (k:=i) (v:=v) h;exact .inl [21,i,t,e]
 | .inr x,v,h=>by
  obtain⟨t,e⟩:=Value.isStrOf_shape (x:=x) (v:=v) h;exact[6,x,t,rfl,e]
theorem Hs(i:Int)(t:Tok):vz (.inl i) (.int i t)=true:=by simp[vz,Value.isInt]
theorem Ht(x:Str)(t:Tok):vz (.inr x) (.str x t)=true:=by simp[vz,Value.isStrOf]
theorem SV(a b:Int):[2,[193,a],Sum.inl b]=(a==b):=by
 by_cases e:a=b
 ·subst e;simp
 ·have h:¬[193,a]=Sum.inl b:=λq=>e (Sum.inl.inj q);rw[0,[837],(beq_eq_false_iff_ne.mpr e).symm]
theorem SY(a b:Str):[2,[939],Sum.inr b]=[2,a,b]:=by
 by_cases e:a=b
 ·subst e;simp
 ·have h:¬[939]=Sum.inr b:=λq=>e (Sum.inr.inj q);rw[[837],[908]]
theorem SW(a:Int)(b:Str):[8,[2,[193,a],Sum.inr b]]:=[1168]
theorem SX(a:Str)(b:Int):[8,[2,[939],Sum.inl b]]:=[1168]
def bw(prog:Program)(w:World):PySem.KeyKind prog w Key where
 is:=vz
 hash:=Zj w
 inj:=λv a b ha hb=>by
  rcases fe ha with⟨i,t,rfl,rfl⟩|⟨x,t,rfl,rfl⟩
  ·rcases fe hb with⟨j,u,rfl,e⟩|⟨y,u,rfl,e⟩
   ·injection e with e1 _;rw[e1]
   ·exact nomatch e
  ·rcases fe hb with⟨j,u,rfl,e⟩|⟨y,u,rfl,e⟩
   ·exact nomatch e
   ·injection e with e1 _;rw[e1]
 byValue:=λk v h=>by rcases fe h with⟨i,t,rfl,rfl⟩|⟨x,t,rfl,rfl⟩<;>rfl
 pyHash:=λhv h=>by
  rcases fe hv with⟨i,t,rfl,rfl⟩|⟨x,t,rfl,rfl⟩;rw[2,wpAny_pyHash_int h,wpAny_pyHash_str h]
 eqBool:=λhu hv h=>by
  rcases fe hu with⟨i,t,rfl,rfl⟩|⟨x,t,rfl,rfl⟩
  ·rcases fe hv with⟨j,u,rfl,rfl⟩|⟨y,u,rfl,rfl⟩
   ·rw[SV] at h;exact wpAny_eqBool_int h
   ·rw[SW] at h;exact SeqAt.EqAt.int_str i t y u _ _ _ _ h
  ·rcases fe hv with⟨j,u,rfl,rfl⟩|⟨y,u,rfl,rfl⟩
   ·rw[SX] at h;exact SeqAt.EqAt.str_int x t j u _ _ _ _ h
   ·rw[SY] at h;exact wpAny_eqBool_str h
 «strs»:=λk x t v h=>by
  rcases fe h with⟨i,u,rfl,e⟩|⟨y,u,rfl,e⟩
  ·exact nomatch e
  ·injection e with e1 _;subst e1;cases v<;>rfl
theorem Bp(prog:Program)(w:World)(i:Int)(t:Tok):(bw prog w).is (.inl i) (.int i t)=true:=Hs i t
theorem Bq(prog:Program)(w:World)(x:Str)(t:Tok):(bw prog w).is (.inr x) (.str x t)=true:=Ht x t
end L2
namespace L2
open PySem PySem.Spec PyProof.Rows
inductive V where
 |cg|bl (b:Bool)|int (i:Int)|str (x:Str)|Ar (b:Array UInt8)|WR (b:UInt64)|ref (a:Addr)|ty (n:String)
 deriving DecidableEq
def RelV:[4,V,Value]
 | .cg,u=>u=Value.none
 | .bl b,u=>u=Value.bool b
 | .int i,u=>∃t,u=[109,i]
 | .str x,u=>∃t,u=[744]
 | .Ar b,u=>∃t,u=Value.bytes b t
 | .WR b,u=>∃t,u=Value.float b t
 | .ref a,u=>u=[128]
 | .ty n,u=>u=Value.type n
abbrev Vals:[4,[13],[6]]:=Paired RelV
theorem Vals.length {xs:[13]} {us:[6]}(r:[185]):xs.length=us.length:=Paired.length r
theorem Vals.get:∀ {xs:[13]} {us:[6]} {i:Nat} {x:V},([185])->([206])->∃u,[3,us,u]/\[360]
 |_,_,_,_,.nil,e=>[410]
 |_,_,0,_,.cons r _,e=>by
  simp at e;rw[5,[9,r]]
 |_,_,i+1,x,.cons _ t,e=>by
  obtain⟨u,h1,h2⟩:=Vals.get (i:=i) (x:=x) t [246];rw[0,u,[838],h2]
theorem Vals.append:∀ {xs ys:[13]} {us ws:[6]},([185])->Vals ys ws->Vals (xs++ys) (us++ws)
 |_,_,_,_,.nil,s=>s
 |_,_,_,_,.cons r t,s=> .cons r (Vals.append t s)
theorem Vals.take:∀ {xs:[13]} {us:[6]} (n:Nat),([185])->Vals (xs.take n) (us.take n)
 |_,_,0,_=> .nil
 |_,_,_+1,.nil=> .nil
 |_,_,n+1,.cons r t=> .cons r (Vals.take n t)
theorem Vals.drop:∀ {xs:[13]} {us:[6]} (n:Nat),([185])->Vals (xs.drop n) (us.drop n)
 |_,_,0,r=>r
 |_,_,_+1,.nil=> .nil
 |_,_,n+1,.cons _ t=>Vals.drop n t
def lQ:[4,[71],[174]]
 |some v,some u=>[116]
 |none,none=>True
 |_,_=>False
def KV {κ:Type}:[4,[295],[234,κ]]:=Paired λ(p:κ×V) (q:κ×Value)=>p.1=q.1/\RelV p.2 q.2
def kV:Key->V
 | .inl i=>[112]
 | .inr x=> .str x
inductive HO where
 |lst (xs:List V)
 |tup (xs:List V)
 |dK (cF:List (Key×V))|dT (cF:List (List Key×V))
 |set (S:Int->Bool) (n:Nat)
 |ins (C dx:Addr) (fs:List (Str×V))
 |own (x:Addr)
 |xd (fs:List (Str×V))
 |met (f x:Addr)
 |rng (lo hi:Int)
 |xV (o:Obj) (u:HO)
 |Q2 (ps:Array Value)
 |ext (φ:Heap->Prop)
abbrev Hp:=Addr->Option HO
def upd(H:Hp)(a:Addr)(o:HO):Hp:=λb=>[4,b,a,some o,H b]
theorem ag {H:Hp} {a:Addr} {o:HO}:[3,upd H a o a]:=by
 unfold upd;rw[17,rfl]
theorem aj {H:Hp} {a b:Addr} {o:HO}(h:b≠a):upd H a o b=H b:=by
 unfold upd;rw[[48]]
theorem dw {H:Hp} {a b:Addr} {o u:HO}(h:[3,H a])(h':[28,H b])(d:o≠u):a≠b:=by
 intro e;subst e;rw[h] at h';exact d (Option.some.inj h')
theorem aq {H:Hp} {a b:Addr} {o:HO}(h:[3,H a])(h':[75]):a≠b:=by
 intro e;subst e;rw[h] at h';cases h'
section
variable(P:Program)(w:World)
def eC(H:Hp)(h:Heap)(a:Addr):[293]
 | .lst xs=>[184,∃(bo:[6]) (n:Nat),[375]/\[118,[956]]]
 | .tup xs=>[184,∃bo:[6],[375]/\IsTup h a bo.toArray]
 | .dK cF=>[303,[1026]]
 | .dT cF=>[303,∃xs:[102],[322,[1430]]/\∃o es ep,[88]=some o/\o.ExactDict/\[480,xs.map (entryOfKey [191])]]
 | .set S n=>h.SetOf (intKind P w) a S n
 | .ins C dx fs=>[5,H dx,.own a,fs.length<=1000,dx≠a/\[88]=some (PySem.W.instObj C dx)/\∃mA,h.Ns1 dx mA/\[991]/\PySem.Within mA (fs.map [44])]
 | .own _=>∃o,[446]
 | .xd fs=>∃mA,h.Ns1 a mA/\[991]
 | .rng lo hi=>∃t u v,[118,[45,"range",.fields #[.int lo t,.int hi u,.int 1 v]]]
 | .xV o u=>[88]=some o/\eC H h a u
 | .Q2 ps=>[118,[940]]
 | .met f x=>[88]=some [365,[54]]
 | .ext φ=>φ h/\(∃o,[446])/\∀h1 h2:Heap,φ h1->(∀o,[3,h1.get? a]->[3,h2.get? a])->φ h2
def lY(H:Hp)(h:Heap):Prop:=∀a o,[3,H a]->[725]
end
section
variable {P:Program} {w:World} {H H':Hp} {h h':Heap} {a:Addr} {o:HO}
theorem eC.lt(x:[725]):a<h.objs.size:=by cases o with
 |lst xs=>
  obtain⟨_,_,_,_,e⟩:=x;exact[72]
 |tup xs=>
  obtain⟨_,_,_,p⟩:=x;exact p.lt
 |dK cF=>
  obtain⟨_,_,_,_,o,_,_,e,_⟩:=x;exact[72]
 |dT cF=>
  obtain⟨_,_,_,_,o,_,_,e,_⟩:=x;exact[72]
 |set S n=>
  obtain⟨o,_,_,_,e,_⟩:=x;exact[72]
 |ins C dx fs=>
  obtain⟨_,_,_,e,_⟩:=x;exact[72]
 |own y=>
  obtain⟨_,e⟩:=x;exact[72]
 |xd fs=>
  obtain⟨_,⟨_,_,_,e,_⟩,_⟩:=x;exact[72]
 |rng lo hi=>
  obtain⟨_,_,_,e⟩:=x;exact[72]
 |xV ob u=>
  obtain⟨e,_⟩:=x;exact[72]
 |Q2 ps=>exact Heap.lt_size (show[118,_] from x)
 |met f y=>exact Heap.lt_size (show[118,_] from x)
 |ext φ=>
  obtain⟨_,⟨_,e⟩,_⟩:=x;exact[72]
theorem Paired.cf {α β:Type} {F G:[606]}:∀ {l₁:[34]} {l₂:[286]},Paired F l₁ l₂->(∀a b,F a b->G a b)->Paired G l₁ l₂
 |_,_,.nil,_=> .nil
 |_,_,.cons r t,f=> .cons (f _ _ r) (Paired.cf t f)
theorem eC.Cf(x:[725])(k:∀b u,(b=a\/[22,.own a])->[28,[177]]->[28,[89]]) (ho:∀b,[22,.own a]->[8,b,.own a])(ht:[1218]):eC P w H' h' a o:=by induction o with
 |lst xs=>
  obtain⟨z,bo,n,r,e⟩:=x;exact⟨z,bo,n,r,[194]⟩
 |tup xs=>
  obtain⟨z,bo,r,ob,e,c⟩:=x;exact⟨z,bo,r,ob,[194],c⟩
 |dK cF=>
  obtain⟨z,y,vs,r,ob,es,ep,e,c⟩:=x;exact⟨z,y,vs,r,ob,es,ep,[194],c⟩
 |dT cF=>
  obtain⟨z,y,xs,r,ob,es,ep,e,c⟩:=x;exact⟨z,y,xs,Paired.cf r λp q z=>[1348],ob,es,ep,[194],c⟩
 |set S n=>
  obtain⟨ob,es,ep,t,e,c⟩:=x;exact⟨ob,es,ep,t,[194],c⟩
 |ins C dx fs=>
  obtain⟨d,z,ne,e,mA,⟨od,es,ep,e2,c⟩,r⟩:=x;exact⟨ho _ d,z,ne,[194],mA,⟨od,es,ep,k _ _ (.inr d) e2,c⟩,r⟩
 |own y=>
  obtain⟨ob,e⟩:=x;rw[3,ob,[194]]
 |xd fs=>
  obtain⟨mA,⟨od,es,ep,e,c⟩,r⟩:=x;rw[0,mA,⟨od,es,ep,[194],c⟩,r]
 |rng lo hi=>
  obtain⟨t,u,v,e⟩:=x;rw[0,t,u,v,[194]]
 |xV ob u ih=>
  obtain⟨e,q⟩:=x;rw[3,[194],ih q]
 |Q2 ps=>
  have e:[118,[940]]:=x;show[540]=some [940];exact k a _ [38] e
 |met f y=>
  have e:[88]=some [365,.ref y]:=x;show[540]=some [365,.ref y];exact k a _ [38] e
 |ext φ=>
  obtain⟨p,⟨o,e⟩,st⟩:=x;rw[0,st _ _ p λo q=>k _ _ [38] q,⟨o,[194]⟩,st]
theorem lY.lt(x:[79])(e:[3,H a]):a<h.objs.size:=(x a o e).lt
theorem lY.fresh(x:[79])(e:[895]):[5,a]:=by cases q:H a with
 |none=>rfl
 |some u=>exact absurd (Nat.lt_of_lt_of_le (x.lt q) e) [230]
theorem lY.kept(x:[79])(k:[723]):lY P w H h':=λa o e=>(x a o e).Cf (λb u _ q=>k b u q) (λ_ q=>q) [541]
theorem lY.laid(x:[79])(k:[723])(hp:[895])(new:eC P w [47,a] h' a o):lY P w [47,a] h':=λb u e=>by
 have hn:=x.fresh hp;by_cases hb:b=a
 ·subst hb;rw[ag] at e;cases e;exact new
 ·rw[[28]] at e;exact(x b u e).Cf (λc v _ q=>k c v q) (λc q=>by rw[0,aj (aq q hn),q]) λc xs q=>by rw[0,aj (aq q hn),q]
end
def Rd(H:Hp)(a:Addr)(u:HO):Prop:=[28,H a]\/∃o,[29,.xV o u]
theorem Rd.ok {P:Program} {w:World} {H:Hp} {h:Heap} {a:Addr} {u:HO}(r:Rd H a u)(x:[79]):eC P w H h a u:=by
 rcases r with r|⟨o,r⟩
 ·exact x a u r
 ·obtain⟨_,q⟩:=x a _ r;exact q
def Vu:Option HO->Prop
 |some (.lst _)=>True
 |some (.dK _)=>True
 |some (.dT _)=>True
 |some (.set _ _)=>True
 |some (.ins _ _ _)=>True
 |some (.ext _)=>True
 |_=>False
section
variable {P:Program} {w:World} {H:Hp} {h h':Heap} {x e:Addr} {o':HO}
theorem lY.write(ok:[79])(mu:Vu (H x))(he:[999])(k:[407,[177]])(UQ:[941]) (new:eC P w (upd H x o') h' x o'):lY P w (upd H x o') h':=λb u q=>by
 have Zt:∀c y,[5,c,.own y]->c≠x:=λc y r z=>by
  subst z;rw[r] at mu;exact mu
 have ntup:∀c xs,[5,c,[119]]->c≠x:=λc xs r z=>by
  subst z;rw[r] at mu;exact mu
 by_cases hb:b=x
 ·subst hb;rw[ag] at q;cases q;exact new
 ·rw[[28]] at q;by_cases Sf:b=e
  ·have q':[22,.own x]:=by
    rcases he with z|z
    ·exact absurd (Sf.trans z) hb
    ·rw[Sf];exact z
   rw[q] at q';cases q';obtain⟨v,hv⟩:=UQ;rw[3,v,(by rw[Sf];exact hv)]
  ·refine(ok b u q).Cf (λc v hc r=>k c v ?_ r) (λc r=>by rw[0,aj (Zt c b r),r]) λc xs r=>by rw[0,aj (ntup c xs r),r]
   rcases hc with rfl|hc
   ·exact Sf
   ·rintro rfl;rcases he with z|z
    ·exact Zt c b hc z
    ·rw[hc] at z;cases z;exact hb rfl
end
structure Un(fs ex:List Addr)(H H':Hp)(h h':Heap):Prop where
 keep:∀b o,h.get? b=some o->H b=none->b∉fs->b∉ex->h'.get? b=some o
 slot:∀b o,h.get? b=some o->H b=none->b∈fs->b∉ex->∃sl,h'.get? b=some {o with slots:=sl}
 free:∀b o,h.get? b=some o->H b=none->b∉ex->H' b=none
 there:∀b o,h.get? b=some o->b∉ex->∃o',h'.get? b=some o'
 xF:∀b xs,H b=some (.tup xs)->H' b=some (.tup xs)
 u7:∀b o u,H b=some (.xV o u)->H' b=some (.xV o u)
 xE:∀b ps,H b=some (.Q2 ps)->∃more,H' b=some (.Q2 (ps++more))
section
variable {fs fs' ex ex':[14]} {H H1 H2:Hp} {h h1 h2 h':Heap} {a x e:Addr} {o:HO}
theorem Un.any(u:Un fs ex H H1 h h1) {b:Addr} {ob:Obj}(q:[177]=some ob)(n:[75])(hx:b∉ex):∃sl,[425]=some {ob with slots:=sl}:=by
 by_cases hb:b∈fs;rw[2,u.slot b ob q n hb hx,⟨ob.slots,u.keep b ob q n hb hx⟩]
theorem Un.kept(k:[723]):Un fs ex H H h h':=⟨λb ob q _ _ _=>k b ob q,λb ob q _ _ _=>⟨ob.slots,k b ob q⟩,λ_ _ _ n _=>n,λb ob q _=>⟨ob,k b ob q⟩,[541],λ_ _ _ q=>q,λ_ ps q=>⟨#[],by rw[q];simp⟩⟩
theorem Un.refl:Un fs ex H H h h:=Un.kept [541]
theorem Un.laid(k:[723])(hp:[895])(hn:[5,a]):Un fs ex H [47,a] h h' where
 keep:=λb u q _ _ _=>k b u q
 slot:=λb u q _ _ _=>⟨u.slots,k b u q⟩
 free:=λb u q n _=>by rw[0,aj [130,Heap.lt_size q,hp],n]
 there:=λb u q _=>⟨u,k b u q⟩
 xF:=λb xs q=>by rw[0,aj (aq q hn),q]
 u7:=λb u xs q=>by rw[0,aj (aq q hn),q]
 xE:=λb ps q=>⟨#[],by rw[aj (aq q hn),q];simp⟩
theorem Un.write(mu:Vu (H x))(he:[999])(k:[407,[177]])(UQ:[941]):Un fs ex H [47,x] h h':=by
 have hx:∀b,([75])->b≠x:=λb n z=>by
  subst z;rw[n] at mu;exact mu
 have hb:∀b,([75])->b≠e:=λb n z=>by
  subst z;rcases he with r|r
  ·exact hx b n r
  ·rw[n] at r;cases r
 have hm:∀b u,[28,H b]->¬Vu (some u)->b≠x:=λb u q nm z=>by
  subst z;rw[q] at mu;exact nm mu
 refine⟨λb u q n _ _=>k b u (hb b n) q,λb u q n _ _=>⟨u.slots,k b u (hb b n) q⟩,λb u q n _=>by rw[0,aj (hx b n),n],λb u q _=> ?_,λb xs q=>by rw[0,aj [1027],q],λb u xs q=>by rw[0,aj [1027],q],λb ps q=>⟨#[],by rw[aj [1027],q];simp⟩⟩;by_cases Sf:b=e
 ·subst Sf;exact UQ
 ·exact⟨u,k b u Sf q⟩
end
def trk(h:Heap)(H:Hp):[14]:=(List.range h.objs.size).filter λa=>(H a).isSome
def zq(h:Heap)(H:Hp):Heap:=PySem.W.hideAll h (trk h H)
theorem Hg(h:Heap)(H:Hp):(zq h H).objs.size=h.objs.size:=PySem.W.hideAll_size _ _
theorem Kg {h:Heap} {H:Hp} {b:Addr} {o:Obj}(e:[363])(n:[75]):[3,(zq h H).get? b]:=[121,e,(λhm=>by have q:[92,H b]:=(List.mem_filter.mp hm).2;rw[n] at q;simp at q)]
theorem OK {h:Heap} {H:Hp} {b:Addr} {o:Obj}(e:[3,(zq h H).get? b]):[177]=some o/\[75]:=by
 have e':[363]:=PySem.W.of_hideAll (trk h H) e;rw[7,e',?_];cases q:H b with
  |none=>rfl
  |some x=>
   have hm:b∈trk h H:=List.mem_filter.mpr ⟨List.mem_range.mpr (Heap.lt_size e'),by simp[q]⟩;have z:(zq h H).get? b=none:=PySem.W.hideAll_none (trk h H) hm;rw[z] at e;cases e
def Nb(g h:Heap)(L:Addr):[17]:=(List.range h.objs.size).filterMap λa=>if a=L\/[92,g.get? a] then none else[88].map λo=>(a,o)
def rest(g h:Heap)(L d:Addr):[17]:=(Nb g h L).filter λp=>decide (p.1≠d)
end L2
namespace L2
open PySem PySem.Spec PyProof.Rows
variable {g':[839]} {t' i:Nat} {d':Drawn} {x:Str} {M:Model} {A:Around} {E:[27]} {u:Value} {Q:[26,Unit]}
structure Mod(K:PySem.W.Frag)(mg:Str->Option Value)(base:Heap):Prop where
 MY:K.In base
 glob:base.Ns mainGlobals mg
 blt:∃mb,base.Ns builtinsNs mb/\∀x:Str,x≠ "__name__"->mb x=bootBuiltins x
 nolimit:base.NoLimit
structure Cx where
 prog:Program
 w:World
 K:PySem.W.Frag
 mg:Str->Option Value
 base:Heap
 A:Around
 N:List Str
 xB:Shared
 Uv:Hp
 env:Env
 outer:List Env
 stack:List Env
 ex:List Addr
 fn:Str->Bool
 calm:Bool
 pn:List (Addr×Obj)
 xe:Value->Shared->Prop
def nW(l:[123]):[14]:=l.filterMap (·.frame)
abbrev Cx.fs(X:Cx):[14]:=nW X.outer
def Rj(sc:Scope)(x:Str):Prop:=[227,[426]]\/[107,[426],[426]]
def Loc(sc:Scope)(x:Str):Prop:=[227,[426]]\/[426]=some .cell
def Look(env:Env)(h:Heap)(m:[16])(x:Str)(u:Value):Prop:=(env.kindOf x=some .local/\[28,m x])\/([107,env.kindOf x,env.kindOf x]/\∃c,env.cells.lookup x=some c/\h.IsCell c (some u))
structure Cx.Ok(X:Cx):Prop where
 mod:Mod X.K X.mg X.base
 kind:X.env.scope.kind= .function
 glob:X.env.globals=mainGlobals
 blt:X.env.builtins=builtinsNs
 above:X.xB.heap.objs.size<=X.env.locals
 inj:∀x y c,X.env.cells.lookup x=some c->X.env.cells.lookup y=some c->x=y
 has:∀x,(X.env.kindOf x=some .cell\/X.env.kindOf x=some .free)->∃c,X.env.cells.lookup x=some c
 UA:∀x c,X.fn x=true->X.env.cells.lookup x=some c->X.xB.heap.objs.size<=c
 hd:X.calm=true->X.A.handled=none
 frames:X.A.frames=some X.stack
 gI:X.stack=X.outer\/(X.stack=X.env::X.outer/\X.env.frame=some X.env.locals)
 VE:∀b∈X.ex,b≠X.env.locals/\∀x c,X.env.cells.lookup x=some c->c≠b
 bs:∀b o,X.base.get? b=some o->X.xB.heap.get? b=some o/\X.Uv b=none
 I0:X.base.objs.size<=X.xB.heap.objs.size
 HB:∀b o,X.base.get? b=some o->b∉X.ex
 G1:∀b∈X.ex,b∉X.fs
 qR:X.xB.heap.FunFrames X.base X.outer
 NM:∀b∈X.fs,X.Uv b=none
structure Inv(X:Cx)(pins:List (Addr×Obj))(σ:List (Option V))(H:Hp)(s:Shared):Prop where
 ok:X.Ok
 os:s.os=X.xB.os
 bare:AllBare s.gens
 base:Un X.fs X.ex X.Uv H X.xB.heap s.heap
 loc:∃m,s.heap.Ns X.env.locals m/\∀(i:Nat) (x:Str) (v:V),X.N[i]? =some x->σ[i]? =some (some v)->Rj X.env.scope x->∃u,RelV v u/\Look X.env s.heap m x u
 cell:∀x c,X.env.cells.lookup x=some c->∃v,s.heap.IsCell c v
 free:H X.env.locals=none
 mj:∀x c,X.env.cells.lookup x=some c->H c=none
 pin:∀p∈X.pn++pins,s.heap.get? p.1=some p.2/\H p.1=none/\p.1≠X.env.locals/\p.1∉X.fs/\∀v,p.2.data≠ .cell v
 cH:lY X.prog X.w H s.heap
 len:σ.length=X.N.length
section
variable {X:Cx} {pins:[17]} {σ:List [71]} {H H':Hp} {s:Shared} {h':Heap}
theorem Cx.Ok.nofr(ok:X.Ok) {b:Addr} {o:Obj}(e:[3,X.base.get? b]):b∉X.fs:=λhb=>by
 have:=(ok.qR.mem hb).1;rw[e] at this;cases this
theorem Inv.bs(I:[9]):∀b o,[3,X.base.get? b]->[272]=some o/\[75]:=λb o e=>⟨I.base.keep b o (I.ok.bs b o e).1 (I.ok.bs b o e).2 (I.ok.nofr e) (I.ok.HB b o e),I.base.free b o (I.ok.bs b o e).1 (I.ok.bs b o e).2 (I.ok.HB b o e)⟩
theorem Inv.bk(I:[9]):∀b o,[3,X.base.get? b]->[105]:=λb o e=>(I.bs b o e).1
theorem Inv.mod(I:[9]):Mod X.K X.mg X.base:=I.ok.mod
theorem Inv.pP(I:[9]):X.K.In s.heap:=I.ok.mod.MY.keeps I.bk
theorem Inv.lt(I:Inv X pins σ H s):X.env.locals<s.heap.objs.size:=let⟨_,hn,_⟩:=I.loc;hn.lt
theorem Inv.sz(I:[9]):X.xB.heap.objs.size<=s.heap.objs.size:=Nat.le_trans I.ok.above (Nat.le_of_lt I.lt)
theorem Inv.nofs(I:[9]) {a:Addr}(h:s.heap.objs.size<=a):a∉X.fs:=λhb=>by
 obtain⟨_,o,ho,_⟩:=I.ok.qR.mem hb;exact absurd (Nat.lt_of_lt_of_le [840] (Nat.le_trans I.sz h)) [230]
theorem Inv.Rt(I:[9]):[225,c≠X.env.locals]:=λx c e z=>by
 obtain⟨v,o,ho,hd⟩:=[736];obtain⟨m,⟨o',es,ep,qL,Dx,_⟩,_⟩:=I.loc;rw[z,qL] at ho;cases ho;rw[Dx] at hd;cases hd
theorem Inv.qR(I:[9]):[354,X.outer]:=by
 have all:∀(l:[123]),(∀b∈nW l,b∈X.fs)->X.xB.heap.FunFrames X.base l->[354,l]:=by
  intro l;induction l with
   |nil=>
    intro _ _;trivial
   |cons env r ih=>
    intro hs hl;obtain⟨hk,⟨L,o,hf,hn,ho,hd⟩,hr⟩:=hl;have hL:L∈X.fs:=hs L (by unfold nW;rw[List.filterMap_cons,hf];exact List.mem_cons_self);obtain⟨sl,e⟩:=I.base.slot L o ho (I.ok.NM L hL) hL λz=>I.ok.G1 L z hL;rw[0,hk,⟨L,_,hf,hn,e,hd⟩,ih (λb hb=>hs b (by unfold nW;rw[List.filterMap_cons,hf];exact[19,hb])) hr]
 exact all X.outer (λ_ hb=>hb) I.ok.qR
theorem Inv.stack(I:[9]):[354,X.stack]:=by
 rcases I.ok.gI with e|⟨e,hf⟩
 ·rw[e];exact I.qR
 ·rw[e];obtain⟨m,hn,_⟩:=I.loc;rw[4,.cons (by rw[I.ok.kind];decide) hf hn ?_ I.qR,Heap.get?_none_of_le [272,I.ok.above]]
theorem Inv.Ey(I:[9]):∀b∈[240],b∈X.env.locals::X.fs:=λb hb=>by
 rcases I.ok.gI with e|⟨e,hf⟩
 ·rw[e] at hb;exact[19,hb]
 ·rw[e] at hb;unfold nW at hb;rw[List.filterMap_cons,hf] at hb;exact hb
theorem Inv.uE(I:[9]):∀b∈[240],[75]:=λb hb=>by
 rcases List.mem_cons.mp (I.Ey b hb) with e|hb
 ·rw[e];exact I.free
 ·obtain⟨_,o,ho,_⟩:=I.ok.qR.mem hb;exact I.base.free b o ho (I.ok.NM b hb) λz=>I.ok.G1 b z hb
theorem Inv.step {ch:[14]}(I:[9]) (MU:[1066]) (keep:∀b o,([516])->b∉X.fs->b∉ch->([105])->([75])->[3,[89]]) (slot:∀b o,([516])->b∈X.fs->b∉ch->([105])->([75])->[968])(free:∀b o,b∉ch->([105])->([75])->[337]) (there:∀b o,b∉ch->([105])->∃o',[89]=some o') (xF:[1218])(u7:∀b o u,[22,.xV o u]->[8,b,.xV o u])(xE:∀b ps,[22,.Q2 ps]->∃more,[8,b,.Q2 (ps++more)]) (ns:∀m,s.heap.Ns X.env.locals m->h'.Ns X.env.locals m)(cH:lY X.prog X.w H' h')(hg:AllBare g'):[1415]:=by
 have neL:∀b o,[3,X.xB.heap.get? b]->[516]:=λb o e=>[738];have neC:∀b o,[3,X.xB.heap.get? b]->b∉X.ex->b∉ch:=λb o e hx hb=>by
  rcases(MU b hb).1 with z|z;rw[2,hx z,[235,Nat.lt_of_lt_of_le [72] z]]
 have cellK:[225,∀v,s.heap.IsCell c v->h'.IsCell c v]:=λx c e v ⟨o,ho,hd⟩=>by
  have Zk:c∉ch:=[1442];by_cases hc:c∈X.fs
  ·obtain⟨sl,q⟩:=slot c o (I.Rt x c e) hc Zk ho (I.mj x c e);exact[38,q,hd]
  ·exact⟨o,keep c o (I.Rt x c e) hc Zk ho (I.mj x c e),hd⟩
 refine⟨I.ok,I.os,hg,⟨[661],[661],λb o e n hx=> ?_,λb o e hx=> ?_,λb xs e=>xF b xs (I.base.xF b xs e),λb o xs e=>u7 b o xs (I.base.u7 b o xs e),λb ps e=> ?_⟩,?_,λx c e=> ?_,?_,λx c e=> ?_,[244],cH,I.len⟩
 ·exact keep b o (neL b o e) hb [782] [1061] [1046]
 ·obtain⟨sl,e1⟩:=[1062];obtain⟨Z4,e2⟩:=slot b _ (neL b o e) hb [782] e1 [1046];rw[3,Z4,e2]
 ·obtain⟨o',e1⟩:=[314,o];exact free b o' [782] e1 [1046]
 ·obtain⟨o',e1⟩:=[314,o];exact there b o' [782] e1
 ·obtain⟨m1,e1⟩:=I.base.xE b ps e;obtain⟨m2,e2⟩:=xE b _ e1;rw[3,m1++m2,(by rw[e2,Array.append_assoc])]
 ·obtain⟨m,hn,hl⟩:=I.loc;refine⟨m,ns m hn,λi x v e1 e2 e3=> ?_⟩;obtain⟨u,r,l⟩:=hl i x v e1 e2 e3;rw[6,u,r];rcases l with l|⟨k,c,e,z⟩;rw[2,.inl l,[6,k,c,e,cellK x c e _ z]]
 ·obtain⟨v,z⟩:=[736];rw[3,v,cellK x c e v z]
 ·obtain⟨m,⟨o,_,_,ho,_⟩,_⟩:=I.loc;exact free _ o (λz=>(MU _ z).2.1 rfl) ho I.free
 ·obtain⟨v,o,ho,hd⟩:=[736];exact free c o [1442] ho (I.mj x c e)
 ·rw[97];have Zk:p.1∉ch:=λz=>(MU p.1 z).2.2.2 p hp rfl;exact⟨keep p.1 p.2 ne nf Zk e n,free p.1 p.2 Zk e n,ne,nf,d⟩
theorem Inv.un(I:[9])(u:Un X.fs [] H H' s.heap h')(cH:lY X.prog X.w H' h'):[17,H',[106,t']]:=by
 obtain⟨m,⟨o,es,ep,ho,r⟩,_⟩:=id I.loc;obtain⟨sl,hL⟩:=u.any ho I.free [4];exact I.step (g':=s.gens) (d':=s.drawn) (ch:=[]) (λ_ z=>nomatch z) (λb o _ hb _ e n=>u.keep b o e n hb [4]) (λb o _ hb _ e n=>u.slot b o e n hb [4]) (λb o _ e n=>u.free b o e n [4]) (λb o _ e=>u.there b o e [4]) u.xF u.u7 u.xE (λm' hm=>by obtain⟨o',uo,Ry,qL,r'⟩:=hm;rw[ho] at qL;cases qL;exact⟨_,uo,Ry,hL,r'⟩) cH I.bare
theorem Inv.call {ch:[14]}(I:[9])(u:Un [240] ch H H' s.heap h')(cH:lY X.prog X.w H' h')(hg:AllBare g') (MU:[1066]):[1415]:=by
 obtain⟨m,⟨o,es,ep,ho,r⟩,_⟩:=id I.loc;obtain⟨sl,hL⟩:=u.any ho I.free λz=>(MU _ z).2.1 rfl;exact I.step (ch:=ch) MU (λb o hL hb hc e n=>u.keep b o e n (λz=>(List.mem_cons.mp (I.Ey b z)).elim hL hb) hc) (λb o _ _ hc e n=>u.any e n hc) (λb o hc e n=>u.free b o e n hc) (λb o hc e=>u.there b o e hc) u.xF u.u7 u.xE (λm' hm=>by obtain⟨o',uo,Ry,qL,r'⟩:=hm;rw[ho] at qL;cases qL;exact⟨_,uo,Ry,hL,r'⟩) cH hg
theorem Inv.turned {it:Addr}(I:[9])(k:∀b o,b≠it->([105])->[3,[89]])(hn:[5,it])(hL:it≠X.env.locals) (h1:it∈X.ex\/X.xB.heap.objs.size<=it)(h2:[225,c≠it])(h3:∀p∈X.pn++pins,p.1≠it):[17,H,[106,t']]:=by
 have Zo:∀b u,[28,H b]->b≠it:=λb u e z=>by
  rw[z,hn] at e;cases e
 refine I.step (g':=s.gens) (d':=s.drawn) (ch:=[it]) [279] (λb o _ _ hc e _=>[1003]) [441,[1003]] (λ_ _ _ _ n=>n) (λb o hc e=>⟨o,[1003]⟩) (λ_ _ e=>e) (λ_ _ _ e=>e) (λb ps e=>⟨#[],by rw[e];simp⟩) (λm hm=> ?_) (λb u e=> ?_) I.bare
 ·have e:b=it:=[96];subst e;rw[0,h1,hL,h2,h3]
 ·rw[54,Ne.symm hL]
 ·refine(I.cH b u e).Cf (λc v hc q=>k c v ?_ q) (λ_ q=>q) [541];rcases hc with z|z
  ·rw[z];exact Zo b u e
  ·exact Zo c _ z
theorem Inv.tok(I:[9])(t:Nat):[17,H,{s with toks:=t}]:=I.un (h':=s.heap) (t':=t) Un.refl I.cH
theorem Inv.kept {t':Nat}(I:[9])(k:[1139]):[17,H,[106,t']]:=I.un (Un.kept k) (I.cH.kept k)
theorem Inv.laid {a:Addr} {o:HO} {t':Nat}(I:[9])(k:[1139])(hp:s.heap.objs.size<=a)(new:eC X.prog X.w [47,a] h' a o):[65,[47,a],[106,t']]:=I.un (Un.laid k hp (I.cH.fresh hp)) (I.cH.laid k hp new)
theorem Inv.write {x e:Addr} {o:HO} {t':Nat}(I:[9])(mu:Vu (H x))(he:[999])(k:[407,[272]])(UQ:[941]) (new:eC X.prog X.w [47,x] h' x o):[65,[47,x],[106,t']]:=I.un (Un.write mu he k UQ) (I.cH.write mu he k UQ new)
theorem Inv.weak {cR:List (Option V)}(I:Inv X pins σ H s)(hl:cR.length=σ.length)(w:∀(i:Nat) v,cR[i]? =some (some v)->σ[i]? =some (some v)):Inv X pins cR H s:=
 ⟨I.ok,I.os,I.bare,I.base,let⟨m,hn,hl'⟩:=I.loc;⟨m,hn,λi x v e1 e2 e3=>hl' i x v e1 (w i v e2) e3⟩,I.cell,I.free,I.mj,I.pin,I.cH,hl.trans I.len⟩
theorem Inv.FQ {QM:[17]}(I:[9])(h:∀p∈QM,s.heap.get? p.1=some p.2/\H p.1=none/\p.1≠X.env.locals/\p.1∉X.fs/\∀v,p.2.data≠.cell v):Inv X QM σ H s:=[116,I.ok,λp hp=>(List.mem_append.mp hp).elim (λz=>I.pin p [95,z]) (h p)]
theorem vS {N:[19]}(hN:N.Nodup) {j:Nat}(a:[3,N,x])(b:[2,N,j,x]):i=j:=by
 obtain⟨h1,e1⟩:=[1103];obtain⟨h2,e2⟩:=[1104];exact(List.getElem_inj hN).mp (e1.trans e2.symm)
theorem yP {v:V}(I:[9])(hN:X.N.Nodup)(hi:[296])(hx:[602])(r:[116]) (h:∀s',Inv X pins [729] H s'->(∃a,Heap.SameBut a s.heap s'.heap/\(a=X.env.locals\/X.env.cells.lookup x=some a))->Q () s')(hf:[635]:=by rw[56]):[327,storeName X.env x u]:=by
 obtain⟨m,hn,hl⟩:=id I.loc;have AQ:(X.env.scope.kind== .class||(X.env.scope.kind== .module&&X.env.locals !=X.env.globals))=false:=by
  rw[I.ok.kind];rfl
 have YA:i<σ.length:=by
  rw[I.len];exact[25,hi]
 have Rt:=I.Rt;have tracked:∀ {a:Addr} {h':Heap},(∃o,s.heap.get? a=some o/\[5,a])->[164,a]->lY X.prog X.w H h':=λ {a h'} ha hs b ob e=>by
  obtain⟨_,_,nZ⟩:=ha;refine(I.cH b ob e).Cf (λc w' hc q=>(hs.2 c ?_).trans q) (λ_ q=>q) [541];rintro rfl;rcases hc with rfl|hc
  ·rw[nZ] at e;cases e
  ·rw[nZ] at hc;cases hc
 rcases hx with hk|hk
 ·refine wpAny_storeName_local hk hn (λh' N3 hs=> ?_) AQ;obtain⟨oL,_,_,YO,_⟩:=id hn;refine h _ ⟨I.ok,I.os,I.bare,[1411],[38,N3,λj y v' e1 e2 e3=> ?_],λy c e=> ?_,I.free,I.mj,[244],tracked ⟨oL,YO,I.free⟩ hs,by simpa using I.len⟩ [38,hs,[38]]
  ·exact(hs.2 b [738]).trans [1061]
  ·obtain⟨sl,e1⟩:=[1062];rw[3,sl,(hs.2 b [738]).trans e1]
  ·obtain⟨o',e1⟩:=[314,o];rw[3,o',(hs.2 b [738]).trans e1]
  ·by_cases hj:j=i
   ·subst hj;rw[hi] at e1;cases e1;rw[[1105]] at e2;cases e2;rw[0,u,r,[31,hk,[4]]]
   ·rw[List.getElem?_set_ne (Ne.symm hj)] at e2;obtain⟨u',r',q⟩:=hl j y v' e1 e2 e3;rw[6,u',r'];rcases q with⟨k,e⟩|⟨k,c,e,z⟩
    ·refine .inl [30,k];have:y≠x:=λe=>hj (vS hN e1 (e▸hi));simp[this,e]
    ·exact[6,k,c,e,z.sameBut hs (Rt y c e)]
  ·obtain⟨w',z⟩:=I.cell y c e;rw[3,w',z.sameBut hs (Rt y c e)]
  ·rw[97];exact⟨(hs.2 p.1 ne).trans e,n,ne,nf,d⟩
 ·have N0:X.fn x=true:=by
   rcases hf with z|z
   ·exact z
   ·rw[z] at hk;cases hk
  obtain⟨c,hc⟩:=I.ok.has x (.inl hk);obtain⟨w',z⟩:=I.cell x c hc;refine wpAny_storeName_cell I.ok.kind hk hc z (λh' nY hs=> ?_);obtain⟨oc,hoc,hocd⟩:=id z;refine h [125] ⟨I.ok,I.os,I.bare,[1411],⟨m,hn.sameBut hs (Ne.symm (Rt x c hc)),λj y v' e1 e2 e3=> ?_⟩,λy c' e=> ?_,I.free,I.mj,[244],tracked ⟨oc,hoc,I.mj x c hc⟩ hs,by simpa using I.len⟩ ⟨c,hs,.inr hc⟩
  ·exact(hs.2 b [1047]).trans [1061]
  ·obtain⟨sl,e1⟩:=[1062];rw[3,sl,(hs.2 b [1047]).trans e1]
  ·obtain⟨o',e1⟩:=[314,o];rw[3,o',(hs.2 b [1047]).trans e1]
  ·by_cases hj:j=i
   ·subst hj;rw[hi] at e1;cases e1;rw[[1105]] at e2;cases e2;rw[0,u,r,[6,.inl hk,c,hc,nY]]
   ·rw[List.getElem?_set_ne (Ne.symm hj)] at e2;obtain⟨u',r',q⟩:=hl j y v' e1 e2 e3;rw[6,u',r'];rcases q with q|⟨k,c',e,z'⟩
    ·exact .inl q
    ·refine[6,k,c',e,z'.sameBut hs ?_];rintro rfl;exact hj (vS hN e1 (I.ok.inj _ _ _ e hc▸hi))
  ·by_cases Yr:c'=c
   ·subst Yr;rw[4,nY]
   ·obtain⟨w2,z2⟩:=I.cell y c' e;rw[3,w2,z2.sameBut hs Yr]
  ·rw[97];refine⟨(hs.2 p.1 ?_).trans e,n,ne,nf,d⟩;intro q;rw[q,hoc] at e;have q':oc=p.2:=[542];exact d w' (by rw[<-q'];exact hocd)
theorem rJ {v:V}(I:[9])(hN:X.N.Nodup)(hi:[296])(hx:[602])(r:[116]) (h:∀s',Inv X pins [729] H s'->Q () s')(hf:[635]:=by rw[56]):[327,storeName X.env x u]:=yP I hN hi hx r (λs' I' _=>h s' I') hf
theorem Inv.EY {s':Shared} {ch:[14]}(I:[9])(ho:s'.os=s.os)(u:Un [240] ch H H' s.heap s'.heap)(cH:lY X.prog X.w H' s'.heap)(hg:AllBare s'.gens) (MU:[1066]):[581]:=by
 obtain⟨h',g',d',t',o'⟩:=s';have e:o'=s.os:=ho;rw[5,I.call (g':=g') (t':=t') (d':=d') u cH hg MU]
end
abbrev XK:=Value->[10,[241]]
abbrev St:=List [71]
abbrev VK:=[10,V]
abbrev TE:=St->[227]
abbrev TT:=[319,[10,Bool]]
abbrev TA:=[319,[10,[13]]]
structure Ends where
 nx:St->Hp->Prop
 rt:VK
 bk:St->Hp->Prop:=λ_ _=>False
 ct:St->Hp->Prop:=λ_ _=>False
abbrev TS:=Ends->[169]
def EP(X:Cx)(pins:[17])(σ:St)(Q:VK)(u:Value)(s':Shared):Prop:=∃v H',[581]/\[116]/\Q v H'
def TP(X:Cx)(pins:[17])(σ:St)(Q:[10,Bool])(b:Bool)(s':Shared):Prop:=∃H',[581]/\Q b H'
def AP(X:Cx)(pins:[17])(σ:St)(Q:[10,[13]])(us:[6])(s':Shared):Prop:=∃vs H',[581]/\[297]/\Q vs H'
def SP(X:Cx)(pins:[17])(D:Ends)(f:Flow)(s':Shared):Prop:=match f with
 | .next=>[199,D.nx cR H']
 | .brk=>[199,D.bk cR H']
 | .cont=>[199,D.ct cR H']
 | .ret u=>∃v cR H',Inv X pins cR H' s'/\[116]/\D.rt v H'
def PE(X:Cx)(e:Expr)(t:TE):Prop:=∀(pins:[17]) (s:Shared) (σ:St) (H:Hp) (Q:VK),([9])->t σ H Q->[79,[52,e]]
def PT(X:Cx)(e:Expr)(t:TT):Prop:=∀(pins:[17]) (s:Shared) (σ:St) (H:Hp) (Q:[10,Bool]),[111,isTrue e X.env [52,e],TP X pins σ Q]
def PW(X:Cx)(e:Expr)(t:TT):Prop:=∀(whole:[543]) (pins:[17]) (s:Shared) (σ:St) (H:Hp) (Q:[10,Bool]),[111,isTrue e X.env whole,TP X pins σ Q]
theorem PW.pt {X:Cx} {e:Expr} {t:TT}(h:PW X e t):PT X e t:=h _
def PA(X:Cx)(es:[115])(t:TA):Prop:=[503,[111,spliced (backTo pos [396]),AP X pins σ Q]]
def PS(X:Cx)(st:Stmt)(t:TS):Prop:=∀(pins:[17]) (s:Shared) (σ:St) (H:Hp) (D:Ends),([9])->t D σ H->[19,exec st X.env,SP X pins D,s]
def Af(X:Cx)(st:[207])(t:TS):Prop:=∀(pins:[17]) (s:Shared) (σ:St) (H:Hp) (D:Ends),([9])->t D σ H->[19,execs st X.env,SP X pins D,s]
theorem dI {α:Type} {t:Sem α} {Q Q':[26,α]} {s:Shared}(h:wpAny M A t Q E s)(hQ:∀a s,Q a s->Q' a s):wpAny M A t Q' E s:=wpAny_mono h hQ λ_ _ x=>x
end L2
namespace L2
open PySem PySem.Spec PyProof.Rows
variable {x:Str} {E Q:[27]} {pins:[17]} {s:Shared} {σ:St} {H:Hp} {u:Value} {op:CmpOp}
section
variable {X:Cx}
def rL(i:Nat):TE:=λσ H Q=>∃v,σ[i]? =some (some v)/\Q v H
def tC(v:V):TE:=λ_ H Q=>Q v H
theorem Lv {i:Nat} {pos:Pos}(hN:[296])(hv:Rj X.env.scope x)(hd:[117]:=by decide)(xZ:[873]:=by decide):PE X [449] (rL i):=by
 intro pins s σ H Q I h;obtain⟨v,e,h⟩:=h;obtain⟨m,hn,hl⟩:=I.loc;obtain⟨u,r,l⟩:=hl i x v hN e hv;have fin:EP X pins σ Q u s:=⟨v,H,I,r,h⟩;rcases l with⟨hk,hm⟩|⟨hk,c,hc,Fo⟩
 ·exact wpAny_Name [475,fin] hd
 ·rcases hk with hk|hk;rw[2,wpAny_Name [476,fin] hd,wpAny_Name (wpAny_loadName_free I.ok.kind hk hc Fo fin xZ) hd]
theorem aH {i j pos}:[144,[112],[112]]:=λ_ _ _ H _ I h=>wpAny_Constant_int ⟨[112],H,[139],[53],h⟩
theorem FN {b j pos}:[144,.bool b,.bl b]:=λ_ _ _ H _ I h=>Constant_bool [3,.bl b,H,I,h]
theorem zO {j pos}:PE X [383,pos] (tC .cg):=λ_ _ _ H _ I h=>Constant_none [3,.cg,H,I,h]
theorem ay {x j pos}:[144,.str x,.str x]:=λ_ _ _ H _ I h=>Calls.Constant_str ⟨.str x,H,[139],[53],h⟩
def Gl(X:Cx)(x:Str):Prop:=X.env.kindOf x=some .globalImplicit
theorem kD {pos:Pos}(I:[9])(hg:[192])(hm:[28,X.mg x])(h:Q u s) (hd:[117]:=by decide):[168,eval [449] X.env]:=[450,Calls.loadGlobal_global (by rw[I.ok.glob];exact[841]) hm h]
theorem vD {pos:Pos}(I:[9])(hg:[192])(hm:X.mg x=none)(hv:[28,[842]])(h:Q u s) (hn:[890]:=by decide)(hd:[117]:=by decide):[168,eval [449] X.env]:=by
 obtain⟨mb,h1,h2⟩:=I.mod.blt;exact[450,Calls.loadGlobal_builtin (by rw[I.ok.glob];exact[841]) hm (by rw[I.ok.blt];exact h1.keeps I.bk) ((h2 x hn).trans hv) h]
theorem bc {v:V} {pos:Pos}(hg:[192])(hm:[28,X.mg x])(r:[116])(hd:[117]:=by decide):PE X [449] (tC v):=λ_ _ _ H _ I h=>kD I hg hm ⟨v,H,I,r,h⟩ hd
variable {a b:Expr} {ta tb:TE} {pos:Pos}
def PC(X:Cx)(op:CmpOp)(a b:Expr)(t:TE):Prop:=∀(pins:[17]) (s:Shared) (σ:St) (H:Hp) (Q:VK),[111,[52,a],[482,[19,compareOp op v u,[805],oq]]]
theorem K'(b:Expr)(h:op≠.In)(h2:op≠.NotIn):[636]:=by
 have e1:[24,op,CmpOp.In]:=[321,h];have e2:[24,op,CmpOp.NotIn]:=[321,h2];cases b<;>simp[behindInMarks,e1,e2]
def tIsN(ta:TE):TE:=[100,Q (.bl [2,x,.cg]) H1]
def tNotN(ta:TE):TE:=[100,Q (.bl (! [2,x,.cg])) H1]
theorem RelV.Bw {x:V} {v:Value}(r:[186]):(v==Value.none)=[2,x,.cg]:=by cases x with
 |cg=>rw[17]
 |bl _=>rw[17]
 |int _=>rw[20]
 |str _=>rw[20]
 |Ar _=>rw[20]
 |WR _=>rw[20]
 |ref _=>rw[17]
 |ty _=>rw[17]
theorem Tq {j pos'}(ha:[153]):PC X .Is a [383,pos'] (tIsN ta):=by rw[17,[116,?_],Constant_none (is_none_gen ⟨.bl _,H1,I1,by rw[r1.Bw];rfl,q1⟩)]
theorem O1 {j pos'}(ha:[153]):PC X .IsNot a [383,pos'] (tNotN ta):=by rw[17,[116,?_],Constant_none (isnot_none_gen ⟨.bl _,H1,I1,by rw[r1.Bw];rfl,q1⟩)]
def tB(t:TE):TT:=[107,λx H1=>∃c,x= .bl c/\Q c H1]
theorem nE {t:TE}(h:PC X op a b t)(h1:[636]:=by first|exact K' _ [3] [3]|rfl):PT X [973] (tB t):=by
 intro pins s σ H Q I hw;refine wpAny_isTrue_Compare1 (dI [329,_] λv s1 h1=>dI h1 λu s2 h2=>dI h2 λc s3 ⟨x,H1,I1,r1,q1⟩=> ?_) h1;obtain⟨d,rfl,q⟩:=q1;cases r1;exact wpAny_truthy_bool ⟨H1,I1,q⟩
theorem dg {e:Expr} {t:TE}(h:PE X e t)(he:∀whole,isTrue e X.env whole=(do let v <-whole;standAt e.pos;holding [v] (truthy v)):=by intro _;rfl):PT X e (tB t):=by
 intro pins s σ H Q I hw;refine isTrue_plain (dI (h pins s σ H _ I hw) λv s1 ⟨x,H1,I1,r1,q1⟩=> ?_) (he _);obtain⟨d,rfl,q⟩:=q1
 cases r1
 exact wpAny_truthy_bool ⟨H1,I1,q⟩
variable {tA tB':TT} {rest:[115]}
def tAnd(t u:TT):TT:=[107,λc H1=>[5,c,u σ H1 Q,Q false H1]]
def tOr(t u:TT):TT:=[107,λc H1=>[5,c,Q true H1,u σ H1 Q]]
def tNot(t:TT):TT:=[107,λc H1=>Q (!c) H1]
theorem iQ(ha:[608]):PW X (.BoolOp .And [a] pos) tA:=by
 rw[43,isTrue_and [1190]];cases c with
  |true=>exact isTrue_and_nil e
  |false=>exact e
theorem Eh(ha:[608]):PW X (.BoolOp .Or [a] pos) tA:=by
 rw[43,isTrue_or [1190]];cases c with
  |false=>exact isTrue_or_nil e
  |true=>exact e
theorem kg(ha:[608])(hb:PW X [1147] tB'):PW X [1148] (tAnd tA tB'):=by
 rw[43,isTrue_and [1416]];cases c with
  |true=>exact hb wh pins s1 σ H1 Q I1 q1
  |false=>rw[0,H1,I1,q1]
theorem LA(ha:[608])(hb:PW X [1146] tB'):PW X [1149] (tOr tA tB'):=by
 rw[43,isTrue_or [1416]];cases c with
  |true=>rw[0,H1,I1,q1]
  |false=>exact hb wh pins s1 σ H1 Q I1 q1
theorem sM(ha:[608]):PT X (.UnaryOp .Not a pos) (tNot tA):=by rw[38,isTrue_not (ha pins s σ H (λc H1=>Q (!c) H1) I h)]
def tAndV(ta tb:TE):TE:=[100,∃c,x= .bl c/\[5,c,tb σ H1 Q,Q (.bl false) H1]]
def tOrV(ta tb:TE):TE:=[100,∃c,x= .bl c/\[5,c,Q (.bl true) H1,tb σ H1 Q]]
theorem zP {op} {t:TE}(h:PE X a t):PE X (.BoolOp op [a] pos) t:=λpins s σ H Q I hw=>BoolOp_one [329,Q]
theorem Tr(ha:[153])(hb:PE X [1147] tb):PE X [1148] (tAndV ta tb):=by
 rw[14,BoolOp_and [116,?_]];obtain⟨c,rfl,q1⟩:=q1;cases r1;refine[544];cases c with
  |true=>exact[222,Q]
  |false=>exact[3,.bl false,H1,I1,q1]
theorem FO(ha:[153])(hb:PE X [1146] tb):PE X [1149] (tOrV ta tb):=by
 rw[14,BoolOp_or [116,?_]];obtain⟨c,rfl,q1⟩:=q1;cases r1;refine[544];cases c with
  |false=>exact[222,Q]
  |true=>exact[3,.bl true,H1,I1,q1]
def tIf(t:TT)(ta tb:TE):TE:=[107,λc H1=>[5,c,ta σ H1 Q,tb σ H1 Q]]
theorem wb {c:Expr}(hc:PT X c tA)(ha:[153])(hb:[313]):PE X (.IfExp c a b pos) (tIf tA ta tb):=by
 rw[14,wpAny_IfExp [1439]];cases d with
  |true=>exact ha pins s1 σ H1 Q I1 q1
  |false=>exact[222,Q]
end
end L2
namespace L2
open PySem PySem.Spec PyProof.Rows
variable {K:PySem.W.Frag} {c:Expr} {tc:TT} {i:Nat} {x:Str} {es:[115]} {pos':Pos} {P:Program} {w:World}
def bP(K:PySem.W.Frag)(H:Hp)(a:Addr)(xs:[13]):Prop:=[157,[60],K.lookup a=some o/\o.cls=[448]/\o.dict=none/\[1328]]
def kT(K:PySem.W.Frag)(H:Hp)(a:Addr)(xs:[13]):Prop:=[157,[119],K.lookup a=some o/\o.cls=[219]/\[1328]]
def absV:Value->[71]
 | .none=>some .cg
 | .bool b=>some (.bl b)
 | .int i _=>some [112]
 | .str x _=>some (.str x)
 | .bytes b _=>some (.Ar b)
 | .float b _=>some (.WR b)
 | .ref a=>[412]
 | .type n=>some (.ty n)
 |_=>none
theorem RelV.abs {x:V} {u:Value}(r:[360]):absV u=some x:=by cases x with
 |cg=>rw[17]
 |bl _=>rw[17]
 |int _=>rw[20]
 |str _=>rw[20]
 |Ar _=>rw[20]
 |WR _=>rw[20]
 |ref _=>rw[17]
 |ty _=>rw[17]
theorem RelV.inj {x y:V} {u:Value}(r:[360])(q:[133]):x=y:=Option.some.inj (r.abs.symm.trans q.abs)
theorem Vals.inj:∀ {xs ys:[13]} {us:[6]},([185])->Vals ys us->xs=ys
 |_,_,_,.nil,.nil=>rfl
 |_,_,_,.cons r t,.cons r' t'=>by rw[r.inj r',Vals.inj t t']
section
variable {X:Cx} {pins:[17]} {σ:St} {H:Hp} {s:Shared} {a:Addr} {xs ys:[13]}
theorem bP.of(h:[29,[60]]):[126]:= .inl (.inl h)
theorem kT.of(h:[29,[119]]):[305]:= .inl (.inl h)
theorem Inv.list(I:[9])(h:bP X.K H a xs):∃bo:[6],[375]/\PlainL s.heap a bo.toArray/\[690]:=by
 rcases h with h|⟨o,bo,n,hk,hc,hd,hs,hz,r⟩
 ·obtain⟨z,bo,n,r,e⟩:=h.ok I.cH;rw[0,bo,r,⟨_,n,e,rfl,rfl,rfl⟩,z]
 ·refine[15,bo.toList,r,⟨o,n,I.pP a o hk,hc,hd,by simpa using hs⟩];have e:=r.length;simp only[Array.length_toList] at e;omega
theorem Inv.tuple(I:[9])(h:kT X.K H a xs):∃bo:[6],[375]/\IsTup s.heap a bo.toArray/\[690]:=by
 rcases h with h|⟨o,bo,n,hk,hc,hs,hz,r⟩
 ·obtain⟨z,bo,r,p⟩:=h.ok I.cH;rw[0,bo,r,p,z]
 ·refine[15,bo.toList,r,⟨o,I.pP a o hk,hc,n,by simpa using hs⟩];have e:=r.length;simp only[Array.length_toList] at e;omega
theorem Inv.vF(I:[9])(h:bP X.K H a xs)(h':bP X.K H a ys):xs=ys:=by
 obtain⟨bo,r,⟨o,n,e,_,_,d⟩,_⟩:=I.list h;obtain⟨its',r',⟨o',n',e',_,_,d'⟩,_⟩:=I.list h';rw[58];rw[d] at d';injection d' with d1 _;have:bo=its':=[127,[273,d1]];subst this;exact r.inj r'
theorem Inv.Ir(I:[9])(h:kT X.K H a xs)(h':kT X.K H a ys):xs=ys:=by
 obtain⟨bo,r,⟨o,e,_,n,d⟩,_⟩:=I.tuple h;obtain⟨its',r',⟨o',e',_,n',d'⟩,_⟩:=I.tuple h';rw[58];rw[d] at d';injection d' with d1 _;have:bo=its':=[127,[273,d1]];subst this;exact r.inj r'
end
abbrev Cx.wX(X:Cx)(E:[27]):Cx:={X with xe:=E}
abbrev Cx.Ta(X:Cx):Cx:=X.wX [346]
theorem Cx.Ok.wX {X:Cx}(ok:X.Ok)(E:[27]):(X.wX E).Ok:=[1491]
theorem Cx.Ok.nQ {X:Cx} {E:[27]}(ok:(X.wX E).Ok):X.Ok:=[1491]
section
variable {X:Cx} {pins:[17]} {σ:St} {H:Hp} {s:Shared} {E:[27]}
theorem Inv.wX(I:[9])(E:[27]):[249,X.wX E]:=[116,I.ok.wX E,I.pin]
theorem Inv.nQ(I:[249,X.wX E]):[9]:=[116,I.ok.nQ,I.pin]
theorem SP.nQ {D:Ends} {f:Flow} {s':Shared}(h:SP (X.wX E) pins D f s'):SP X pins D f s':=by cases f with
 |next=>
  obtain⟨cR,H',I,q⟩:=h;rw[0,cR,H',I.nQ,q]
 |brk=>
  obtain⟨cR,H',I,q⟩:=h;rw[0,cR,H',I.nQ,q]
 |cont=>
  obtain⟨cR,H',I,q⟩:=h;rw[0,cR,H',I.nQ,q]
 |ret u=>
  obtain⟨v,cR,H',I,r,q⟩:=h;exact⟨v,cR,H',I.nQ,r,q⟩
theorem Af.Ta {st:[207]} {t:TS}(h:Af X.Ta st t):Af X st t:=λpins s σ H D I hw=>wpAny_mono (h pins s σ H D (I.wX _) hw) (λ_ _ q=>q.nQ) λ_ _ z=>False.elim z
end
section
variable {X:Cx} {st:Stmt} {rest:[207]} {t u:TS} {e:Expr} {te:TE} {pos:Pos}
def tNext:TS:=λD σ H=>[236]
def Cm(t u:TS):TS:=λD σ H=>t {D with nx:=u D} σ H
theorem aO:Af X [] tNext:=λ_ _ σ H _ I h=>wpAny_execs_nil ⟨σ,H,I,h⟩
theorem ae(h1:PS X st t)(h2:Af X rest u):Af X (st::rest) (Cm t u):=by
 rw[37,wpAny_execs_cons (dI (h1 pins s σ H {D with nx:=u D} I h) λf s1 q=> ?_)];cases f with
  |next=>
   obtain⟨cR,H',I',q⟩:=q;exact h2 pins s1 cR H' D I' q
  |ret v=>exact q
  |brk=>exact q
  |cont=>exact q
theorem ah(h1:PS X st t):Af X [st] t:=by
 rw[37,wpAny_execs_cons (dI (h1 pins s σ H D I h) λf s1 q=> ?_)];cases f with
  |next=>exact wpAny_execs_nil q
  |ret v=>exact q
  |brk=>exact q
  |cont=>exact q
theorem Inv.quiet {pins:[17]} {σ:St} {H:Hp} {s:Shared}(I:[9]):[8,interactive X.env]:=by simp[interactive,I.ok.kind]
def F'(te:TE):TS:=[369,λ_ H1=>D.nx σ H1]
theorem aF(he:[308])(hs:swapsWith e none pos.line X.env=pure false:=by rfl):PS X (.Expr e pos) (F' te):=by
 intro pins s σ H D I h;exact wpAny_Expr_any [171,[177,⟨σ,H1,I1,q1⟩]] I.quiet hs
def Ud(te:TE):TS:=[369,D.rt]
theorem aG(he:[308]):PS X (.Return (some e) pos) (Ud te):=by
 intro pins s σ H D I h;exact wpAny_Return_some [171,[177,⟨x,σ,H1,I1,r1,q1⟩]]
def tIfS(c:TT)(t u:TS):TS:=λD σ H=>c σ H λb H1=>[5,b,t D σ H1,u D σ H1]
theorem bf {a b:[207]}(hc:PT X c tc)(ha:Af X a t)(hb:Af X b u):PS X (.If c a b pos) (tIfS tc t u):=by
 rw[37,wpAny_If [1439]];cases d with
  |true=>exact ha pins s1 σ H1 D I1 q1
  |false=>exact[222,D]
end
abbrev TG:=V->St->Hp->([169])->Prop
abbrev Ri:=([13])->St->Hp->([169])->Prop
def PG(X:Cx)(target:Expr)(t:TG):Prop:=∀(pins:[17]) (s:Shared) (σ:St) (H:Hp) (v:V) (u:Value) (Q:[169]),([9])->([116])->t v σ H Q->[19,assign target X.env u,λ_ s'=>[199,Q cR H'],s]
def PGs(X:Cx)(ts:[115])(t:Ri):Prop:=∀(pins:[17]) (s:Shared) (σ:St) (H:Hp) (vs:[13]) (us:[6]) (Q:[169]),([9])->([297])->t vs σ H Q->wpAny [271] X.A (assignInOrder ([68,assignEach ts X.env]) us) (λ_ s'=>[199,Q cR H']) X.xe s
abbrev TIp:=[364]
def PIp(X:Cx)(op:Operator)(t:TIp):Prop:=[505,([9])->([186])->([133])->t x y H Q->[79,inplaceOp op v u]]
section
variable {X:Cx} {pos:Pos}
def AJ(i:Nat):TG:=λv σ H Q=>Q [729] H
theorem cW(hN:X.N.Nodup)(hi:[296])(hx:[602])(hf:[635]:=by rw[56]):PG X [449] (AJ i):=by
 intro pins s σ H v u Q I r h;exact wpAny_assign_Name (rJ I hN hi hx r (λs' I'=>⟨_,H,I',h⟩) hf)
def gNil:Ri:=λvs σ H Q=>vs=[]/\Q σ H
def XY(t:TG)(u:Ri):Ri:=λvs σ H Q=>∃v r,vs=v::r/\t v σ H λcR H'=>u r cR H' Q
theorem O4:PGs X [] gNil:=by
 intro pins s σ H vs us Q I r h;obtain⟨e,h⟩:=h;subst e;cases r;exact assignInOrder_nil ⟨σ,H,I,h⟩
theorem BK {e:Expr} {t:TG} {u:Ri}(h1:PG X e t)(h2:PGs X es u) (hs:[68,assignEach (e::es) X.env]=assign e X.env::[68,assignEach es X.env]:=by rfl):PGs X (e::es) (XY t u):=by
 intro pins s σ H vs us Q I r h;obtain⟨v,vr,e1,h⟩:=h;subst e1;cases r with
  |cons r rr=>
   rw[hs];rw[4,assignInOrder_cons (dI (h1 pins s σ H _ _ _ I r h) λ_ s1 ⟨Vo,H1,I1,q1⟩=> ?_),h2 pins s1 Vo H1 _ _ Q I1 rr q1]
def gTup(K:PySem.W.Frag)(n:Nat)(t:Ri):TG:=λv σ H Q=>∃a xs,v=[10]/\[305]/\xs.length=n/\t xs σ H Q
theorem Ts {k:Nat} {t:Ri} {n:Nat}(hc:[356])(h:PGs X es t) (hn:[6,assignEach es X.env,n]:=by rfl)(vg:(assignEach es X.env).findIdx? [44]=none:=by rfl):PG X (.Tuple es k pos) (gTup X.K n t):=by
 intro pins s σ H v u Q I r hw;obtain⟨a,xs,e1,hq,hl,hw⟩:=hw;subst e1;cases r;obtain⟨bo,rv,ht,hz⟩:=[287];refine assign_Tuple_tuple [347] ht (by simp[hn,<-hl,rv.length]) vg λh' hx=> ?_;have I1:[17,H,[125]]:=[355,λb o e=>hx b o (Nat.ne_of_lt [72]) e];exact h pins _ σ H xs _ Q I1 (by simpa using rv) hw
def tAsg(te:TE)(g:TG):TS:=[369,λx H1=>g x σ H1 D.nx]
theorem aI {e:Expr} {te:TE}(hN:X.N.Nodup)(hi:[296])(hx:[602])(he:[308])(hs:[160,e,.Name x pos']:=by rfl)(hf:[635]:=by rw[56]):PS X (.Assign [.Name x pos'] e pos) (tAsg te (AJ i)):=by
 intro pins s σ H D I h;rw[4,wpAny_Assign_Name [171,λv s1 ⟨y,H1,I1,r1,q1⟩=> ?_] hs,rJ I1 hN hi hx r1 (λs2 I2=>⟨_,H1,I2,q1⟩) hf]
def tAug(i:Nat)(te:TE)(ti:TIp):TS:=λD σ H=>∃x,σ[i]? =some [142]/\te σ H λy H1=>ti x y H1 λz H2=>D.nx (σ.set i (some z)) H2
theorem o3 {e:Expr} {te:TE} {op:Operator} {ti:TIp}(hN:X.N.Nodup)(hi:[296])(hx:[602])(he:[308])(ho:PIp X op ti)(hf:[635]:=by rw[56]):PS X (.AugAssign (.Name x pos') op e pos) (tAug i te ti):=by
 intro pins s σ H D I h;obtain⟨v,e1,h⟩:=h;obtain⟨m,hn,hl⟩:=I.loc;have PZ:Rj X.env.scope x:=by
  rcases hx with k|k;exact .inl k;exact .inr (.inl k)
 obtain⟨u,r,l⟩:=hl i x v hi e1 PZ;refine wpAny_AugAssign_Name ?_;have go:[19,[52,e],λw oq=>[19,inplaceOp op u w,λr Ck=>[19,storeName X.env x r,λ_=>SP X pins D .next,Ck],oq],s]:=by
  rw[1,[171,λw s1 ⟨y,H1,I1,r1,q1⟩=> ?_],dI (ho pins s1 σ H1 v y u w _ I1 r r1 q1) λz s2 ⟨zv,H2,I2,r2,q2⟩=> ?_];exact rJ I2 hN hi hx r2 (λs3 I3=>⟨_,H2,I3,q2⟩) hf
 rcases l with⟨hk,hm⟩|⟨hk,c,hc,Fo⟩
 ·exact[475,go]
 ·rcases hk with hk|hk
  ·exact[476,go]
  ·rcases hx with k|k
   ·have:[809]=some .free:=hk;rw[k] at this;cases this
   ·have:[809]=some .free:=hk;rw[k] at this;cases this
def ipI(f:Int->Int->Int):TIp:=[380,f i j]
theorem qm:PIp X .Add (ipI λi j=>i+j):=by
 intro pins s σ H x y v u Q I r1 r2 h;obtain⟨i,j,e1,e2,q⟩:=h;subst e1;subst e2;obtain⟨t,rfl⟩:=r1;obtain⟨t',rfl⟩:=r2;exact iadd_int [117,.int _]
theorem SQ:PIp X .Sub (ipI λi j=>i -j):=by
 intro pins s σ H x y v u Q I r1 r2 h;obtain⟨i,j,e1,e2,q⟩:=h;subst e1;subst e2;obtain⟨t,rfl⟩:=r1;obtain⟨t',rfl⟩:=r2;exact isub_int [117,.int _]
end
section
variable {X:Cx} {pos:Pos}
def EB(c:TT)(tb:TS):TS:=λD σ H=>∃W:Nat->[169],(∃m,W m σ H)/\∀m σ H,W m σ H->c σ H λb H1=>[5,b,∃N:[169],(∀cR H',N cR H'->[77,m,W m' cR H'])/\tb [105,N,N] σ H1,D.nx σ H1]
theorem gd {body:[207]} {tb:TS}(hp:[1349])(hc:PT X c tc)(hb:Af X body tb):PS X (.While c body [] pos) (EB tc tb):=by
 intro pins s σ H D I h;obtain⟨W,⟨m0,w0⟩,turn⟩:=h;refine wpAny_While (codeAny_whileLoop (λn s'=>[199,W n cR H']) ?_ m0 ⟨σ,H,I,w0⟩);rintro n s1 ⟨Vo,H1,I1,w1⟩;refine[155,dI (hc pins s1 Vo H1 _ I1 (turn n Vo H1 w1)) λb s2 ⟨H2,I2,q2⟩=> ?_];cases b with
  |true=>
   obtain⟨N,hN,q2⟩:=q2;rw[8,[381],[155,dI (hb pins s2 Vo H2 _ I2 q2) λf s3 q3=> ?_]];cases f with
    |next=>
     obtain⟨MN,H3,I3,n3⟩:=q3;obtain⟨m',hm,w3⟩:=hN MN H3 n3;exact⟨m',hm,MN,H3,I3,w3⟩
    |cont=>
     obtain⟨MN,H3,I3,n3⟩:=q3;obtain⟨m',hm,w3⟩:=hN MN H3 n3;exact⟨m',hm,MN,H3,I3,w3⟩
    |brk=>exact q3
    |ret v=>exact q3
  |false=>rw[0,[187],wpAny_execs_nil ⟨Vo,H2,I2,q2⟩]
end
structure It where
 go:Nat->Hp->Prop
 M7:Nat->Hp->V->Hp->Prop
 stop:Nat->Hp->Prop
def uH(X:Cx)(pins:[17])(H:Hp)(b:Addr):Prop:=H b=none/\[516]/\b∉X.fs/\[1085]/\[225,c≠b]/\[1082]
theorem Inv.JH {X:Cx} {pins:[17]} {σ:St} {H H':Hp} {s:Shared} {b:Addr}(I:[9])(hb:s.heap.objs.size<=b)(hn:[337]):[207,H']:=by
 refine⟨hn,Nat.ne_of_gt (Nat.lt_of_lt_of_le I.lt hb),I.nofs hb,.inr (Nat.le_trans I.sz hb),λx c e z=> ?_,λp hp z=> ?_⟩
 ·obtain⟨v,q⟩:=[736];exact absurd (Nat.lt_of_lt_of_le q.lt (by rw[z];exact hb)) [230]
 ·exact[235,Nat.lt_of_lt_of_le (Heap.lt_size (I.pin p hp).1) (by rw[z];exact hb)]
structure Turn(P:Program)(w:World)(K:PySem.W.Frag)(tg:Expr)(J:It)(fp:List Addr)(it:Addr)(tn:Nat->Heap->Prop):Prop where
 mem:it∈fp
 obj:∀i h,tn i h->∀b∈fp,∃o,h.get? b=some o/\∀v,o.data≠ .cell v
 keep:∀i h h',tn i h->(∀b∈fp,∀o,h.get? b=some o->h'.get? b=some o)->tn i h'
 item:∀(X:Cx),X.prog=P->X.w=w->X.K=K->X.calm=true->∀(i:Nat) (pins:List (Addr×Obj)) (s:Shared) (σ:St) (H:Hp) (E:Value->Shared->Prop),Inv X pins σ H s->(∀b∈fp,uH X pins H b)->tn i s.heap->J.go i H->
  wpAny (model P w) X.A (pyNext (.ref it)) (λr s1=>∃u,r=some u/\
   wpAny (model P w) X.A (letOwnedTupleGo tg (.ref it) u) (λ_ s2=>∃x H',Inv X pins σ H' s2/\RelV x u/\J.M7 i H x H'/\tn (i+1) s2.heap/\∀b∈fp,H' b=none) E s1) E s
 done:∀(X:Cx),X.prog=P->X.w=w->X.K=K->X.calm=true->∀(i:Nat) (pins:List (Addr×Obj)) (s:Shared) (σ:St) (H:Hp) (E:Value->Shared->Prop),Inv X pins σ H s->(∀b∈fp,uH X pins H b)->tn i s.heap->J.stop i H->
  wpAny (model P w) X.A (pyNext (.ref it)) (λr s1=>r=none/\Inv X pins σ H s1) E s
 self:∀(A:Around) (i:Nat) (s:Shared) (Q:Value->Shared->Prop) (E:Value->Shared->Prop),tn i s.heap->Q (.ref it) s->wpAny (model P w) A (pyIter (.ref it)) Q E s
abbrev TI:=[319,[10,It]]
def PIE(X:Cx)(pins:[17])(σ:St)(tg:Expr)(R:[10,It])(itv:Value)(s2:Shared):Prop:=∃(it:Addr) (fp:[14]) (tn:[4,Nat,Heap]) (J:It) (H':Hp),itv= .ref it/\[17,H',s2]/\Turn X.prog X.w X.K tg J fp it tn/\tn 0 s2.heap/\(∀b∈fp,[207,H'])/\R J H'
def PI(X:Cx)(tg iter:Expr)(wi:TI):Prop:=∀(pins:[17]) (s:Shared) (σ:St) (H:Hp) (R:[10,It]),([9])->wi σ H R->[19,[52,iter],λv s1=>[19,pyIter v,PIE X pins σ tg R,s1],s]
theorem Ff {M:Model} {A:Around} {E:[27]} {s:Shared} {tg:Expr} {it:Addr} {u:Value} {o:Obj} {n:String} {vs:[93]} {Q:[26,Unit]}(ho:[3,s.heap.get? it])(hc:o.cls= .type n)(hd:o.data= .fields vs) (hn:[8,[1459]])(hQ:Q () s):[327,letOwnedTupleGo tg (.ref it) u]:=by
 unfold letOwnedTupleGo;cases tg<;>first
  |rw[15,hQ]
  |(cases u<;>first
   |rw[15,hQ]
   |(rw[1,[274,ho]];rw[hc,hd];show wpAny M A [44,[1459]&&vs[0]? ==some (rawInt _)] Q E s;rw[0,if_neg (by intro h;rw[hn,Bool.false_and] at h;cases h),wpAny_pure hQ]))
def EO(K:PySem.W.Frag)(a:Addr):It:=⟨λi H=>∃xs x,[126]/\[206],[378,∀xs,([126])->[206]],λi H=>∃xs,[126]/\xs.length<=i⟩
def Vs(K:PySem.W.Frag)(a:Addr):It:=⟨λi H=>∃xs x,[305]/\[206],[378,∀xs,([305])->[206]],λi H=>∃xs,[305]/\xs.length<=i⟩
theorem Iv {tg:Expr}(a it:Addr):Turn P w K tg (EO K a) [it] it (λi h=>h.IsListIter it a i) where
 mem:=[4]
 obj:=λi h st b hb=>by
  rw[119];rw[0,o,e,(λv z=>by rw[d] at z;cases z)]
 keep:=[1258]
 item:=by
  rw[36];obtain⟨xs,x,hq,hx⟩:=hg;obtain⟨bo,rv,p,hz⟩:=[208];obtain⟨u,hu,ru⟩:=rv.get hx;rw[41];refine wpAny_pyNext_list_item st p.isList (x:=u) [843] [844];have I1:[17,H,[125]]:=[925];obtain⟨o,e,c,d⟩:=id st';rw[0,u,rfl,[415,⟨x,H,I1,ru,[18,(λys hy=>by rw[0,I.vF hy hq,hx])],st',[911]⟩]]
 done:=by
  rw[36];obtain⟨xs,hq,hx⟩:=hg;obtain⟨bo,rv,p,hz⟩:=[208];rw[41];have hl:=rv.length;exact wpAny_pyNext_list_end [347] st p.isList (by rw[0]) [1063]
 self:=λ_ _ _ _ _ st h=>wpAny_pyIter_listiter st h
theorem EH {tg:Expr}(a it:Addr):Turn P w K tg (Vs K a) [it] it (λi h=>h.IsTupleIter it a i) where
 mem:=[4]
 obj:=λi h st b hb=>by
  rw[119];rw[0,o,e,(λv z=>by rw[d] at z;cases z)]
 keep:=[1258]
 item:=by
  rw[36];obtain⟨xs,x,hq,hx⟩:=hg;obtain⟨bo,rv,p,hz⟩:=[287];obtain⟨u,hu,ru⟩:=rv.get hx;rw[41];refine wpAny_pyNext_tuple_item st [1259] (x:=u) [843] [844];have I1:[17,H,[125]]:=[925];obtain⟨o,e,c,d⟩:=id st';rw[0,u,rfl,[415,⟨x,H,I1,ru,[18,(λys hy=>by rw[0,I.Ir hy hq,hx])],st',[911]⟩]]
 done:=by
  rw[36];obtain⟨xs,hq,hx⟩:=hg;obtain⟨bo,rv,p,hz⟩:=[287];rw[41];have hl:=rv.length;exact wpAny_pyNext_tuple_end [347] st [1259] (by rw[0]) [1063]
 self:=λ_ _ _ _ _ st h=>wpAny_pyIter_tupleiter st h
end L2
namespace L2
open PySem PySem.Spec PyProof.Rows
variable {l:Expr} {fp:[14]} {pins:[17]} {σ:St} {H:Hp} {s:Shared} {g:TG} {tb:TS}
section
variable {X:Cx} {tg:Expr}
def Zb(K:PySem.W.Frag)(tl:TE):TI:=[161,bP K H1 a xs,EO K a]
def iTup(K:PySem.W.Frag)(tl:TE):TI:=[161,kT K H1 a xs,Vs K a]
theorem eQ {tl:TE}(hl:PE X l tl):PI X tg l (Zb X.K tl):=by
 rw[39,dI (hl pins s σ H _ I h) [177,?_]];obtain⟨a,e,⟨xs,hq⟩,q⟩:=q1;subst e;cases r1;obtain⟨bo,rv,p,hz⟩:=I1.list hq;rw[1,[356,p.isList],[492,Iv a _]];have e:b=s1.heap.objs.size:=[96];rw[5,I1.JH [8] [441]]
theorem Tu {tl:TE}(hl:PE X l tl):PI X tg l (iTup X.K tl):=by
 rw[39,dI (hl pins s σ H _ I h) [177,?_]];obtain⟨a,e,⟨xs,hq⟩,q⟩:=q1;subst e;cases r1;obtain⟨bo,rv,p,hz⟩:=I1.tuple hq;rw[1,wpAny_pyIter_tuple (show s1.heap.IsTuple a bo.toArray from p) ?_,[492,EH a _]];have e:b=s1.heap.objs.size:=[96];rw[5,I1.JH [8] [441]]
def tFor(wi:TI)(g:TG)(tb:TS):TS:=λD σ H=>wi σ H λJ H1=>∃W:[162,[169]],(∃m,W 0 m σ H1)/\∀i m σ H,([596])->(J.stop i H/\[236])\/(J.go i H/\∃N:[169],[646]/\∀x H',J.M7 i H x H'->[778])
def we(fp:[14])(h:Heap):[17]:=fp.filterMap λb=>[177].map λo=>(b,o)
theorem qu {h:Heap} {b:Addr} {o:Obj}(hb:b∈fp)(e:[363]):(b,o)∈we fp h:=[38,b,hb,(by rw[e];rfl)]
theorem HE {h:Heap} {p:Addr×Obj}(hp:p∈we fp h):p.1∈fp/\h.get? p.1=some p.2:=by
 obtain⟨b,hb,e⟩:=List.mem_filterMap.mp hp;cases q:h.get? b with
  |none=>
   rw[q] at e;cases e
  |some o=>
   rw[q] at e;have e':(b,o)=p:=[542];subst e';rw[3,hb,q]
theorem Inv.pinned(I:[9])(hf:∀b∈fp,[207,H])(ho:∀b∈fp,∃o,[272]=some o/\∀v,o.data≠.cell v):Inv X (pins++we fp s.heap) σ H s:=I.FQ λp hp=>(List.mem_append.mp hp).elim (λz=>I.pin p [1167]) λz=>by
 obtain⟨hb,e⟩:=HE z;obtain⟨f0,f1,f2,_⟩:=hf p.1 hb;obtain⟨o,e',d⟩:=ho p.1 hb;rw[58];exact⟨e,f0,f1,f2,d⟩
theorem Inv.rR {pl:[17]}(I:Inv X (pins++pl) σ H s):[9]:=I.FQ λp hp=>I.pin p [223,[95,hp]]
theorem j9 {iter:Expr} {body:[207]} {wi:TI} {pos:Pos}(hp:[1349])(hc:[356])(hi:PI X tg iter wi)(hg:PG X tg g)(hb:Af X body tb) (hs:[1350]:=by intro _;rfl):PS X (.For tg iter body [] pos) (tFor wi g tb):=by
 rw[37,wpAny_For (dI (hi pins s σ H _ I h) λv s1 h1=>dI h1 λitv s2 h2=> ?_) hs];obtain⟨it,fp,tn,J,H2,e,I2,T,st2,f2,W,⟨m0,w0⟩,turn⟩:=h2;subst e;have stat:∀ {H':Hp},([885])->∀b∈fp,[207,H']:=λhn b hb=>⟨hn b hb,(f2 b hb).2⟩;refine codeAny_forLoop_any (λn s'=>∃i cR H',Inv X pins cR H' s'/\tn i s'.heap/\[885]/\W i n cR H') ?_ m0 ⟨0,σ,H2,I2,st2,λb hb=>(f2 b hb).1,w0⟩;rintro n s3 ⟨i,MN,H3,I3,st3,uu,w3⟩;rcases turn i n MN H3 w3 with⟨stop,qn⟩|⟨go,N,hN,step⟩
 ·refine[155,dI (T.done X rfl rfl rfl hc i pins s3 MN H3 X.xe I3 (stat uu) st3 stop) λr s4 ⟨hr,I4⟩=> ?_];subst hr;exact wpAny_execs_nil ⟨MN,H3,I4,qn⟩
 ·refine[155,dI (T.item X rfl rfl rfl hc i pins s3 MN H3 X.xe I3 (stat uu) st3 go) λr s4 ⟨u,hr,h4⟩=> ?_];subst hr;refine[155,dI h4 λ_ s5 ⟨x,H5,I5,r5,y5,Vh,G5⟩=> ?_];have I5':=I5.pinned (stat G5) (T.obj _ _ Vh);rw[1,[155,dI (hg _ s5 MN H5 x u _ I5' r5 (step x H5 y5)) λ_ s6 ⟨σ6,H6,I6,q6⟩=> ?_],[155,dI (hb _ s6 σ6 H6 _ I6 q6) λf s7 q7=> ?_]];have again:∀ {MO:St} {H7:Hp},Inv X (pins++we fp s5.heap) MO H7 s7->N MO H7->∃m,m<n/\∃i cR H',Inv X pins cR H' s7/\tn i s7.heap/\[885]/\W i m cR H':=λ {MO H7} I7 n7=>by
   obtain⟨m',hm,w7⟩:=hN MO H7 n7;refine⟨m',hm,i+1,MO,H7,I7.rR,T.keep _ _ _ Vh λb hb o e=>[1316].1,[279],w7⟩;obtain⟨o,e,d⟩:=T.obj _ _ Vh b hb;exact[1316].2.1
  cases f with
   |next=>
    obtain⟨MO,H7,I7,n7⟩:=q7;exact again I7 n7
   |cont=>
    obtain⟨MO,H7,I7,n7⟩:=q7;exact again I7 n7
   |brk=>
    obtain⟨MO,H7,I7,q7⟩:=q7;rw[0,MO,H7,I7.rR,q7]
   |ret v=>
    obtain⟨x7,MO,H7,I7,r7,q7⟩:=q7;exact⟨x7,MO,H7,I7.rR,r7,q7⟩
end
theorem gS {K:PySem.W.Frag} {a:Addr} {xs:[13]} {D:Ends}(Pv:Nat->[169])(h0:Pv 0 σ H)(hl:[983]) (hs:∀i x σ H,([206])->([507])->[1300])(hd:[955]):∃W:[162,[169]],(∃m,W 0 m σ H)/\∀i m σ H,([596])->((EO K a).stop i H/\[236])\/((EO K a).go i H/\∃N:[169],[646]/\∀x H',(EO K a).M7 i H x H'->[778]):=by
 rw[6,[974],⟨xs.length,[4],[33],h0⟩];rintro i m σ H ⟨rfl,hi,p⟩;have q:=[1048];by_cases ez:[359]
 ·refine[6,[783],Pv (i+1),[905],[676]];obtain⟨e,y⟩:=y;rw[5,hs i x σ _ (y xs q) p]
 ·have e:i=xs.length:=[2];rw[5,[31,⟨xs,q,[8]⟩,hd σ H p]]
end L2
namespace L2
open PySem PySem.Spec PyProof.Rows
variable {pins:[17]} {s:Shared} {σ:St} {H:Hp} {f:Value->Value->[543]} {g:Int->Int->Int} {i j:Int} {op Vb:CmpOp} {x:V} {us:[6]}
abbrev R2:=[364]
def uj(X:Cx)(f:Value->Value->[543])(r:R2):Prop:=[505,([9])->([186])->([133])->r x y H Q->[79,f v u]]
def UnR(X:Cx)(f:Value->[543])(r:V->[227]):Prop:=∀(pins:[17]) (s:Shared) (σ:St) (H:Hp) (x:V) (v:Value) (Q:VK),([9])->([186])->r x H Q->[79,f v]
def pT(X:Cx)(f:Value)(r:[458]):Prop:=∀(pins:[17]) (s:Shared) (σ:St) (H:Hp) (xs:[13]) (us:[6]) (Q:VK),([9])->([185])->r xs H Q->[79,call f us]
def Uc(r:R2)(ta tb:TE):TE:=[100,tb σ H1 λy H2=>r x y H2 Q]
def tUn(r:V->[227])(ta:TE):TE:=[100,r x H1 Q]
def rI(C:[4,Int,Int])(g:Int->Int->V):R2:=[342,x=[112]/\y= .int j/\C i j/\Q (g i j) H]
def M4(g:Int->Int->V):R2:=[342,x=[112]/\y= .int j/\Q (g i j) H]
def rU(g:Int->V):V->[227]:=λx H Q=>∃i,x=[112]/\Q (g i) H
section
variable {X:Cx} {a b c:Expr} {ta tb tc:TE} {pos:Pos}
theorem Rm(ha:[153])(hb:[313]) {R:V->[10,V]}(I:[9]) (h:ta σ H λx H1=>tb σ H1 λy H2=>R x y H2) {Q:[27]} (hf:∀v u s2 x y H2,[17,H2,s2]->([186])->([133])->R x y H2->wpAny [271] X.A (f v u) Q X.xe s2):[19,[52,a],[482,wpAny [271] X.A (f v u) Q X.xe oq],s]:=by
 rw[1,[116,?_],[427,?_]];exact hf v u s2 x y H2 I2 r1 r2 q2
theorem jo {op:Operator} {r:R2}(ho:uj X (binaryOp op) r)(ha:[153])(hb:[313]):PE X (.BinOp a op b pos) (Uc r ta tb):=by rw[38,wpAny_BinOp [1435]]
theorem QL {op:UnaryOp} {r:V->[227]}(ho:UnR X (unaryOp op) r)(ha:[153]):PE X (.UnaryOp op a pos) (tUn r ta):=by rw[38,UnaryOp_ [116,ho pins s1 σ H1 x v Q I1 r1 q1]]
theorem opI {C:[4,Int,Int]} (rule:[416,C i j->([1161])->[168,[967]]]):uj X f (rI C λi j=> .int (g i j)):=by
 intro pins s σ H x y v u Q I rx ry h;obtain⟨i,j,rfl,rfl,hc,q⟩:=h;obtain⟨t,rfl⟩:=rx;rw[11,rule i j t t' s _ _ hc [117,.int (g i j)]]
theorem ZF (rule:[416,([1161])->[168,[967]]]):uj X f [96,.int (g i j)]:=by
 intro pins s σ H x y v u Q I rx ry h;obtain⟨i,j,rfl,rfl,q⟩:=h;obtain⟨t,rfl⟩:=rx;rw[11,rule i j t t' s _ _ [117,.int (g i j)]]
theorem OY {g:Int->Int->Bool} (rule:[416,Q (.bool (g i j)) s->[168,[967]]]):uj X f [96,.bl (g i j)]:=by
 intro pins s σ H x y v u Q I rx ry h;obtain⟨i,j,rfl,rfl,q⟩:=h;obtain⟨t,rfl⟩:=rx;rw[11,rule i j t t' s _ _ [3,.bl (g i j),H,I,q]]
def Q9(i j:Int):Prop:=(-(2 ^64)<i/\i<2 ^64)\/(-(2 ^64)<j/\j<2 ^64)
theorem Q9.ok(h:Q9 i j):IntMulOk i j:=by
 rcases h with⟨h1,h2⟩|⟨h1,h2⟩;rw[2,.of_left (intBits_le_64 h1 h2),.of_right (intBits_le_64 h1 h2)]
theorem nA:uj X (binaryOp .Add) [96,.int (i+j)]:=ZF λ_ _ _ _ _ _ _ q=>add_int q
theorem sJ:uj X (binaryOp .Sub) [96,.int (i -j)]:=ZF λ_ _ _ _ _ _ _ q=>sub_int q
theorem To:uj X (binaryOp .Mult) (rI Q9 λi j=> .int (i*j)):=opI λ_ _ _ _ _ _ _ hc q=>mul_int q hc.ok
theorem unI {f:Value->[543]} {g:Int->Int} (rule:∀(i:Int) (t:Tok) (s:Shared) (Q:[27]) (E:[27]),Q (.int (g i) s.toks) [282]->[168,f (.int i t)]):UnR X f (rU λi=> .int (g i)):=by
 intro pins s σ H x v Q I rx h;obtain⟨i,rfl,q⟩:=h;rw[26,rule i t s _ _ [117,.int (g i)]]
theorem Mz:UnR X (unaryOp .USub) (rU λi=> .int (-i)):=unI λ_ _ _ _ _ q=>neg_int q
end
def Z3:V->V->Bool
 | .cg,.cg=>true| .cg,.int _=>true| .int _,.cg=>true| .cg,.bl _=>true| .bl _,.cg=>true| .cg,.str _=>true| .str _,.cg=>true
 | .int _,.int _=>true| .bl _,.bl _=>true| .str _,.str _=>true| .Ar _,.Ar _=>true
 | .int _,.str _=>true| .str _,.int _=>true| .bl _,.str _=>true| .str _,.bl _=>true
 |_,_=>false
def rEq:R2:=λx y H Q=>Z3 x y=true/\[81,[459]]
def rNe:R2:=λx y H Q=>Z3 x y=true/\[81,! [459]]
theorem E7:[2,V.int i,V.int j]=(i==j):=by
 rw[Bool.eq_iff_iff];simp
theorem Jj {i j:Bool}:[2,V.bl i,V.bl j]=(i==j):=by
 rw[Bool.eq_iff_iff];simp
theorem E8 {i j:Str}:[2,V.str i,V.str j]=(i==j):=by
 rw[Bool.eq_iff_iff];simp
theorem E6 {i j:Array UInt8}:[2,V.Ar i,V.Ar j]=(i.toList==j.toList):=by
 rw[Bool.eq_iff_iff];cases i;cases j;simp
section
variable {X:Cx} {a b c:Expr} {ta tb tc:TE} {pos:Pos}
theorem cN {Q:VK} {k k':Bool}(I:[9])(q:Q (.bl k) H)(e:k=k'):EP X pins σ Q (.bool k') s:=by rw[5,[3,.bl k,H,I,q]]
theorem eV:[89,.Eq,rEq]:=by
 rw[107];cases x with
  |cg=>
   cases rx;cases y with
    |cg=>rw[18,PySem.EqNone.eq_none_none [68]]
    |bl j=>rw[18,PySem.EqNone.eq_none_bool [68]]
    |int j=>rw[11,PySem.EqNone.eq_none_int [68]]
    |str j=>rw[11,PySem.EqNone.eq_none_str [68]]
    |_=>rw[12,hs]
  |bl i=>
   cases rx;cases y with
    |cg=>rw[18,PySem.EqNone.eq_bool_none [68]]
    |bl j=>rw[18,eq_bool (cN I q Jj)]
    |str j=>rw[11,PySem.EqMixed.eq_bool_str [68]]
    |_=>rw[12,hs]
  |int i=>
   obtain⟨t,rfl⟩:=rx;cases y with
    |cg=>rw[18,PySem.EqNone.eq_int_none [68]]
    |int j=>rw[11,eq_int (cN I q E7)]
    |str j=>rw[11,PySem.EqMixed.eq_int_str [68]]
    |_=>rw[12,hs]
  |str i=>
   obtain⟨t,rfl⟩:=rx;cases y with
    |cg=>rw[18,PySem.EqNone.eq_str_none [68]]
    |bl j=>rw[18,PySem.EqMixed.eq_str_bool [68]]
    |int j=>rw[11,PySem.EqMixed.eq_str_int [68]]
    |str j=>rw[11,eq_str (cN I q E8)]
    |_=>rw[12,hs]
  |Ar i=>
   obtain⟨t,rfl⟩:=rx;cases y with
    |Ar j=>rw[11,PySem.W.eq_bytes (cN I q E6)]
    |_=>rw[12,hs]
  |_=>cases y<;>rw[12,hs]
theorem yz:[89,.NotEq,rNe]:=by
 rw[107];cases x with
  |cg=>
   cases rx;cases y with
    |cg=>rw[18,PySem.EqNone.ne_none_none [68]]
    |bl j=>rw[18,PySem.EqNone.ne_none_bool [68]]
    |int j=>rw[11,PySem.EqNone.ne_none_int [68]]
    |str j=>rw[11,PySem.EqNone.ne_none_str [68]]
    |_=>rw[12,hs]
  |bl i=>
   cases rx;cases y with
    |cg=>rw[18,PySem.EqNone.ne_bool_none [68]]
    |bl j=>rw[18,ne_bool [297,Jj]]
    |str j=>rw[11,PySem.EqMixed.ne_bool_str [68]]
    |_=>rw[12,hs]
  |int i=>
   obtain⟨t,rfl⟩:=rx;cases y with
    |cg=>rw[18,PySem.EqNone.ne_int_none [68]]
    |int j=>rw[11,ne_int [297,E7]]
    |str j=>rw[11,PySem.EqMixed.ne_int_str [68]]
    |_=>rw[12,hs]
  |str i=>
   obtain⟨t,rfl⟩:=rx;cases y with
    |cg=>rw[18,PySem.EqNone.ne_str_none [68]]
    |bl j=>rw[18,PySem.EqMixed.ne_str_bool [68]]
    |int j=>rw[11,PySem.EqMixed.ne_str_int [68]]
    |str j=>rw[11,ne_str [297,E8]]
    |_=>rw[12,hs]
  |Ar i=>
   obtain⟨t,rfl⟩:=rx;cases y with
    |Ar j=>rw[11,PySem.W.ne_bytes [297,E6]]
    |_=>rw[12,hs]
  |_=>cases y<;>rw[12,hs]
theorem vW:[88,.Lt,[96,.bl (decide (i<j))]]:=[275,lt_int q]
theorem oh:[88,.LtE,[96,.bl [10,i,j]]]:=[275,le_int q]
theorem vV:[88,.Gt,[96,.bl (decide (j<i))]]:=[275,gt_int q]
theorem yy:[88,.GtE,[96,.bl [10,j,i]]]:=[275,ge_int q]
theorem aZ(b:Expr)(h:op≠.In:=by decide)(h2:op≠.NotIn:=by decide):[636]:=by
 have e1:[24,op,CmpOp.In]:=[321,h];have e2:[24,op,CmpOp.NotIn]:=[321,h2];cases b<;>simp[behindInMarks,e1,e2]
theorem rh {r:R2}(ho:[89,op,r])(ha:[153])(hb:[313])(hm:[636]):PE X [973] (Uc r ta tb):=by rw[38,wpAny_Compare1 [1435] hm]
def Q0(t:TE):TT:=[107,λx H'=>∃k,x= .bl k/\Q k H']
theorem aK {r:R2}(ho:[89,op,r])(ha:[153])(hb:[313])(hm:[636]):PT X [973] (Q0 (Uc r ta tb)):=by
 rw[14,wpAny_isTrue_Compare1 [116,[432,λc s3 ⟨z,H3,I3,r3,k,e,q3⟩=> ?_]] hm];subst e;cases r3;exact wpAny_truthy_bool ⟨H3,I3,q3⟩
def EA(r r':R2)(ta tb tc:TE):TE:=[100,tb σ H1 λy H2=>r x y H2 λz H3=>∃k,z= .bl k/\[5,k,tc σ H3 λw' H4=>r' y w' H4 Q,Q (.bl false) H3]]
theorem o1 {r r':R2}(ho:[89,op,r])(qL:[89,Vb,r'])(ha:[153])(hb:[313])(hc:PE X c tc) (hm:[1280]:=by with_unfolding_all rfl):PE X [1223] (EA r r' ta tb tc):=by
 rw[14,Compare_chain [116,chain_link [1470]] hm];subst e;cases r3;refine[544];cases k with
  |false=>exact ite_ff [3,.bl false,H3,I3,q3]
  |true=>exact ite_tt (chain_last (dI (hc pins s3 σ H3 _ I3 q3) λw' s4 ⟨z',H4,I4,r4,q4⟩=>[513,Q]))
theorem Lz {r r':R2}(ho:[89,op,r])(qL:[89,Vb,r'])(ha:[153])(hb:[313])(hc:PE X c tc) (hm:[1280]:=by with_unfolding_all rfl):PT X [1223] (Q0 (EA r r' ta tb tc)):=by
 rw[14,isTrue_chain [116,test_link [1470]] hm];subst e;cases r3;refine[544];cases k with
  |false=>
   obtain⟨k',e',q'⟩:=q3;cases e';exact ite_ff ⟨H3,I3,q'⟩
  |true=>
   refine ite_tt (test_last (dI (hc pins s3 σ H3 _ I3 q3) λw' s4 ⟨z',H4,I4,r4,q4⟩=>dI [513,_] λd' s5 ⟨z2,H5,I5,r5,k2,e2,q5⟩=> ?_));subst e2;cases r5;exact wpAny_truthy_bool ⟨H5,I5,q5⟩
theorem DN:(sizeLine:Nat)<2 ^63:=by
 rw[sizeLine_eq];decide
theorem vals1(r:Vals [x] us):∃u,us=[u]/\[360]:=by cases r with
 |cons r1 r2=>
  cases r2;rw[6,r1]
theorem vals2 {y:V}(r:Vals [x,y] us):∃u w',us=[u,w']/\[360]/\RelV y w':=by cases r with
 |cons r1 r2=>cases r2 with
  |cons r3 r4=>
   cases r4;exact⟨_,_,rfl,r1,r3⟩
theorem Gy(hc:[356]):[139,"max",∃i j,xs=[[112],.int j]/\Q (.int (if j>i then j else i)) H]:=by
 intro pins s σ H xs us Q I r h;obtain⟨i,j,rfl,q⟩:=h;obtain⟨u,w',rfl,⟨t,rfl⟩,⟨t',rfl⟩⟩:=vals2 r;refine max_two_ints [347] λh' tk k=>⟨_,H,I.kept k,?_,q⟩;by_cases hj:j>i
 ·rw[if_pos hj,if_pos hj];rw[1]
 ·rw[if_neg hj,if_neg hj];rw[1]
theorem Jb:[139,"ord",∃x,xs=[.str x]/\x.length=1/\Q (.int (x.cps.getD 0 0:Nat)) H]:=by
 intro pins s σ H xs us Q I r h;obtain⟨x,rfl,hz,q⟩:=h;obtain⟨u,rfl,t,rfl⟩:=vals1 r;exact ord_of_one hz [117,.int _]
end
end L2
namespace L2
open PySem PySem.Spec PyProof.Rows
variable {Q:[27]} {pl:Sem Bool} {u:Value}
structure CW(h:Heap)(x dx C:Addr)(mA:Str->Option Value):Prop where
 obj:h.get? x=some (PySem.W.instObj C dx)
 ns:h.Ns1 dx mA
 ne:dx≠x
theorem Hx {h:Heap} {dx:Addr} {mA:[16]}(n:h.Ns1 dx mA):∃od,h.get? dx=some od/\∀name,PySem.W.lookIn name od=some (mA name):=by
 obtain⟨o,es,ep,ho,hd,hk,_,hm⟩:=n;refine⟨o,ho,λname=> ?_⟩;have e:=hm name;unfold nsFind findBy at e;rw[<-Array.find?_toList] at e;unfold PySem.W.lookIn;rw[hd];dsimp only;split
 ·rename_i y q;rw[q] at e;exact congrArg some e
 ·rename_i q;rw[q] at e;have a:[8,[1169]]:=by
   rw[List.any_eq_false];intro y hy;obtain⟨z,t,DB⟩:=hk y (Array.mem_toList_iff.mp hy);simp[DictEntry.refKey,DB]
  have a':¬[1169]=true:=by
   rw[a];rw[63]
  rw[0,if_neg a',congrArg some e]
theorem CW.look {h:Heap} {x dx C:Addr} {mA:Str->Option Value}(I:CW h x dx C mA):∃od,PySem.W.InstAt h x (PySem.W.instObj C dx) C (some od)/\∀name,PySem.W.lookIn name od=some (mA name):=
 let⟨od,ho,hl⟩:=Hx I.ns
 ⟨od,⟨I.obj,rfl,rfl,ho⟩,hl⟩
section
variable {prog:Program} {w:World} {A:Around} {E:[27]} {s:Shared} {K:PySem.W.Frag} {x dx C f:Addr} {mA:[16]} {name:Str} {v:Value}
theorem get_map {expr:Bool}(X:[348])(I:[984])(hg:[315,name])(hh:[992]) (ha:[180,name]=some none)(hv:mA name=some v)(Y4:PySem.W.handedIn v=true)(h:Q v [282]):[21,getAttr [54] name expr]:=by
 obtain⟨od,J,hl⟩:=I.look;exact PySem.W.get_value X J [845].1 (PySem.W.findObj_own hh ha rfl (by rw[hl,hv])) Y4 h
theorem J0 {Q:[26,Value×[6]]}(X:[348])(I:[984])(hg:[315,name]) (hf:[310,name])(ht:[993])(hv:mA name=none)(h:Q ([110],[[54]]) s):[21,getMethod [54] name pl]:=by
 obtain⟨od,J,hl⟩:=I.look;exact PySem.W.method_fn X J [845].1 [845].2 hf (beq_iff_eq.mp ht) (by show(PySem.W.lookIn name od).map (·.isSome)=some false;rw[hl,hv];rfl) h
theorem Pt {ns:[19]} {Q:[26,Unit]}(X:[348])(I:[984]) (hs:[1260])(hp:[1261])(ht:PySem.W.takerIn K C name=some none)(hh:[992]) (hw:PySem.Within mA ns)(hsz:[24,ns.length]) (h:∀h',CW h' x dx C (λy=>[4,y,name,some v,mA y])->[164,dx]->Q () [106,s.toks+2]):[21,setAttr [54] name v]:=by
 obtain⟨od,J,hl⟩:=I.look;refine PySem.W.set_plain X J hs (PySem.W.osa_open (s:=[282]) (r:=none) X J hp ht λb=> ?_);obtain⟨cd,hc,Dx⟩:=PySem.W.any_some hh;have hx:s.heap.get? x=some ⟨[87],some dx,.plain,#[]⟩:=I.obj;rw[1,wpAny_pure (wpAny_bind (wpAny_bind (wpAny_loadPart hx (wpAny_bind (PySem.W.Looks.here (s:=[282]) (PySem.W.looks_clsIn X hc) ?_)))))];rw[Dx];rw[1,wpAny_pure (a:=some dx) [161,[78]],wpAny_nsSet1 (s:=[282]) I.ns λh' hn2 DF=> ?_];obtain⟨oD,esD,epD,hoD,hdD,hcD⟩:=hn2.count (PySem.Within.cons name v hw);rw[1,wpAny_lookBehind hoD (by rw[hdD];exact pastItsLine_dict (Nat.le_trans hcD (by rw[44]))) ?_];exact wpAny_pure (h _ ⟨(DF.2 _ (Ne.symm I.ne)).trans I.obj,hn2,I.ne⟩ DF)
theorem vM {R:[691]} {vs:[6]} {kw:[413]}(X:[348])(hm:[1262]) (hi:[310,"__init__"])(hf:PySem.W.typeIn K [110]=some (.type "function")) (h:codeAny [158] (A.under (.builtin "type.__call__" ⟨[87]::vs,kw⟩)) (.call [110] ⟨.ref [64]::vs,kw⟩) (PySem.W.InitBack [64] R) {s with heap:=[962]}):[379,.call [87] ⟨vs,kw⟩]:=by
 obtain⟨hh,g,d,t,os⟩:=s;exact PySem.W.make_core (PySem.W.makes_of X hm) (PySem.W.looks_findIn X hi) (λself=>PySem.W.bind_fn X self hf) [38] h
end
def aL(f:Str)(v:V):([67])->[67]
 | []=>[(f,v)]
 |(g,x)::r=>[4,g,f,(g,v)::r,(g,x)::aL f v r]
theorem lK(f g:Str)(v:V):∀fs:[67],(aL f v fs).lookup g=[4,g,f,some v,fs.lookup g]
 | []=>by
  show List.lookup g [(f,v)]=_;by_cases h:g=f
  ·have hb:(g==f)=true:=[846];simp only[List.lookup,hb,[56]]
  ·have hb:[24,g,f]:=[847];simp only[List.lookup,hb,[48]]
 |(k,x)::r=>by
  have ih:=lK f g v r;rw[[403,[1023]]];by_cases hk:k=f
  ·rw[17,hk];by_cases h:g=k
   ·have hb:(g==k)=true:=[846];simp only[List.lookup,hb,if_pos (h.trans hk)]
   ·have hb:[24,g,k]:=[847];simp only[List.lookup,hb,if_neg (λe:g=f=>h (e.trans hk.symm))]
  ·rw[16,hk];by_cases h:g=k
   ·have hb:(g==k)=true:=[846];simp only[List.lookup,hb,if_neg (λe:g=f=>hk (h.symm.trans e))]
   ·have hb:[24,g,k]:=[847];simp only[List.lookup,hb];exact ih
theorem sy(f:Str)(v:V):∀fs:[67],f∈(aL f v fs).map [44]/\∀g,g∈fs.map [44]->g∈(aL f v fs).map [44]
 | []=>⟨by simp[aL],λg h=>[129]⟩
 |(k,x)::r=>by
  obtain⟨i1,i2⟩:=sy f v r;rw[[403,[1023]]];by_cases hk:k=f
  ·rw[17,hk];subst hk;rw[3,[4],λg h=>[247]]
  ·rw[16,hk];refine⟨?_,λg h=> ?_⟩
   ·rw[List.map_cons];exact[19,i1]
   ·rw[List.map_cons] at h ⊢;rcases List.mem_cons.mp h with e|e;rw[2,List.mem_cons.mpr (.inl e),[357,i2 g e]]
theorem tH(f:Str)(v:V):∀fs:[67],[32,aL f v fs,fs.length+1]
 | []=>by simp[aL]
 |(k,x)::r=>by
  have ih:=tH f v r;rw[[403,[1023]]];by_cases hk:k=f
  ·rw[if_pos hk,List.length_cons,List.length_cons];omega
  ·rw[if_neg hk,List.length_cons,List.length_cons];omega
theorem lQ.some_of {v:V} {o:[174]}(r:lQ (some v) o):∃u,o=some u/\[116]:=by cases o with
 |none=>rw[39]
 |some u=>rw[0,u,rfl,r]
theorem lQ.none_of {o:[174]}(r:lQ none o):o=none:=by cases o with
 |none=>rfl
 |some u=>rw[39]
theorem Hb {v:V}(r:[116]):PySem.W.handedIn u=true:=by cases v with
 |cg=>
  cases (show u=Value.none from r);rfl
 |bl b=>
  cases (show u=Value.bool b from r);rfl
 |int i=>
  obtain⟨t,e⟩:=[144,∃t,u=[109,i]];cases e;rfl
 |str x=>
  obtain⟨t,e⟩:=[144,∃t,u=[744]];cases e;rfl
 |Ar b=>
  obtain⟨t,e⟩:=[144,∃t,u=Value.bytes b t];cases e;rfl
 |WR b=>
  obtain⟨t,e⟩:=[144,∃t,u=Value.float b t];cases e;rfl
 |ref a=>
  cases (show u=Value.ref a from r);rfl
 |ty n=>
  cases (show u=Value.type n from r);rfl
section
variable {P:Program} {w:World} {H H':Hp} {h h':Heap} {a C dx:Addr} {fs fs':[67]}
theorem zt(cH:[79])(e:[29,[48,C]]):∃mA,CW h a dx C mA/\[991]/\PySem.Within mA (fs.map [44])/\fs.length<=1000/\[5,dx,.own a]:=by
 obtain⟨d,z,ne,ob,mA,n,r,q⟩:=[93,[48,C],cH a _ e];exact⟨mA,⟨ob,n,ne⟩,r,q,z,d⟩
end
structure CQ(K:PySem.W.Frag)(C:Addr):Prop where
 pg:PySem.W.plainGet K C Str.empty=true
 hd:PySem.W.hasDictIn K C=true
 po:PySem.W.plainOver K C=true
 sa:PySem.W.findIn K (.ref C) "__setattr__"=some (some (.builtin "object.__setattr__"))
theorem CQ.get {K:PySem.W.Frag} {C:Addr}(c:CQ K C)(f:Str):[315,f]:=c.pg
def eB(K:PySem.W.Frag)(C:Addr)(f:Str):Prop:=[180,f]=some none
theorem eB.taker {K:PySem.W.Frag} {C:Addr} {f:Str}(n:eB K C f):PySem.W.takerIn K C f=some none:=by
 unfold PySem.W.takerIn;rw[show[180,f]=some none from n];rfl
structure Meth(K:PySem.W.Frag)(C:Addr)(m:Str)(f:Addr):Prop where
 at_:PySem.W.findIn K (.ref C) m=some (some (.ref f))
 fn:PySem.W.isFn K (.ref f)=true
 kp:PySem.W.keepIn K (.ref f)=true
section
variable {X:Cx} {pins:[17]} {σ:St} {H:Hp} {s:Shared} {a C dx:Addr} {fs:[67]} {f:Str} {v:V} {A:Around} {E:[27]}
theorem u9 {b:Bool}(I:[9])(e:[29,[48,C]])(c:CQ X.K C)(n:eB X.K C f)(l:[334]=some v) (h:∀u s',[17,H,s']->([116])->Q u s'):[151,getAttr [10] f b]:=by
 obtain⟨mA,O,r,_,_,_⟩:=zt I.cH e;obtain⟨u,hu,ru⟩:=[109,mA f,(by rw[<-l];exact r f)];exact get_map I.pP O (c.get f) c.hd n hu (Hb ru) (h u _ [139] ru)
theorem Ds {m:Str} {g:Addr} {Q:[26,Value×[6]]}(I:[9])(e:[29,[48,C]])(c:CQ X.K C)(k:Meth X.K C m g)(l:fs.lookup m=none) (h:Q (.ref g,[[10]]) s):[151,getMethod [10] m pl]:=by
 obtain⟨mA,O,r,_,_,_⟩:=zt I.cH e;have hn:mA m=none:=lQ.none_of (by rw[<-l];exact r m);exact J0 I.pP O (c.get m) k.at_ k.fn hn h
theorem wy {y:V} {Q:Unit->Shared->Prop}(I:Inv X pins σ H s)(e:H a=some (.ins C dx fs))(c:CQ X.K C)(n:eB X.K C f)(hl:fs.length<1000)(ry:RelV y u)
 (h:∀s',Inv X pins σ (upd H a (.ins C dx (aL f y fs))) s'->Q () s'):wpAny (model X.prog X.w) A (setAttr (.ref a) f u) Q E s:=by
 obtain⟨mA,O,r,wi,_,ho⟩:=zt I.cH e;have hz:(fs.map (·.1)).length<=sizeLine:=by rw[List.length_map,sizeLine_eq];omega
 refine Pt I.pP O c.sa c.po n.taker c.hd wi hz λh' O' sb=>h _ ?_;have hd:∃o,h'.get? dx=some o:=let⟨o,_,_,e',_⟩:=O'.ns;⟨o,e'⟩;refine I.write (x:=a) (e:=dx) (by rw[e];exact True.intro) (.inr ho) (λb q hb z=>(sb.2 b hb).trans z) hd ?_;refine⟨by rw[aj O.ne];exact ho,?_,O.ne,O'.obj,_,O'.ns,λg=> ?_,λg hg=> ?_⟩
 ·have:=tH f y fs;omega
 ·show lQ ((aL f y fs).lookup g) (if g=f then some u else mA g);rw[lK];by_cases q:g=f
  ·rw[if_pos q,if_pos q];exact ry
  ·rw[if_neg q,if_neg q];exact r g
 ·by_cases q:g=f
  ·rw[q];exact(sy f y fs).1
  ·refine(sy f y fs).2 g (wi g λz=>hg ?_);show(if g=f then some u else mA g)=none;rw[if_neg q];exact z
theorem Inv.made(I:[9]):[65,upd [374,.own [64]] [64] [1217],{s with heap:=[962]}]:=by
 have e1:[513].get? s.heap.objs.size=some PySem.W.emptyDict:=Heap.get?_push_size s.heap rfl;have e2:[962].get? [64]=some [817]:=by
  have:=Heap.get?_push_size [513] (o:=[817]) rfl;rwa [Heap.size_push] at this
 have e3:[513].Ns s.heap.objs.size [514]:=⟨PySem.W.emptyDict,#[],_,e1,rfl,(λe he=>[142,he]),λ_=>rfl⟩;have I1:=I.laid (a:=s.heap.objs.size) (o:= .own [64]) (h':=[513]) (t':=s.toks) (λb u q=>[42,q]) [8] [34,e1];refine I1.laid (a:=[64]) (o:=[1217]) (t':=s.toks) (λb u q=>[42,q]) (Nat.le_of_eq (Heap.size_push _ _)) ?_;have ne:s.heap.objs.size≠[64]:=[592];refine⟨by rw[aj ne,ag],[33],ne,e2,[514],(Heap.Ns1.of_empty e3).at λo q=>[42,q],λ_=>True.intro,λy hy=>absurd rfl hy⟩
theorem Nf {prog:Program} {w:World} {env:Env} {e:Expr} {f:Str} {pos:Pos} {s:Shared}(hb:attributeBase e f env (eval e env)=eval e env) (h:wpAny [158] A (eval e env) (λo dZ=>wpAny [158] A (getAttr o f true) Q E dZ) E s):[21,eval [963] env]:=Attribute_any_ h (by rw[arm_eval_Attribute,hb])
end
def tFld(K:PySem.W.Frag)(ta:TE)(f:Str):TE:=[100,∃a C dx fs v,x=[10]/\[5,H1 a,[48,C],CQ K C,eB K C f/\[334]=some v/\Q v H1]]
def sFld(K:PySem.W.Frag)(ta tv:TE)(f:Str):TS:=λD σ H=>tv σ H λy H1=>ta σ H1 λx H2=>∃a C dx fs,x=[10]/\[5,H2 a,[48,C],CQ K C,eB K C f/\fs.length<1000/\D.nx σ (upd H2 a [9,C,aL f y fs])]
def Rb(X:Cx)(op:Operator)(rd:[364]):Prop:=∀(pins:[17]) (s:Shared) (σ:St) (H:Hp) (x y:V) (u v:Value) (Q:VK),([9])->([360])->RelV y v->rd x y H Q->[79,inplaceOp op u v]
def Pe(K:PySem.W.Frag)(ta tv:TE)(rd:[364])(f:Str):TS:=λD σ H=>ta σ H λx H1=>∃a C dx fs v,x=[10]/\[5,H1 a,[48,C],CQ K C,eB K C f/\[334]=some v/\tv σ H1 λy H2=>rd v y H2 λz H3=>∃Jp fs',[5,H3 a,.ins C Jp fs',fs'.length<1000,D.nx σ (upd H3 a (.ins C Jp (aL f z fs')))]]
section
variable {X:Cx} {o e value:Expr} {f:Str} {pos pos' EG:Pos} {ta tv:TE}
theorem aJ(he:PE X e ta)(hb:[1401]):PE X [963] (tFld X.K ta f):=by
 rw[14,Nf hb [171,λu s1 ⟨x,H1,I1,rx,a,C,dx,fs,v,ex,ea,c,n,l,q⟩=> ?_]];subst ex;obtain rfl:u=[128]:=rx;exact u9 I1 ea c n l λu' s2 I2 ru=>⟨v,H1,I2,ru,q⟩
theorem a9(ha:PE X o ta)(hv:PE X value tv)(hs:[160,value,.Attribute o f pos']):PS X (.Assign [.Attribute o f pos'] value pos) (sFld X.K ta tv f):=by
 rw[37,plainObj_wpAny_Assign_Attribute (dI (hv pins s σ H _ I h) λu s1 ⟨y,H1,I1,ry,q⟩=>dI (ha pins s1 σ H1 _ I1 q) λov s2 ⟨x,H2,I2,rx,a,C,dx,fs,ex,ea,c,n,l,q2⟩=> ?_) hs];subst ex;obtain rfl:ov=[128]:=rx;exact wy I2 ea c n l ry λs3 I3=>⟨σ,_,I3,q2⟩
theorem kP {op:Operator} {rd:[364]}(ha:PE X o ta)(hv:PE X value tv)(hop:Rb X op rd):PS X (.AugAssign (.Attribute o f EG) op value pos) (Pe X.K ta tv rd f):=by
 rw[37,wpAny_AugAssign_AttributeAny [255,λov s1 ⟨x,H1,I1,rx,a,C,dx,fs,v,ex,ea,c,n,l,q⟩=> ?_]];subst ex;obtain rfl:ov=[128]:=rx;rw[4,u9 I1 ea c n l λu s2 I2 ru=>dI (hv pins s2 σ H1 _ I2 q) λw3 s3 ⟨y,H2,I3,ry,q3⟩=>dI (hop pins s3 σ H2 v y u w3 _ I3 ru ry q3) λw4 s4 ⟨z,H3,I4,rz,Jp,fs',ea',l',q4⟩=> ?_,wy I4 ea' c n l' rz λs5 I5=>⟨σ,_,I5,q4⟩]
def rAdd:[364]:=[380,i+j]
def rSub:[364]:=[380,i -j]
theorem vk:Rb X .Add rAdd:=by
 rintro pins s σ H x y u v Q I rx ry ⟨i,j,rfl,rfl,q⟩;obtain⟨t,rfl⟩:=[1170];obtain⟨t',rfl⟩:=(show∃t',v=Value.int j t' from ry);exact PyProof.Rows.iadd_int [117,.int (i+j)]
theorem SN:Rb X .Sub rSub:=by
 rintro pins s σ H x y u v Q I rx ry ⟨i,j,rfl,rfl,q⟩;obtain⟨t,rfl⟩:=[1170];obtain⟨t',rfl⟩:=(show∃t',v=Value.int j t' from ry);exact PyProof.Rows.isub_int [117,.int (i -j)]
end
end L2
namespace L2
open PySem PySem.Spec PyProof.Rows
variable {A:Around} {us:[6]} {kw:[413]} {P:Program} {w:World} {K:PySem.W.Frag} {mg:[16]} {base:Heap} {outer:[123]} {Q:VK} {vs:[13]} {N:[19]} {qual:Str} {scope:Scope}
structure ij(k:Nat)(A:Around):Prop where
 hd:A.handled=none
 dp:A.depth+k+5<recursionLimit
 un:A.units+16*k+200<cLine
theorem ij.mono {j k:Nat}(r:ij k A)(h:j<=k):ij j A:=⟨r.hd,by rw[0,r.dp],by rw[0,r.un]⟩
theorem ij.deeper {k:Nat} {A:Around}(r:ij (k+1) A)(env:Env):ij k (A.deeper env):=⟨r.hd,by have:=r.dp;show A.depth+1+k+5<_;omega,by have:=r.un;show A.units+3+16*k+200<_;omega⟩
theorem vL {C:Addr}:[625].depth=A.depth+1:=by first|rfl|simp[Around.under,Code.weight,Code.isCreation,Code.isGuard,Code.isCaller,Code.frames,Code.isFrame,guardIds]
theorem vN {C:Addr}:[625].units=A.units+1:=by first|rfl|simp[Around.under,Code.cUnits,Code.frames,Code.isFrame]
theorem ij.make {k:Nat}(r:ij (k+1) A)(C:Addr)(us:[6])(kw:[413]):ij k [625]:=⟨r.hd,by have:=r.dp;rw[vL];omega,by have:=r.un;rw[vN];omega⟩
theorem ij.depth {k:Nat} {A:Around}(r:ij k A):A.depth<recursionLimit:=by rw[0,r.dp]
theorem ij.units {k:Nat} {A:Around}(r:ij k A):[191,64]:=by rw[0,r.un]
def Il:TA:=λ_ H Q=>Q [] H
def o9(ta:TE)(tr:TA):TA:=[100,tr σ H1 λxs H2=>Q (x::xs) H2]
section
variable {X:Cx} {e:Expr} {es:[115]} {te:TE} {t:TA} {pos:Pos}
theorem af:PA X [] Il:=λ_ _ _ _ H Q I h=>Calls.spliced_nil ⟨[],H,I,.nil,h⟩
theorem aa(ha:[308])(hr:PA X es t)(hs:[224]:=by rfl):PA X (e::es) (o9 te t):=by
 intro pos pins s σ H Q I h;rw[hs];show wpAny _ _ (spliced ((false,[52,e])::backTo pos [396])) _ _ s;rw[4,Calls.spliced_cons [255,[1228]],dI (hr pos pins s1 σ H1 _ I1 q1) λus s2 ⟨xs,H2,I2,r2,q2⟩=>⟨x::xs,H2,I2,.cons r1 r2,q2⟩]
def tTup(t:TA):TE:=[464,upd H1 p [119]]
def tLst(t:TA):TE:=[464,upd H1 p [60]]
theorem fk {x1}(h:PA X es t):PE X (.Tuple es x1 pos) (tTup t):=by
 intro pins s σ H Q I hq;refine wpAny_Tuple_spliced (dI [1460] λus s1 ⟨xs,H1,I1,r,z,q⟩=>[30,(by rw[<-r.length];exact z)]);have hf:[1134]:=[441];rw[4,[3,.ref s1.heap.objs.size,upd H1 s1.heap.objs.size [119],[1351],q _ hf],⟨z,us,r,⟨_,[108],rfl,_,rfl⟩⟩]
theorem bz(h:PA X es t):PE X (.List es pos) (tLst t):=by
 intro pins s σ H Q I hq;refine wpAny_List_spliced (dI [1460] λus s1 ⟨xs,H1,I1,r,z,q⟩=>[30,(by rw[<-r.length];exact z)]);have hf:[1134]:=[441];rw[4,[3,.ref s1.heap.objs.size,upd H1 s1.heap.objs.size [60],[1351],q _ hf],⟨z,us,0,r,[108]⟩]
end
abbrev Sp:=([13])->Hp->[4,VK,XK]
abbrev CD:=([123])->Hp->Shared->XK->[27]
structure y0(P:Program)(w:World)(K:PySem.W.Frag)(mg:Str->Option Value)(base:Heap)(A:Around)(outer:List Env)(s:Shared)(H:Hp):Prop where
 frames:A.frames=some outer
 mod:Mod K mg base
 bs:∀b o,base.get? b=some o->s.heap.get? b=some o/\H b=none
 I0:base.objs.size<=s.heap.objs.size
 qR:s.heap.FunFrames base outer
 NM:∀b∈nW outer,H b=none
 cH:lY P w H s.heap
 bare:AllBare s.gens
def CE(outer:[123])(P:Program)(w:World)(H:Hp)(s:Shared)(Q:VK)(u:Value)(s':Shared):Prop:=∃v H',[500,lY P w H' s'.heap/\[116]/\Q v H']
def CR(CX:CD)(outer:[123])(P:Program)(w:World)(H:Hp)(s:Shared)(Q:VK)(E:XK)(r:Result)(s':Shared):Prop:=match r with
 | .ok (.ret u)=>[1025]
 | .ok _=>False
 | .error e=>CX outer H s E e s'
structure aC(P:Program)(w:World)(K:PySem.W.Frag)(mg:Str->Option Value)(base:Heap)(CX:CD)(k:Nat)(f:Addr)(fd:FuncData)(ps:List Str)(sp:Sp):Prop where
 len:∀vs H Q E,sp vs H Q E->vs.length=ps.length
 run:∀(A:Around) (outer:List Env) (s:Shared) (H:Hp) (args:Args) (us:List Value) (vs:List V) (Q:VK) (E:XK),ij k A->y0 P w K mg base A outer s H->BindsTo s fd args (ps.zip us)->Vals vs us->sp vs H Q E->
  codeAny (model P w) A (.call (.ref f) args) (CR CX outer P w H s Q E) s
theorem y0.make {s:Shared} {H:Hp}(e:[1068])(C:Addr)(us:[6])(kw:[413]):y0 P w K mg base [625] outer s H:=⟨by first|exact e.frames|(simpa [Around.under,Code.envs,Code.isFrame,pushEnvs] using e.frames),e.mod,e.bs,e.I0,e.qR,e.NM,e.cH,e.bare⟩
section
variable {X:Cx} {pins:[17]} {σ:St} {H:Hp} {s s':Shared}
theorem Inv.Jq(I:[9]):y0 X.prog X.w X.K X.mg X.base X.A X.stack s H:=⟨I.ok.frames,I.ok.mod,I.bs,[272,I.sz],I.stack,I.uE,I.cH,I.bare⟩
theorem Inv.after {u:Value}(I:[9])(h:CE X.stack X.prog X.w H s Q u s'):EP X pins σ Q u s':=by
 obtain⟨v,H',os,bare,un,cH,r,q⟩:=h;obtain⟨hh,g,d,t,ZG⟩:=s';obtain rfl:ZG=s.os:=os;exact⟨v,H',I.call (h':=hh) (g':=g) (d':=d) (t':=t) (ch:=[]) un cH bare [750],r,q⟩
end
def Mm(sp:Sp)(qJ:[13])(E:XK)(t:TA):TE:=[233,sp (vs++qJ) H1 Q E]
def tMeth(C:Addr)(m:Str)(sp:Sp)(qJ:[13])(E:XK)(ta:TE)(t:TA):TE:=[100,∃a dx fs,x=[10]/\H1 a=some [48,C]/\fs.lookup m=none/\t σ H1 λvs H2=>sp (x::(vs++qJ)) H2 Q E]
def Ga(C:Addr)(sp:Sp)(qJ:[13])(E:XK)(t:TA):TE:=[233,∀x dx,H1 x=none->H1 dx=none->dx≠x->sp ([54]::(vs++qJ)) (upd (upd H1 dx (.own x)) x [104,C]) [961] E]
def Binds(K:PySem.W.Frag)(fd:FuncData)(ps:[19])(ds:[6]):Prop:=[244,([348])->[198,us++ds]->[293,ps.zip (us++ds)]]
theorem Binds.all {fd:FuncData} {ps:[19]}(h:∀us:[6],[428,bindArgs fd [49,us]]):[751]:=λs us _ hl=>by
 rw[List.append_nil] at hl ⊢;exact .of_eq (h us hl)
def Passes(CX:CD)(X:Cx)(E:XK):Prop:=∀(pins:[17]) (σ:St) (H:Hp) (s:Shared) (e:Value) (s':Shared),([9])->CX X.stack H s E e s'->X.xe e s'
section
variable {X:Cx} {CX:CD} {k:Nat} {f C:Addr} {fd:FuncData} {ps:[19]} {sp:Sp} {qJ:[13]} {ds:[6]} {E:XK} {x m:Str} {p pos apos:Pos} {e o:Expr} {es:[115]} {ta:TE} {t:TA}
theorem Em {pins:[17]} {σ:St} {H:Hp} {s:Shared}(F:[393])(hr:ij k X.A)(hb:[380])(hd:[383])(hx:[387]) (I:[9])(r:[297])(h:sp (vs++qJ) H Q E):[79,call [110] us]:=by
 have r2:Vals (vs++qJ) (us++ds):=r.append hd;have hl:[198,us++ds]:=by
  rw[<-r2.length];exact[251,h]
 rw[34,codeAny_mono (F.run X.A X.stack s H [49,us] (us++ds) (vs++qJ) Q E hr I.Jq (hb s us I.pP hl) r2 h) λr s' hq=> ?_];cases r with
  |error e=>exact hx pins σ H s e s' I hq
  |ok fl=>cases fl with
   |ret u=>exact I.after hq
   |next=>rw[8,hq]
   |brk=>rw[8,hq]
   |cont=>rw[8,hq]
theorem au(F:[393])(hr:ij k X.A)(hg:[192])(hm:X.mg x=some [110])(hk:[85,X.K,[110]])(hb:[380])(hd:[383])(hx:[387]) (ha:[316])(xn:[117]:=by decide)(he:[224]:=by rfl)(bQ:[470]:=by rfl):[204,Mm sp qJ E t]:=by
 intro pins s σ H Q I h;rw[1,[489],[372,[345,[30,I1.pP]]]];exact Em F hr hb hd hx I1 r q
theorem aD {pl:Sem Bool}(he:PE X o ta)(c:CQ X.K C)(hm:Meth X.K C m f)(F:aC X.prog X.w X.K X.mg X.base CX k f fd ps sp)(hr:ij k X.A)(hb:Binds X.K fd ps ds)(hd:Vals qJ ds)(hx:Passes CX X E)(ha:PA X (e::es) t)
 (vg:starEach (e::es) X.env=(false,eval e X.env)::starEach es X.env:=by rfl)(bQ:(backTo pos (starEach es X.env)).any (·.1)=false:=by rfl)
 (ht:eval (.Call (.Attribute o m apos) (e::es) [] pos) X.env=(do
  let ov <-eval o X.env
  standAt apos.atName
  let(f,first) <-holding [ov] (getMethod ov m pl)
  callWith pos f first (backTo pos (starEach (e::es) X.env)) (backToKw pos (keywordEach [] X.env))):=by rfl):
 PE X (.Call (.Attribute o m apos) (e::es) [] pos) (tMeth C m sp qJ E ta t):=by
 intro pins s σ H Q I h;refine PySem.W.methodCall_KW (pl:=pl) (dI (he pins s σ H _ I h) λu s1 ⟨x,H1,I1,rx,a,dx,fs,ex,ea,l,q⟩=> ?_) ht;subst ex;obtain rfl:u=Value.ref a:=rx;refine Ds I1 ea c hm l ?_;refine PySem.W.callWith_K (first:=[.ref a]) (h₀:=X.base) I.ok.mod.MY hm.kp (dI (ha pos pins s1 σ H1 _ I1 q) λus s2 ⟨vs,H2,I2,r,q2⟩=>⟨I2.pP,?_⟩) vg bQ;exact Em (us:= .ref a::us) (vs:= .ref a::vs) F hr hb hd hx I2 (.cons rfl r) q2
structure Mk(K:PySem.W.Frag)(C f:Addr):Prop where
 makes:PySem.W.makesIn K C=true
 init:PySem.W.findIn K (.ref C) "__init__"=some (some (.ref f))
 fn:PySem.W.isFn K (.ref f)=true
 kp:PySem.W.keepIn K (.ref C)=true
theorem BU {pins:[17]} {σ:St} {H:Hp} {s:Shared}(M:[637])(F:[393])(hr:ij (k+1) X.A)(hb:[380])(hd:[383]) (hx:[387])(I:[9])(r:[297]) (h:[347,sp ([54]::(vs++qJ)) [154,C] [961] E]):[79,call [87] us]:=by
 have hq:=h [64] s.heap.objs.size (I.cH.fresh (Nat.le_succ _)) [440] [592];have I2:=Inv.made (C:=C) I;have r2:Vals (V.ref [64]::(vs++qJ)) (Value.ref [64]::(us++ds)):=[113,r.append hd];have hl:[198,Value.ref [64]::us++ds]:=by
  have e:=r2.length;rw[[251,hq]] at e;exact e.symm
 rw[34,[150,I.pP,F.run _ X.stack _ _ [49,Value.ref [64]::us] (Value.ref [64]::(us++ds)) _ _ E (hr.make C us []) (I2.Jq.make C us []) (hb _ (Value.ref [64]::us) I2.pP hl) r2 hq]];cases r with
  |error e=>exact hx pins σ _ _ e s' I2 xp
  |ok fl=>cases fl with
   |ret u=>
    obtain⟨v,H',I3,rv,ev,q3⟩:=I2.after xp;subst ev;rw[3,rv,[3,V.ref [64],H',I3,q3]]
   |next=>rw[8,xp]
   |brk=>rw[8,xp]
   |cont=>rw[8,xp]
theorem gA(M:[637])(F:[393])(hr:ij (k+1) X.A)(hg:[192])(hm:[732])(hb:[380])(hd:[383])(hx:[387]) (ha:[316])(xn:[117]:=by decide)(he:[224]:=by rfl)(bQ:[470]:=by rfl):[204,Ga C sp qJ E t]:=by
 intro pins s σ H Q I h;rw[1,[489],[1211]];exact BU M F hr hb hd hx I1 r q
theorem Ls(M:[637])(F:[393])(hr:ij (k+1) X.A)(hg:[192])(hm:[732])(hb:[380])(hd:[383])(hx:[387]) (xn:[117]:=by decide):PE X (.Call (.Name x p) [] [] pos) (Ga C sp qJ E Il):=by rw[17,[489],PySem.W.callWith_K0 I.pP M.kp (BU (us:=[]) M F hr hb hd hx I .nil h)]
end
def PK(X:Cx)(KR:[545])(t:TA):Prop:=[503,([9])->t σ H Q->wpAny [271] X.A (evalAll ([68,[765]])) (AP X pins σ Q) X.xe s]
section
variable {X:Cx} {CX:CD} {k:Nat} {f C:Addr} {fd:FuncData} {ps ks:[19]} {sp:Sp} {E:XK} {x m:Str} {p pos apos Hv:Pos} {e o:Expr} {es:[115]} {KR:[545]} {te ta:TE} {t tk:TA} {nm:Option Str}
theorem fq:PK X [] Il:=λ_ _ _ _ H Q I h=>wpAny_evalAll_nil ⟨[],H,I,.nil,h⟩
theorem bG(ha:PE X e te)(hr:PK X KR t):PK X (⟨nm,e,Hv⟩::KR) (o9 te t):=by
 intro pos pins s σ H Q I h;show wpAny _ _ (evalAll ((do let v <-eval e X.env;standAt pos;pure v)::(backToKw pos (keywordEach KR X.env)).map (·.2))) _ _ s;refine wpAny_evalAll_cons (wpAny_bind (dI (ha pins s σ H _ I h) λu s1 ⟨x,H1,I1,r1,q1⟩=>wpAny_bind (wpAny_standAt (wpAny_pure ?_))));exact dI (hr pos pins s1 σ H1 _ I1 q1) λus s2 ⟨xs,H2,I2,r2,q2⟩=>⟨x::xs,H2,I2,.cons r1 r2,q2⟩
structure CT(K:PySem.W.Frag)(fd:FuncData)(ps ks:List Str)(g:List Value->List Value->List Value)(gV:List V->List V->List V):Prop where
 to:∀(s:Shared) (us ws:List Value),K.In s.heap->(g us ws).length=ps.length->BindsTo s fd ⟨us,ks.zip ws⟩ (ps.zip (g us ws))
 rel:∀ {vs:List V} {us:List Value} {zs:List V} {ws:List Value},Vals vs us->Vals zs ws->Vals (gV vs zs) (g us ws)
variable {g:([6])->([6])->[6]} {gV:[977]}
end
structure aA(N P:List Str)(sc:Scope):Prop where
 kind:sc.kind= .function
 co:sc.isCoroutine=false
 gen:sc.isGenerator=false
 nd:N.Nodup
 pre:N.take P.length=P
 par:∀x∈P,sc.names.lookup x=some .local\/sc.names.lookup x=some .cell
 La:∀y∈sc.names,y.2≠ .free
theorem xQ {kindOf:[745]} {x:Str}:[489,bindL kindOf binds m x]
 | [],_,_=>rfl
 |(n,v)::r,m,h=>by
  unfold bindL;rw[xQ λw hw=>h w [19,hw]];split
  ·have:x≠n:=by
    rintro rfl;exact h v List.mem_cons_self
   simp[this]
  ·rfl
theorem xP {kindOf:[745]} {x:Str}:[489,bindC kindOf binds m x]
 | [],_,_=>rfl
 |(n,v)::r,m,h=>by
  unfold bindC;rw[xP λw hw=>h w [19,hw]];split
  ·rfl
  ·have:x≠n:=by
    rintro rfl;exact h v List.mem_cons_self
   simp[this]
theorem rY {kindOf:[745]} {x:Str} {v:Value}:[165,[227,kindOf x],bindL kindOf (P.zip vs) m x]
 | [],_,_,_,_,h,_,_=>[129]
 |_::_,[],_,_,_,_,h,_=>[129]
 |p::P,w::vs,0,m,nd,h1,h2,hk=>by
  rw[99];show bindL kindOf [772] m p=_;unfold bindL;rw[xQ [1352],if_pos hk];simp
 |p::P,w::vs,i+1,m,nd,h1,h2,hk=>by
  show bindL kindOf [772] m x=_;unfold bindL;exact rY (i:=i) [820].2 [838] [188] hk
theorem rX {kindOf:[745]} {x:Str} {v:Value}:[165,kindOf x≠some .local,bindC kindOf (P.zip vs) m x]
 | [],_,_,_,_,h,_,_=>[129]
 |_::_,[],_,_,_,_,h,_=>[129]
 |p::P,w::vs,0,m,nd,h1,h2,hk=>by
  rw[99];show bindC kindOf [772] m p=_;unfold bindC;rw[xP [1352],if_neg hk];simp
 |p::P,w::vs,i+1,m,nd,h1,h2,hk=>by
  show bindC kindOf [772] m x=_;unfold bindC;exact rX (i:=i) [820].2 [838] [188] hk
def start(N:[19])(vs:[13]):St:=vs.map some++List.replicate (N.length -vs.length) none
def oo(CX:CD)(P:Program)(w:World)(K:PySem.W.Frag)(mg:[16])(base:Heap)(N:[19])(qual:Str)(scope:Scope)(f:Addr)(cd:Value)(A:Around)(outer:[123])(s:Shared)(H:Hp)(E:XK):Cx where
 prog:=P
 w:=w
 K:=K
 mg:=mg
 base:=base
 A:=A.deeper [278]
 N:=N
 xB:=s
 Uv:=H
 env:=[278]
 outer:=outer
 stack:=[1133]
 ex:=[]
 calm:=true
 fn:=λ_=>true
 pn:=[]
 xe:=λe s'=>wpAny (model P w) (A.deeper [278]) (leaving [278] e) (λ_ ZS=>CX outer H s E e ZS) (λe' ZS=>CX outer H s E e' ZS) s'
theorem qO {sc:Scope} {n:Nat} {x:Str}(h:[426]=some .cell):∃c,(cellsFrom n sc.names []).lookup x=some c:=by
 have q:=PySem.W.cellsFrom_some sc.names n [] (.inl h);exact Option.isSome_iff_exists.mp q
theorem Hm {CX:CD} {ps:[19]} {f:Addr} {cd:Value} {s s1:Shared} {H:Hp} {E:XK} (S:[768])(hd:[215])(e0:[1068])(hl:vs.length=ps.length)(r:[297]) (x:[1447]):[323,[253,cd]]:=by
 have bQ:ps.length<=N.length:=by
  have:=[358,S.pre];rw[81]
 obtain⟨h1,tk,rfl,hk⟩:=x.done;have M0:∀b:Addr,b∉[253,cd].ex:=[1304];refine[512,⟨e0.mod,S.kind,rfl,rfl,[8],λy z c h1 h2=> ?_,λy hy=> ?_,λy c _ h=> ?_,λ_=>hd,[1106],.inr [18,rfl],[774],e0.bs,e0.I0,λb _ _=>M0 b,[774],e0.qR,e0.NM⟩]
 ·exact[1263]
 ·have hy:[107,[204],[204]]:=hy;rcases hy with hy|hy;rw[2,qO hy,absurd rfl [1171]]
 ·exact[784]
 ·have hi:[692]:=by
   unfold start at h2;by_cases hi:[692]
   ·exact hi
   ·rw[125]
  have ha:[3,vs,v]:=by
   unfold start at h2;rw[[1145],List.getElem?_map] at h2;cases e:vs[i]? with
    |none=>rw[64]
    |some a=>
     rw[64];rfl
  obtain⟨u,hu,rv⟩:=r.get ha;have hp:[3,ps,y]:=by
   rw[<-S.pre,List.getElem?_take_of_lt [2]];exact h1
  have Zl:ps.Nodup:=by
   rw[<-S.pre];exact S.nd.sublist [942]
  rw[6,u,rv];rcases S.par y (List.mem_of_getElem? hp) with k|k
  ·exact[31,k,rY Zl hp hu k]
  ·obtain⟨c,e⟩:=qO (n:=[64]) k;refine[6,.inl k,c,e,?_];have q:=x.cell y c e;rw[rX Zl hp hu (by show[204]≠_;rw[k];decide)] at q;exact q
 ·exact e0.cH.fresh [784]
 ·rw[123]
theorem JF {CX:CD} {k:Nat} {f:Addr} {name:Str} {params:Arguments} {body:[207]} {dV kV doc pm bU ct oc:Value} {an od:[241]} {vY:[565]} {ps:[19]} {sp:Sp}(lk:[214,[804]])(xZ:[613])(S:[768]) (len:[628]) (qT:[506,[282,[1188]]->([329])->∃t,Af [253,bU] body t/\[200,[331]]]):aC P w K mg base CX (k+1) f [804] ps sp:=by
 rw[7,len,[1107]];have hl:=len _ _ _ _ vf;have KX:[348]:=[1150];have lim:s.heap.NoLimit:=[1151];have Kh:[1417]:=λ⟨n,v⟩ hy=>by
  rcases S.par n (List.of_mem_zip hy).1 with q|q;rw[2,.inl q,.inr ⟨q,[1353]⟩]
 rw[1,[1461],[1264]];subst he;rw[7,[1108],codeAny_func ?_];obtain⟨t,ht,hq⟩:=[1471];have I:[323,[253,bU]]:=Hm S hr.hd e0 hl r x;refine wpAny_mono (ht [] s1 [331] H _ I hq) (λfl s' hs=> ?_) λe s' hs=>hs;have fin:∀ {cR:St} {H':Hp} {v:V} {u:Value},Inv [253,bU] [] cR H' s'->([116])->Q v H'->[1025]:=λ {cR H' v u} J rv q=>[1462];cases fl with
  |ret u=>
   obtain⟨v,cR,H',J,rv,q⟩:=hs;exact fin J rv q
  |next=>
   obtain⟨cR,H',J,q⟩:=hs;exact[477,q]
  |brk=>
   obtain⟨_,_,_,q⟩:=hs;rw[8,q]
  |cont=>
   obtain⟨_,_,_,q⟩:=hs;rw[8,q]
end L2
namespace L2
open PySem PySem.Spec PyProof.Rows
section
variable {X:Cx} {x:Str} {p pos:Pos} {e:Expr} {es:[115]} {t:TA} {id T:String} {r:[458]}
def tCB(r:[458])(t:TA):TE:=[233,r vs H1 Q]
theorem bO(hc:pT X [407] r)(hg:[192])(hm:X.mg x=none)(hv:[842]=some [407])(ha:[316])(hn:[890]:=by decide)(xn:[117]:=by decide) (he:[224]:=by rfl)(bQ:[470]:=by rfl):[204,tCB r t]:=by rw[17,wpAny_Call_Name_kw (vD I hg hm hv ?_ hn xn),PyProof.Rows.callWith_builtin1 [309,[1475]] he bQ]
theorem i7(hc:pT X (.type T) r)(hg:[192])(hm:X.mg x=none)(hv:[842]=some (.type T))(ha:[316])(hn:[890]:=by decide)(xn:[117]:=by decide) (he:[224]:=by rfl)(bQ:[470]:=by rfl):[204,tCB r t]:=by rw[17,wpAny_Call_Name_kw (vD I hg hm hv ?_ hn xn),PyProof.Rows.callWith_type1 [309,[1475]] he bQ]
end
end L2
namespace HT
open PySem PyProof.Rows
def lexLt:([26])->([26])->Bool
 | [],[]=>false
 | [],_::_=>true
 |_::_,[]=>false
 |x::xs,y::ys=>[4,x,y,lexLt xs ys,decide (x<y)]
section
variable {prog:Program} {w:World} {A:Around} {E:[27]} {s:Shared}
def BW(n d:Nat):([121])->Nat
 |none=>d
 |some v=>if v<0 then(v+[63]).toNat else min v.toNat n
theorem LK(n d:Nat):BW n d none=d:=rfl
theorem rA(n d k:Nat):BW n d (some [2,k])=min k n:=by
 show(if[2,k]<0 then([2,k]+[63]).toNat else min [2,k].toNat n)=min k n;rw[[688],Int.toNat_natCast]
end
end HT
namespace L2
open PySem PySem.Spec PyProof.Rows
abbrev TO:=[319,[10,[121]]]
def PO(X:Cx)(e:Option Expr)(t:TO):Prop:=∀(pins:[17]) (s:Shared) (σ:St) (H:Hp) (Q:[10,[121]]),[111,evalPart e X.env,λu s'=>∃o H',[581]/\IsPart u o/\Q o H']
def PU:TO:=λ_ H Q=>Q none H
def tPart(t:TE):TO:=[107,λx H1=>∃i,x=[112]/\Q (some i) H1]
section
variable {X:Cx} {e:Expr} {te:TE} {lo hi:Option Expr} {tl th:TO} {pos p2:Pos}
theorem O7:PO X none PU:=by
 intro pins s σ H Q I h;rw[evalPart_none];rw[15,⟨none,H,I,.none,h⟩]
theorem rk(h:[308]):PO X (some e) (tPart te):=by
 intro pins s σ H Q I hw;rw[evalPart_some];refine dI [329,_] [1228];obtain⟨i,rfl,q⟩:=q1;obtain⟨t,rfl⟩:=r1;exact⟨some i,H1,I1,.int i t,q⟩
def SlR(X:Cx)(r:[789]):Prop:=∀(pins:[17]) (s:Shared) (σ:St) (H:Hp) (x:V) (v vl vu:Value) (lo hi:[121]) (sl:Addr) (Q:VK),([9])->([186])->s.heap.IsSliceOf sl vl vu .none->IsPart vl lo->IsPart vu hi->r x lo hi H Q->∃T id,[1172]=pure (some [407])/\s.TypeIs v T/\[79,getItem v (.ref sl)]
def tSl(r:[789])(te:TE)(tl th:TO):TE:=λσ H Q=>te σ H λx H1=>tl σ H1 λl H2=>th σ H2 λu H3=>r x l u H3 Q
theorem wc {r:[789]}(hr:SlR X r)(he:[308])(hl:PO X lo tl)(hu:PO X hi th):PE X (.Subscript e (.Slice lo hi none p2) pos) (tSl r te tl th):=by
 intro pins s σ H Q I h;rw[1,Subscript_ [171,[177,?_]],wpAny_Slice (dI (hl pins s1 σ H1 _ I1 q1) λvl s2 ⟨l,H2,I2,pl,q2⟩=>dI (hu pins s2 σ H2 _ I2 q2) λvu s3 ⟨u,H3,I3,pu,q3⟩=> ?_)];rw[evalPart_none];refine[51];have I4:[17,H3,[1058]]:=I3.kept (t':=s3.toks) λb ob q=>[42,q];obtain⟨T,id,hT,ht,hg⟩:=hr pins [1058] σ H3 x v vl vu l u s3.heap.objs.size Q I4 r1 (Heap.IsSliceOf.new ..) pl pu q3;show[19,subscriptTail e (.Slice lo hi none p2) v (.ref s3.heap.objs.size),[805],[1058]];exact tail_any (ops:=[12,s3.heap.objs.size,v]) ht hT hg (by with_unfolding_all rfl)
def xh(xs:[13])(lo hi:[121]):[13]:=[469,xs.drop [822]]
theorem AA(xs:[13])(lo hi:[121]):[32,xh xs lo hi,xs.length]:=by
 unfold xh;rw[List.length_take,List.length_drop];omega
end
end L2
namespace L2
open PySem PySem.Spec PyProof.Rows
variable {i:Int} {j:Nat} {α:Type} {s:Shared} {y x:V} {u:Value}
def QC(n:Nat)(i:Int):[284]:=if 0<=i then[46,i<n,some i.toNat] else[46,-[63]<=i,some (i+n).toNat]
def MQ {α:Type}(xs:[34])(i:Int):Option α:=(QC xs.length i).bind λj=>xs[j]?
theorem Oh {n:Nat}(h:QC n i=some j):seqIndex? i n=some j/\j<n/\ -[63]<=i/\i<n:=by
 unfold QC at h;by_cases h0:0<=i
 ·rw[if_pos h0] at h;by_cases h1:i<n
  ·rw[if_pos h1] at h;have e:i.toNat=j:=[539];rw[0,(by rw[seqIndex_of h0 h1,e]),[2],[2],h1]
  ·rw[23,[221]]
 ·rw[if_neg h0] at h;by_cases h1: -[63]<=i
  ·rw[if_pos h1] at h;have e:(i+n).toNat=j:=[539];rw[0,(by rw[seqIndex_neg [2] h1,e]),[2],h1,[2]]
  ·rw[23,[221]]
theorem EU {xs:[34]} {v:α}(h:MQ xs i=some v):∃j,seqIndex? i xs.length=some j/\[2,xs,j,v]/\j<xs.length/\ -[2,xs.length]<=i/\[359]:=by
 unfold MQ at h;cases e:QC xs.length i with
  |none=>
   rw[e] at h;cases h
  |some j=>
   rw[e] at h;obtain⟨h1,h2,h3,h4⟩:=Oh e;exact⟨j,h1,h,h2,h3,h4⟩
theorem EV {xs:[34]} {v:α}(h:[2,xs,j,v]):MQ xs [2,j]=some v:=by
 have hj:j<xs.length:=[25,h];have e:QC xs.length [2,j]=some j:=by
  unfold QC;rw[if_pos [2],if_pos [2]];simp
 unfold MQ;rw[e];exact h
def M9(b:Expr):Prop:=∀o i,[39,b,o,i]=operate [o,i] (getItem o i)
def IxR(X:Cx)(r:R2):Prop:=∀(value slice:Expr) (pins:[17]) (s:Shared) (σ:St) (H:Hp) (x y:V) (v u:Value) (Q:VK),([9])->([186])->([133])->r x y H Q->[39,slice,v,u]=operate [v,u] (getItem v u)->[79,subscriptTail value slice v u]
def MtR(X:Cx)(id:String)(r:[264]):Prop:=[1476]
section
variable {X:Cx} {a b:Expr} {ta tb:TE} {pos:Pos}
theorem eW {r:R2}(hr:IxR X r)(ha:[153])(hb:[313])(hs:M9 b):PE X (.Subscript a b pos) (Uc r ta tb):=by rw[38,Subscript_ [431,hr a b pins s2 σ H2 x y v u Q I2 rx ry q (hs _ _)]]
def ZM(K:PySem.W.Frag):R2:=[488,bP K H p xs]
def rIxT(K:PySem.W.Frag):R2:=[488,kT K H p xs]
theorem cI:IxR X (ZM X.K):=by
 intro value slice pins s σ H x y v u Q I rx ry h hs;obtain⟨p,xs,i,z,rfl,rfl,hq,he,q⟩:=h;cases rx;obtain⟨t,rfl⟩:=ry;obtain⟨bo,r,pl,hz⟩:=[208];obtain⟨j,h1,h2,h3,h4,h5⟩:=EU he;obtain⟨w,ew,BV⟩:=r.get h2;have hl:=r.length;have hn:=DN;have fin:EP X pins σ Q w s:=⟨z,H,I,BV,q⟩;by_cases h0:0<=i
 ·have hj:i.toNat=j:=by
   rw[seqIndex_of h0 h5] at h1;exact Option.some.inj h1
  exact item_listR pl.isList h0 [2] (by rw[hj];simpa using ew) fin hs
 ·have hj:(i+[2,bo.toArray.size]).toNat=j:=by
   rw[seqIndex_neg [2] h4] at h1;rw[List.size_toArray,<-hl];exact Option.some.inj h1
  exact subscriptTail_builtinR (x:=w) pl.isList.typeIs slot_list_getitem.lookup (wpAny_getItem_list_neg (Q:=[1294]) pl.isList [2] [1136] [2] (by rw[hj];simpa using ew) [18,fin]) hs
theorem vw:IxR X (rIxT X.K):=by
 intro value slice pins s σ H x y v u Q I rx ry h hs;obtain⟨p,xs,i,z,rfl,rfl,hq,he,q⟩:=h;cases rx;obtain⟨t,rfl⟩:=ry;obtain⟨bo,r,pl,hz⟩:=[287];obtain⟨j,h1,h2,h3,h4,h5⟩:=EU he;obtain⟨w,ew,BV⟩:=r.get h2;have hl:=r.length;have hn:=DN;have fin:EP X pins σ Q w s:=⟨z,H,I,BV,q⟩;exact subscriptTail_builtinR (x:=w) pl.typeIs slot_tuple_getitem.lookup (getItem_tuple (j:=j) (Q:=[1294]) pl [2] [2] (by rw[List.size_toArray,<-hl];exact h1) (by simpa using ew) [18,fin]) hs
theorem zX(lo hi:[121])(n:Nat):[1028].1=[11,HT.BW n 0 lo]/\[1028].2.1=[11,HT.BW n n hi]/\[1028].2.2=1:=by
 refine⟨?_,?_,rfl⟩
 ·cases lo with
  |none=>simp[sliceBounds,HT.BW]
  |some i=>
   simp only[sliceBounds,HT.BW,Option.getD_none,[33,[2,1]>0],if_true];by_cases h:i<0
   ·simp only[h,if_true]<;>omega
   ·simp only[h,if_false]<;>omega
 ·cases hi with
  |none=>simp[sliceBounds,HT.BW]
  |some i=>
   simp only[sliceBounds,HT.BW,Option.getD_none,[33,[2,1]>0],if_true];by_cases h:i<0
   ·simp only[h,if_true]<;>omega
   ·simp only[h,if_false]<;>omega
theorem xC(bo:[6])(lo hi:[121]):slicePick bo.toArray lo hi none=((bo.drop (HT.BW bo.length 0 lo)).take (HT.BW bo.length bo.length hi -HT.BW bo.length 0 lo)).toArray:=by
 obtain⟨h1,h2,h3⟩:=zX lo hi bo.toArray.size;unfold slicePick;rw[h1,h2,h3];simp only[sliceRange_one,pick_run,List.size_toArray]<;>rfl
def rSlL(K:PySem.W.Frag):[789]:=λx lo hi H Q=>∃a xs,x=[10]/\[126]/\[286,[8,H,p,xh xs lo hi]]
theorem zW:SlR X (rSlL X.K):=by
 intro pins s σ H x v vl vu lo hi sl Q I rx hs pl pu h;obtain⟨a,xs,rfl,hx,q⟩:=h;cases rx;obtain⟨bo,r,ht,hz⟩:=I.list hx;have hlen:=r.length;rw[1,⟨"list",_,slot_list_getitem.lookup,ht.isList.typeIs,?_⟩,wpAny_getItem_list_slice ht.isList hs pl pu .none [4] ?_ [1136]];rw[xC,<-hlen];rw[4,[3,[130],_,I.laid (t':=s.toks) (o:= .lst (xh xs lo hi)) (λb ob q=>[42,q]) [8] ?_,q _ [440]],⟨Nat.le_trans (AA xs lo hi) hz,_,0,[469,r.drop [822]],[108]⟩]
def tG:V->Bool
 | .cg=>true
 | .bl _=>true
 | .int _=>true
 | .str _=>true
 |_=>false
def Qa:V->V->Bool
 | .cg,.cg=>true
 | .bl a,.bl b=>a==b
 | .bl a,.int b=>[59,a,1]==b
 | .int a,.bl b=>a==[59,b,1]
 | .int a,.int b=>a==b
 | .str a,.str b=>a==b
 |_,_=>false
theorem RA {A:Around} {v:Value}(ry:[133])(rx:[186])(fy:tG y=true)(fx:tG x=true):SeqAt.EqAt A s u v (Qa y x):=by cases y with
 |cg=>
  cases ry;cases x with
   |cg=>rw[28,SeqAt.EqAt.same _]
   |bl b=>rw[28,SeqAt.EqAt.none_bool b]
   |int b=>rw[26,SeqAt.EqAt.none_int b t]
   |str b=>rw[26,SeqAt.EqAt.none_str b t]
   |_=>rw[12,fx]
 |bl a=>
  cases ry;cases x with
   |cg=>rw[28,SeqAt.EqAt.bool_none a]
   |bl b=>rw[28,SeqAt.EqAt.bool_bool a b]
   |int b=>rw[26,SeqAt.EqAt.bool_int a b t]
   |str b=>rw[26,SeqAt.EqAt.bool_str a b t]
   |_=>rw[12,fx]
 |int a=>
  obtain⟨t',rfl⟩:=ry;cases x with
   |cg=>rw[28,SeqAt.EqAt.int_none a t']
   |bl b=>rw[28,SeqAt.EqAt.int_bool a t' b]
   |int b=>rw[26,SeqAt.EqAt.int_int a t' b t]
   |str b=>rw[26,SeqAt.EqAt.int_str a t' b t]
   |_=>rw[12,fx]
 |str a=>
  obtain⟨t',rfl⟩:=ry;cases x with
   |cg=>rw[28,SeqAt.EqAt.str_none a t']
   |bl b=>rw[28,SeqAt.EqAt.str_bool a t' b]
   |int b=>rw[26,SeqAt.EqAt.str_int a t' b t]
   |str b=>rw[26,SeqAt.EqAt.str_str a t' b t]
   |_=>rw[12,fx]
 |_=>rw[12,fy]
def Dc(x:V)(u:Value):Bool:=match u with
 | .none=>Qa .cg x
 | .bool b=>Qa (.bl b) x
 | .int i _=>Qa [112] x
 | .str z _=>Qa (.str z) x
 |_=>false
theorem Jr(r:[133])(f:tG y=true):Dc x u=Qa y x:=by cases y with
 |cg=>rw[17]
 |bl b=>rw[17]
 |int i=>rw[20]
 |str z=>rw[20]
 |_=>rw[12,f]
theorem qM {x:V}:∀ {xs:[13]} {us:[6]},([185])->xs.all tG=true->us.any (Dc x)=xs.any λy=>Qa y x
 |_,_,.nil,_=>rfl
 |y::xs,u::us,.cons r t,f=>by
  rw[List.all_cons,Bool.and_eq_true] at f;rw[List.any_cons,List.any_cons,Jr r f.1,qM t f.2]
theorem oS {A:Around} {s:Shared} {x:V} {v:Value}(rx:[186])(fx:tG x=true):∀ {xs:[13]} {us:[6]},([185])->xs.all tG=true->∀u∈us,SeqAt.EqAt A s u v (Dc x u)
 |_,_,.nil,_=>λu hu=>by cases hu
 |y::xs,u::us,.cons r t,f=>λu' hu=>by
  rw[List.all_cons,Bool.and_eq_true] at f;rcases List.mem_cons.mp hu with rfl|hu
  ·rw[0,Jr r f.1,RA r rx f.1 fx]
  ·exact oS rx fx t f.2 u' hu
def ya(x:V)(xs:[13]):Bool:=xs.any λy=>Qa y x
def rIn(K:PySem.W.Frag)(neg:Bool):R2:=λx y H Q=>∃p xs,y=[162]/\(bP K H p xs\/kT K H p xs)/\tG x=true/\xs.all tG=true/\[81,if neg then ! ya x xs else ya x xs]
theorem gK:[88,.In,rIn X.K false]:=by
 rw[108];cases ry;rcases hq with hq|hq
 ·obtain⟨bo,r,pl,hz⟩:=[208];refine SeqAt.in_listAt (Dc x) pl.isList [803] [737];rw[[780],qM r fs];exact q
 ·obtain⟨bo,r,pl,hz⟩:=[287];refine SeqAt.in_tupleAt (Dc x) pl [803] [737];rw[[780],qM r fs];exact q
theorem zL:[88,.NotIn,rIn X.K true]:=by
 rw[108];cases ry;rcases hq with hq|hq
 ·obtain⟨bo,r,pl,hz⟩:=[208];refine SeqAt.notIn_listAt (Dc x) pl.isList [803] [737];rw[[780],qM r fs];exact q
 ·obtain⟨bo,r,pl,hz⟩:=[287];refine SeqAt.notIn_tupleAt (Dc x) pl [803] [737];rw[[780],qM r fs];exact q
theorem a8:[139,"len",∃p ys,xs=[[162]]/\(bP X.K H p ys\/kT X.K H p ys)/\Q (.int ys.length) H]:=by
 intro pins s σ H xs us Q I r h;obtain⟨p,ys,rfl,hq,q⟩:=h;obtain⟨u,rfl,rx⟩:=vals1 r;cases rx;have hn:=DN;rcases hq with hq|hq
 ·obtain⟨bo,r',pl,hz⟩:=[208];have hlen:=r'.length;exact Calls.call_len_list pl.isList [887] [1386]
 ·obtain⟨bo,r',pl,hz⟩:=[287];have hlen:=r'.length;exact len_tuple pl [887] [1386]
theorem iI:pT X [219] (λxs H Q=>∃p ys,xs=[[162]]/\((bP X.K H p ys/\∀l,[5,l]->Q [40] (upd H l (.tup ys)))\/(kT X.K H p ys/\Q [162] H))):=by
 intro pins s σ H xs us Q I r h;obtain⟨p,ys,rfl,h⟩:=h;obtain⟨u,rfl,rx⟩:=vals1 r;cases rx;rcases h with⟨hq,q⟩|⟨hq,q⟩
 ·obtain⟨bo,r',pl,hz⟩:=[208];have hlen:=r'.length;refine call_tuple_list pl.isList (λh' kp=> ?_) [887];have I1:[17,H,[125]]:=[355,kp];have I2:[65,upd H h'.objs.size (.tup ys),{s with heap:=h'.push [45,"tuple",.seq bo.toArray]}]:=I1.laid (t':=s.toks) [669] [8] (show eC X.prog X.w _ _ _ (.tup ys) from⟨hz,bo,r',IsTup.new _ _⟩);exact[3,.ref h'.objs.size,_,I2,q _ [441]]
 ·obtain⟨bo,r',pl,hz⟩:=[287];exact call_tuple_same pl [3,[162],H,I,q]
def tyV(K:PySem.W.Frag)(T:String)(x:V)(H:Hp):Prop:=match x with
 | .str _=>T="str"
 | .int _=>T="int"
 | .ref p=>(T="list"/\∃xs,bP K H p xs)\/(T="tuple"/\∃o,K.lookup p=some o/\o.cls=[219]/\o.dict=none)\/(T="dict"/\((∃cF,[5,p,.dK cF])\/∃cF,[5,p,.dT cF]))\/(T="set"/\∃S n,[5,p,.set S n])
 |_=>False
theorem Mw {pins:[17]} {σ:St} {H:Hp} {T:String} {v:Value}(I:[9])(r:[186])(ty:tyV X.K T x H):s.TypeIs v T/\∀a,v=[10]->∃ob,s.heap.get? a=some ob/\ob.dict=none:=by cases x with
 |str z=>
  obtain⟨t,rfl⟩:=r;cases (show T="str" from ty);rw[3,typeIs_str s z t,(λ_ e=>nomatch e)]
 |int i=>
  obtain⟨t,rfl⟩:=r;cases (show T="int" from ty);rw[3,typeIs_int s i t,(λ_ e=>nomatch e)]
 |ref p=>
  cases r;rcases ty with⟨rfl,xs,hq⟩|⟨rfl,o,hk,hc,hd⟩|⟨rfl,hk⟩|⟨rfl,S,n,hk⟩
  ·obtain⟨bo,_,pl,_⟩:=[208];rw[7,pl.isList.typeIs,λa e=> ?_];cases e;obtain⟨o,n,e,c,hd,_⟩:=pl;rw[0,o,e,hd]
  ·rw[7,⟨o,I.pP p o hk,hc⟩,λa e=> ?_];cases e;rw[0,o,I.pP _ o hk,hd]
  ·have z:∃o,s.heap.get? p=some o/\o.ExactDict:=by
    rcases hk with⟨cF,hk⟩|⟨cF,hk⟩
    ·obtain⟨_,_,_,_,o,_,_,e,ex,_⟩:=I.cH p _ hk;rw[0,o,e,ex]
    ·obtain⟨_,_,_,_,o,_,_,e,ex,_⟩:=I.cH p _ hk;rw[0,o,e,ex]
   obtain⟨o,e,ex⟩:=z;rw[7,⟨o,e,ex.1⟩,λa e2=> ?_];cases e2;rw[0,o,e,ex.2.1]
  ·obtain⟨o,_,_,_,e,ex,_⟩:=I.cH p _ hk;rw[7,⟨o,e,ex.1⟩,λa e2=> ?_];cases e2;rw[0,o,e,ex.2.1]
 |_=>rw[8,ty]
def tBM0(K:PySem.W.Frag)(T:String)(r:[264])(to:TE):TE:=λσ H Q=>to σ H λx H1=>tyV K T x H1/\r x [] H1 Q
def tBM(K:PySem.W.Frag)(T:String)(r:[264])(to:TE)(t:TA):TE:=λσ H Q=>to σ H λx H1=>tyV K T x H1/\t σ H1 λxs H2=>r x xs H2 Q
variable {o e:Expr} {es:[115]} {to:TE} {t:TA} {name:Str} {apos ky:Pos} {T id:String} {r:[264]}
theorem Ed(pa:PlainAttrs T)(slot:Slot T name id)(QA:[1265])(hm:MtR X id r)(ho:PE X o to) (Ka:[1400]:=by rfl)(Kj:[1191]:=by rfl):PE X (.Call (.Attribute o name apos) [] [] ky) (tBM0 X.K T r to):=by
 rw[14,wpAny_Call_method0_late Ka Kj [1463]];obtain⟨h1,h2⟩:=Mw I1 r1 ty;exact⟨T,id,pa,slot,QA,h1,h2,Calls.callWith_builtin rfl (PySem.evalArgs_none (hm pins s1 σ H1 x [] v [] Q I1 r1 .nil q1))⟩
theorem gu(pa:PlainAttrs T)(slot:Slot T name id)(QA:[1265])(hm:MtR X id r)(ho:PE X o to)(ha:[316]) (Ka:[1400]:=by rfl) (Sk:((backTo ky [807]).all (λx=> ! x.1)&&(backToKw ky (keywordEach [] X.env)).all (λx=>x.1.isSome) &&decide ((e::es).length+([]:[545]).length+(if([]:[545]).isEmpty then 0 else 1)<30))=true:=by rfl) (Kj:[1191]:=by rfl)(hs:[224]:=by rfl)(oK:[1138]:=by rfl):PE X (.Call (.Attribute o name apos) (e::es) [] ky) (tBM X.K T r to t):=by
 rw[14,wpAny_Call_method_late Ka Sk Kj rfl [1463]];obtain⟨h1,h2⟩:=Mw I1 r1 ty;refine⟨T,id,pa,slot,QA,h1,h2,?_⟩;have hA:=ha ky pins s1 σ H1 _ I1 q1;rw[hs] at hA ⊢;rw[4,Calls.callWith_builtin (by show(false||(backTo ky [396]).any [44])=false;rw[oK]<;>rfl) (Calls.evalArgs_plain ?_),dI hA λus s2 ⟨vs,H2,I2,r2,q2⟩=>hm pins s2 σ H2 x vs v us Q I2 r1 r2 q2]
end
end L2
namespace L2
open PySem PySem.Spec PyProof.Rows
variable {bo:[6]} {n t':Nat}
def MtM(X:Cx)(id:String)(r:[264]):Prop:=[1476]
theorem Vals.one:∀ {x:V} {us:[6]},Vals [x] us->∃u,us=[u]/\[360]
 |_,_,.cons r .nil=>[9,r]
theorem Vals.zero:∀ {us:[6]},Vals [] us->us=[]
 |_,.nil=>rfl
theorem Vals.dropLast {xs:[13]} {us:[6]}(h:[185]):Vals xs.dropLast us.dropLast:=by induction h with
 |nil=>exact .nil
 |cons r t ih=>cases t with
  |nil=>exact .nil
  |cons q t'=>exact .cons r ih
theorem Dd {α:Type}(l:[34]):l.eraseIdx (l.length -1)=l.dropLast:=by induction l with
 |nil=>rfl
 |cons a r ih=>cases r with
  |nil=>rfl
  |cons b r=>
   have e:(a::b::r).length -1=((b::r).length -1)+1:=by
    have h1:[6,a::b::r,r.length+2]:=rfl;have h2:(b::r).length=r.length+1:=rfl;omega
   rw[e,List.eraseIdx_cons_succ,ih];all_goals rfl
section
variable {X:Cx} {pins:[17]} {σ:St} {H:Hp} {s:Shared} {l b:Addr} {xs ys zs:[13]}
theorem Inv.Ou {its':[6]} {f:([93])->[93]}(I:[9])(hH:[37,l]) (e:s.heap.get? l=some [956])(hf:f bo.toArray=its'.toArray)(hv:Vals ys its')(hz:[24,ys.length]):[65,[51,l],[153,Obj.mapSeq f,t']]:=by
 have q:=PySem.IsL.update e f;rw[hf] at q;rw[4,I.write (x:=l) (e:=l) (by rw[hH];exact trivial) [38] (λb' u hb hu=>(Heap.get?_update_other s.heap (Obj.mapSeq f) (Ne.symm hb)).trans hu) [34,q] ?_,⟨hz,its',_,hv,q⟩]
theorem Inv.lnew(I:[9])(hv:Vals ys bo)(hz:[24,ys.length]):[65,[51,s.heap.objs.size],{s with heap:=s.heap.push [45,"list",.seq bo.toArray],toks:=t'}]:=I.laid (λ_ _ q=>[42,q]) [8] ⟨hz,bo,0,hv,[108]⟩
theorem Inv.fresh(I:[9]):[5,s.heap.objs.size]:=[440]
theorem Inv.DO(I:[9])(hH:[37,l]):[184,∃(bo:[6]) (n:Nat),[375]/\xs.length=bo.length/\s.heap.get? l=some [956]]:=by
 obtain⟨z,bo,n,r,e⟩:=I.cH l _ hH;exact⟨z,bo,n,r,r.length,e⟩
theorem Bx(h:[24,n]):[8,Builtin.List.listTooLong n]:=by
 unfold Builtin.List.listTooLong;exact[652]
end
section
variable {X:Cx}
def Pa:[264]:=λx vs H Q=>∃l xs y,x=[40]/\vs=[y]/\[5,H l,[60],[876],Q .cg [8,H,l,xs++[y]]]
theorem bJ:MtM X "list.append" Pa:=by
 intro pins s σ H x vs v us Q I rx rv h;obtain⟨l,xs,y,rfl,rfl,hH,hz,q⟩:=h;rw[82];rw[53];rw[1,call_meets F.slot_list_append [36,e] F.entry_list_append (F.args_list_append_2 _ _) (PySem.list_append l bo.toArray n u (by rw[45])) [30,e],[3,.cg,_,I.Ou (its':=bo++[u]) hH e [4] (r.append [156,ru]) ?_,q]];rw[List.length_append,List.length_singleton];omega
def Pb:[264]:=λx vs H Q=>∃l b xs zs,x=[40]/\vs=[[25]]/\H l=some [60]/\[467,Q .cg [8,H,l,xs++zs]]
theorem sF:MtM X "list.extend" Pb:=by
 intro pins s σ H x vs v us Q I rx rv h;obtain⟨l,b,xs,zs,rfl,rfl,hH,hB,hz,q⟩:=h;rw[82];cases ru;rw[53];obtain⟨z2,tZ,n2,r2,Hi,e2⟩:=I.DO hB;have hsz:[1210]:=by rw[83]
 have Kk:¬(!bo.toArray.isEmpty&&[1232])=true:=by
  rw[Bx hsz,Bool.and_false];rw[63]
 rw[1,call_meets F.slot_list_extend [36,e] F.entry_list_extend [1173] (AutoSeq1.list_extend_list_list_0 l bo.toArray n b tZ.toArray n2 Kk (by rw[45]) [2]) [21,e,e2],[3,.cg,_,I.Ou (its':=bo++tZ) hH e [4] (r.append r2) ?_,q]];rw[84]
def rPop:[264]:=λx vs H Q=>∃l xs y,x=[40]/\vs=[]/\[5,H l,[60],[2,xs,xs.length -1,y],Q y (upd H l (.lst xs.dropLast))]
theorem DU:MtM X "list.pop" rPop:=by
 intro pins s σ H x vs v us Q I rx rv h;obtain⟨l,xs,y,rfl,rfl,hH,hy,q⟩:=h;cases rx;have hus:=rv.zero;subst hus;rw[53];obtain⟨u,hu,ru⟩:=r.get hy;have hy':[2,bo.toArray,bo.toArray.size -1,u]:=by
  show[2,bo.toArray,bo.length -1,u];rw[<-Array.getElem?_toList,<-hl];exact hu
 rw[1,call_meets F.slot_list_pop [36,e] F.entry_list_pop (F.args_list_pop_1 _) (MeetsSeq.list_pop_last l bo.toArray n u hy' (by rw[45])) [30,e],⟨y,_,I.Ou (its':=bo.dropLast) hH e ?_ r.dropLast ?_,ru,q⟩]
 ·show bo.toArray.eraseIdxIfInBounds (bo.toArray.size -1)=bo.dropLast.toArray;rw[List.size_toArray,List.eraseIdxIfInBounds_toArray,Dd]
 ·rw[List.length_dropLast];omega
def rCat:R2:=λx y H Q=>∃l b xs zs,x=[40]/\y=[25]/\H l=some [60]/\[467,[286,[8,H,p,xs++zs]]]
theorem Eb:uj X (binaryOp .Add) rCat:=by
 intro pins s σ H x y v u Q I rx ry h;obtain⟨l,b,xs,zs,rfl,rfl,hH,hB,hz,q⟩:=h;cases rx;cases ry;rw[53];obtain⟨z2,tZ,n2,r2,Hi,e2⟩:=I.DO hB;refine PySem.P.add_list e e2 ?_ (by rw[83]);have ea:bo.toArray++tZ.toArray=(bo++tZ).toArray:=[4];rw[ea];exact[3,.ref _,_,I.lnew (t':=s.toks) (r.append r2) (by rw[84]),q _ I.fresh]
end
end L2
namespace L2
open PySem PySem.Spec PyProof.Rows
mutual
inductive Dp(K:PySem.W.Frag)(H:Hp):V->PyData->Prop
 |cg:Dp K H .cg .none
 |bl (b:Bool):Dp K H (.bl b) (.bool b)
 |int (i:Int):Dp K H (.int i) (.int i)
 |str (x:Str):Dp K H (.str x) (.str x)
 |lst {a:Addr} {xs:List V} {ds:List PyData}:bP K H a xs->uG K H xs ds->Dp K H (.ref a) (.list ds)
 |tup {a:Addr} {xs:List V} {ds:List PyData}:kT K H a xs->uG K H xs ds->Dp K H (.ref a) (.tuple ds)
inductive uG(K:PySem.W.Frag)(H:Hp):List V->List PyData->Prop
 |nil:uG K H [] []
 |cons {v:V} {vs:List V} {d:PyData} {ds:List PyData}:Dp K H v d->uG K H vs ds->uG K H (v::vs) (d::ds)
end
section
variable {X:Cx} {pins:[17]} {σ:St} {H:Hp} {s:Shared}
mutual
theorem Dp.reads(I:[9]):∀(d:PyData) (v:V) (u:Value),Dp X.K H v d->([116])->∃as,Reads s.heap u d as
 | .none,_,_,h,r=>by
  cases h;cases r;rw[4,Reads.none]
 | .bool b,_,_,h,r=>by
  cases h;cases r;rw[4,Reads.bool b]
 | .int i,_,_,h,r=>by
  cases h;obtain⟨t,rfl⟩:=r;rw[4,Reads.int i t]
 | .str x,_,_,h,r=>by
  cases h;obtain⟨t,rfl⟩:=r;rw[4,Reads.str x t]
 | .list ds,_,_,h,r=>by cases h with
  |lst hs ha=>
   cases r;obtain⟨bo,rv,⟨o,n,ho,hc,_,hd⟩,_⟩:=I.list hs;obtain⟨as,hr⟩:=Dp.readsAll I ds _ bo ha rv;rw[4,Reads.list ho hc hd hr]
 | .tuple ds,_,_,h,r=>by cases h with
  |tup hs ha=>
   cases r;obtain⟨bo,rv,⟨o,ho,hc,n,hd⟩,_⟩:=I.tuple hs;obtain⟨as,hr⟩:=Dp.readsAll I ds _ bo ha rv;rw[4,Reads.tuple ho hc hd hr]
 | .dict _,_,_,h,_=>[180]
theorem Dp.readsAll(I:[9]):∀(ds:List PyData) (vs:[13]) (us:[6]),uG X.K H vs ds->([297])->∃as,ReadsAll s.heap us ds as
 | [],_,_,h,r=>by
  cases h;cases r;rw[4,ReadsAll.nil]
 |d::ds,_,_,h,r=>by cases h with
  |cons h1 h2=>cases r with
   |cons r1 r2=>
    obtain⟨as,q1⟩:=Dp.reads I d _ _ h1 r1;obtain⟨bs,q2⟩:=Dp.readsAll I ds _ _ h2 r2;rw[4,ReadsAll.cons q1 q2]
end
end
section
variable {X:Cx}
def rEqD(K:PySem.W.Frag):R2:=λx y H Q=>∃d e,Dp K H x d/\Dp K H y e/\SeqAt.shaped d=true/\SeqAt.shaped e=true/\[81,PyData.eqv d e]
theorem Tn(hu:X.A.units+64<cLine):[88,.Eq,rEqD X.K]:=by
 intro pins s σ H x y v u Q I rx ry h;obtain⟨d,e,hd,he,sd,se,q⟩:=h;obtain⟨as,r1⟩:=Dp.reads I d x v hd rx;obtain⟨bs,r2⟩:=Dp.reads I e y u he ry;exact SeqAt.compareEq_shaped r1 r2 sd se hu [3,.bl _,H,I,q]
end
end L2
namespace L2
open PySem PySem.Spec PyProof.Rows
variable {scope:Scope} {M:Model} {A:Around} {E:[27]} {xs:[13]} {elt iter:Expr} {ifs:[115]} {pos:Pos} {wi:TI} {g:TG} {tt:TT} {te:TE} {K:PySem.W.Frag} {a:Addr} {vs:[30]} {H1:Hp} {Qd:Hp->Prop}
abbrev IK(h:Heap)(c:Addr)(v:[174]):Prop:=h.IsCell c v
def relS(scope sc:Scope):Scope:={scope with names:=scope.names.map λ(n,k)=>if(k== .free&&sc.kind== .function&&sc.names.lookup n==some .cell) then(n,.cell) else(n,k)}
def dv(cells:[114]):([255])->([114])->[114]
 | [],acc=>acc
 |(n,k)::r,acc=>if k== .free then dv cells r ((n,[943])::acc) else dv cells r acc
theorem qQ(env:Env)(f:Str×NameKind->List (Str×Addr)->Sem (ForInStep (List (Str×Addr))))
 (hf:∀n k c,f (n,k) c=if k== .free then(do let a <-cellOf env n;pure (.yield ((n,a)::c))) else pure (.yield c)):
 ∀(names:List (Str×NameKind)) (acc:List (Str×Addr)),(∀y∈names,y.2= .free->∃c,env.cells.lookup y.1=some c)->forIn names acc f=pure (dv env.cells names acc)
 | [],acc,_=>by rw[List.forIn_nil];rfl
 |(n,k)::r,acc,h=>by
  rw[List.forIn_cons,hf];have ih:=λacc=>qQ env f hf r acc λy hy=>h y (List.mem_cons_of_mem _ hy);unfold dv;by_cases hk:(k==NameKind.free)=true
  ·rw[if_pos hk,if_pos hk];obtain⟨c,hc⟩:=h (n,k) List.mem_cons_self (by simpa using hk);have e:cellOf env n=pure c:=by unfold cellOf;rw[hc]
   rw[e];have e2:(env.cells.lookup n).getD 0=c:=by rw[hc];rfl
   rw[e2];exact ih _
  ·rw[if_neg hk,if_neg hk];exact ih _
theorem C7 {env:Env}(h:[481,env.cells.lookup y.1=some c]):closureFor scope env=pure (dv env.cells scope.names []):=by
 simp only[closureFor];rw[qQ env _ (λn k c=>rfl) scope.names [] h];rfl
theorem mem_lookup {α:Type}:∀ {l:[102,α]} {n:Str} {c:α},(n,c)∈l->∃c',l.lookup n=some c'
 |(k,v)::r,n,c,h=>by
  rw[List.lookup_cons];cases hb:n==k with
   |true=>rw[1]
   |false=>
    rcases List.mem_cons.mp h with e|h
    ·cases e;simp at hb
    ·exact mem_lookup h
theorem lI {cells:[114]}:∀ {names:[255]} {acc:[114]} {n:Str} {c:Addr},(n,c)∈[926]->(n,c)∈acc\/((n,.free)∈names/\c=[943])
 | [],_,_,_,h=> .inl h
 |(m,k)::r,acc,n,c,h=>by
  unfold dv at h;split at h
  ·rename_i hk;have hk:k= .free:=[537];rcases lI h with h|⟨h1,h2⟩
   ·rcases List.mem_cons.mp h with e|h
    ·cases e;exact .inr [41,[1152]]
    ·exact .inl h
   ·exact[87,[19,h1],h2]
  ·rcases lI h with h|⟨h1,h2⟩;rw[2,.inl h,.inr ⟨[19,h1],h2⟩]
theorem oB {cells:[114]}:∀ {names:[255]} {acc:[114]} {p:Str×Addr},p∈acc->p∈[926]
 | [],_,_,h=>h
 |(m,k)::r,acc,p,h=>by
  unfold dv;rw[14,oB [19,h],oB h]
theorem oC {cells:[114]}:∀ {names:[255]} {acc:[114]} {n:Str},(n,.free)∈names->(n,[943])∈[926]
 |(m,k)::r,acc,n,h=>by
  unfold dv;rcases List.mem_cons.mp h with e|h
  ·cases e;exact oB List.mem_cons_self
  ·rw[14,oC h,oC h]
theorem mh:∀ {names:[255]} {h:Heap} {acc:[114]} {x:Str} {c:Addr},([1158])->(x,c)∈acc\/((x,.cell)∈names/\h.objs.size<=c/\IK (pushCells h names) c none)
 | [],_,_,_,_,h=> .inl h
 |(n,k)::r,h,acc,x,c,hm=>by
  unfold cellsFrom at hm;unfold pushCells;split at hm
  ·rename_i hk;rw[17,hk];have hk:k= .cell:=[537];rw[<-[1329]] at hm;rcases mh hm with hm|⟨h1,h2,h3⟩
   ·rcases List.mem_cons.mp hm with e|hm
    ·cases e;exact .inr ⟨[1152],[8],_,pushCells_keeps r _ _ _ [108],rfl⟩
    ·exact .inl hm
   ·rw[Heap.size_push] at h2;exact .inr ⟨[19,h1],[848],h3⟩
  ·rename_i hk;rw[16,hk];rcases mh hm with hm|⟨h1,h2,h3⟩;rw[2,.inl hm,.inr ⟨[19,h1],h2,h3⟩]
theorem pB:∀ {names:[255]} {n:Nat} {acc:[114]} {p:Str×Addr},p∈acc->p∈[262,n]
 | [],_,_,_,h=>h
 |(m,k)::r,n,acc,p,h=>by
  unfold cellsFrom;rw[14,pB [19,h],pB h]
theorem r0:∀ {names:[255]} {n:Nat} {acc:[114]} {x:Str},(x,.cell)∈names->∃c,(x,c)∈[262,n]
 |(m,k)::r,n,acc,x,h=>by
  unfold cellsFrom;rcases List.mem_cons.mp h with e|h
  ·cases e;rw[3,n,pB List.mem_cons_self]
  ·rw[14,r0 h,r0 h]
theorem sf:∀ {names:[255]} {h:Heap} {acc:[114]} {x y:Str} {c:Addr},(∀p∈acc,p.2<h.objs.size)->(∀x y c,(x,c)∈acc->(y,c)∈acc->x=y)->([1158])->(y,c)∈[262,h.objs.size]->x=y
 | [],_,_,_,_,_,_,hi,h1,h2=>hi _ _ _ h1 h2
 |(n,k)::r,h,acc,x,y,c,hl,hi,h1,h2=>by
  unfold cellsFrom at h1 h2;split at h1
  ·rename_i hk;rw[if_pos hk] at h2;rw[<-[1329]] at h1 h2;refine sf (h:=h.push _) [244] (λx y c a b=> ?_) h1 h2
   ·rw[Heap.size_push];rcases List.mem_cons.mp hp with rfl|hp;rw[2,[654],Nat.lt_succ_of_lt (hl p hp)]
   ·rcases List.mem_cons.mp a with e|a<;>rcases List.mem_cons.mp b with e'|b
    ·cases e;cases e';rfl
    ·cases e;exact absurd (hl _ b) [230]
    ·cases e';exact absurd (hl _ a) [230]
    ·exact hi _ _ _ a b
  ·rename_i hk;rw[if_neg hk] at h2;exact sf hl hi h1 h2
theorem Bs {s:Shared} {globals:Addr} {closure:[114]} {qual:Str} {func:[241]} {code:Value} {around:Env} {builtins:Addr} {Q:[26,Env]} (h:Q (newEnv scope s.heap.objs.size globals [343,closure] qual func code (some around) builtins) {s with heap:=[746]}):[327,newFunctionEnv scope globals closure [] qual func code (some around) builtins]:=by
 simp only[newFunctionEnv,Option.isSome_some,if_true];rw[13,wpAny_alloc ?_,wpAny_bind (wpAny_layCells _ (λn k c=>rfl) scope.names closure _ _ ?_)];rw[show[363,({s with heap:=[660]}:Shared).heap.objs.size] from Heap.size_push ..];rw[List.forIn_nil];exact[161,wpAny_pure h]
theorem oQ {sc:Scope}:∀ {names:[255]} {x:Str} {k:NameKind},(names.map λ(n,k)=>if[295,k] then(n,NameKind.cell) else(n,k)).lookup x=some k->∃k',names.lookup x=some k'/\(k=k'\/(k'= .free/\k= .cell))
 | [],_,_,h=>[129]
 |(n,KU)::r,x,k,h=>by
  have ih:= @oQ sc r x k;have h':List.lookup x ((if[295,KU]=true then(n,NameKind.cell) else(n,KU))::(r.map _))=some k:=h;cases hx:x==n with
   |true=>
    simp only[List.lookup_cons,hx];by_cases hc:[295,KU]=true
    ·rw[44,if_pos hc];cases h';simp only[Bool.and_eq_true,beq_iff_eq] at hc;rw[0,KU,rfl,.inr [41,hc.1.1]]
    ·rw[44,[597]];cases h';rw[6,[38]]
   |false=>
    simp only[List.lookup_cons,hx];by_cases hc:[295,KU]=true
    ·rw[44,if_pos hc];exact ih h'
    ·rw[44,[597]];exact ih h'
structure Aj(N:List Str)(sc scope:Scope)(own:List (Str×Nat)):Prop where
 kind:scope.kind= .function
 uniq:∀y∈scope.names,scope.names.lookup y.1=some y.2
 ix:∀p∈own,N[p.2]? =some p.1
 free:∀y∈scope.names,y.2= .free->sc.names.lookup y.1=some .cell\/sc.names.lookup y.1=some .free
 own:∀y∈scope.names,y.2= .local\/y.2= .cell->y.1∈own.map (·.1)\/y.1∉N
def wipe(σ:St):([30])->St
 | []=>σ
 |v::vs=>[274].set v none
theorem pw(σ:St):∀vs:[30],[6,[274],σ.length]
 | []=>rfl
 |v::vs=>by
  unfold wipe;rw[List.length_set,pw σ vs]
theorem sX {σ:St} {i:Nat} {x:V}:∀ {vs:[30]},[274][i]? =some [142]->σ[i]? =some [142]/\i∉vs
 | [],h=>⟨h,[4]⟩
 |v::vs,h=>by
  unfold wipe at h;by_cases hi:v=i
  ·subst hi;by_cases hv:v<[274].length
   ·rw[23,List.getElem?_set_self hv]
   ·rw[23,List.getElem?_eq_none (by simpa using hv)]
  ·rw[List.getElem?_set_ne hi] at h;obtain⟨h1,h2⟩:=sX h;rw[3,h1,(by simp only[List.mem_cons,not_or];rw[3,λe=>hi e.symm,h2])]
abbrev Cx.za(X:Cx)(s:Shared)(H:Hp)(scope:Scope)(i9:Env)(fp:[14]):Cx:={X with xB:=s,Uv:=H,env:=i9,outer:=X.stack,ex:=fp,fn:=λx=>scope.names.lookup x==some .cell,pn:=[],xe:=[346]}
section
variable {X:Cx} {pins:[17]} {σ:St} {H:Hp} {s:Shared}
theorem Ap {own:[102,Nat]} {fp:[14]}(I:[9])(ok:[1247])(hN:X.N.Nodup)(UR:∀b∈fp,[207,H]/\[123,b]):Inv (X.za s H scope (compEnvC scope [1266] s.heap.objs.size X.env) fp) [] (wipe σ (own.map (·.2))) H {s with heap:=[746]}:=by
 have nZ:[481,[335,y.1]]:=λy hy e=>by
  rcases ok.free y hy e with k|k;rw[2,I.ok.has _ (.inl k),I.ok.has _ (.inr k)]
 generalize AO:compEnvC scope (cellsFrom (s.heap.objs.size+1) scope.names (dv X.env.cells scope.names [])) s.heap.objs.size X.env=i9;have kp:∀b o,([105])->[3,[746].get? b]:=λb o e=>pushCells_keeps _ _ _ _ [42,e];have hL:i9.locals=s.heap.objs.size:=by
  rw[<-AO];rfl
 have ID:i9.cells=[1266]:=by
  rw[<-AO];rfl
 have hsc:i9.scope=relS scope X.env.scope:=by
  rw[<-AO];rfl
 rw[<-Heap.size_push s.heap [45,"dict",.dict #[]]] at ID;have cm:∀ {y c},(y,c)∈[824]->[1309]:=λ {y c} hm=>by
  rcases lI hm with hm|⟨h1,rfl⟩
  ·cases hm
  ·obtain⟨c,hc⟩:=nZ _ h1 rfl;rw[hc];obtain⟨w,z⟩:=I.cell _ _ hc;rw[3,rfl,z.lt]
 have mem:∀ {y c},([341])->[1309]\/([64]<=c/\IK [746] c none):=λ {y c} e=>by
  rw[ID] at e;rcases mh (PySem.mem_of_lookup e) with hm|⟨_,h2,h3⟩
  ·exact .inl (cm hm)
  ·rw[Heap.size_push] at h2;exact .inr ⟨h2,h3⟩
 have look:∀ {y},[204]=some .free->∃c,i9.cells.lookup y=some c/\[335,y]:=λ {y} hl=>by
  have hy:(y,NameKind.free)∈scope.names:=PySem.mem_of_lookup hl;obtain⟨c',e'⟩:=mem_lookup (pB (names:=scope.names) (n:=[660].objs.size) (oC (cells:=X.env.cells) (acc:=[]) hy));rw[<-ID] at e';rw[6,c',e'];rw[ID] at e';rcases mh (PySem.mem_of_lookup e') with hm|⟨h1,_,_⟩
  ·exact(cm hm).1
  ·have:=ok.uniq _ h1;rw[hl] at this;cases this
 have M1:(X.za s H scope i9 fp).Ok:=by
  refine⟨I.ok.mod,by show i9.scope.kind=_;rw[hsc];exact ok.kind,by show i9.globals=_;rw[<-AO];exact I.ok.glob,by show i9.builtins=_;rw[<-AO];exact I.ok.blt,by show s.heap.objs.size<=i9.locals;rw[hL];exact[8],λy z c e1 e2=> ?_,λy hy=> ?_,λy c z e=> ?_,I.ok.hd,I.ok.frames,[38],λb hb=>⟨?_,λy c e z=> ?_⟩,I.bs,[272,I.sz],λb o e hb=> ?_,λb hb z=> ?_,I.stack,I.uE⟩
  ·have e1:[341]:=e1;have e2:i9.cells.lookup z=some c:=e2;rw[ID] at e1 e2;refine sf [244] (λy z c a b=>I.ok.inj y z c (cm a).1 (cm b).1) (PySem.mem_of_lookup e1) (PySem.mem_of_lookup e2);rw[Heap.size_push];exact Nat.lt_succ_of_lt (cm (y:=p.1) (c:=p.2) hp).2
  ·show∃c,[341];have key:∀k,i9.kindOf y=some k->(k= .cell\/k= .free)->∃c,[341]:=λk hk ko=>by
    unfold Env.kindOf at hk;rw[hsc] at hk;obtain⟨k',e,r⟩:=oQ hk;have:k'= .cell\/k'= .free:=by
     rcases r with rfl|⟨rfl,_⟩;rw[2,ko,.inr rfl]
    rcases this with rfl|rfl
    ·obtain⟨c,hm⟩:=r0 (n:=[660].objs.size) (acc:=[824]) (PySem.mem_of_lookup e);obtain⟨c',e'⟩:=mem_lookup hm;rw[3,c',(by rw[ID];exact e')]
    ·obtain⟨c,h1,_⟩:=look e;rw[3,c,h1]
   rcases hy with hy|hy;rw[2,key _ hy [38],key _ hy [267]]
  ·have z:([204]==some NameKind.cell)=true:=z;have z:[204]=some .cell:=[849];have e:[341]:=e;rw[ID] at e;rcases mh (PySem.mem_of_lookup e) with hm|⟨_,h2,_⟩
   ·rcases lI hm with hm|⟨h1,_⟩
    ·cases hm
    ·have q:=ok.uniq _ h1;rw[z] at q;cases q
   ·rw[Heap.size_push] at h2;exact[848]
  ·show b≠i9.locals;rw[hL];exact Nat.ne_of_lt (UR b hb).2
  ·rw[118]
   ·exact(UR b hb).1.2.2.2.2.1 y c h1 z
   ·have h2:[64]<=b:=by
     rw[<-z];exact h1
    exact absurd (Nat.lt_of_lt_of_le (UR b hb).2 [848]) [230]
  ·rcases(UR b hb).1.2.2.2.1 with z|z;rw[2,I.ok.HB b o e z,[235,Nat.lt_of_lt_of_le [72] [272,z]]]
  ·rcases List.mem_cons.mp (I.Ey b z) with z|z;rw[2,(UR b hb).1.2.1 z,(UR b hb).1.2.2.1 z]
 refine⟨M1,rfl,I.bare,Un.kept kp,⟨[514],?_,λi y av e1 e2 e3=> ?_⟩,λy c e=> ?_,?_,λy c e=> ?_,[244],I.cH.kept kp,by rw[pw];exact I.len⟩
 ·show Heap.Ns _ i9.locals _;rw[hL];exact Heap.Ns.keeps (Heap.Ns.new ..) λb o e=>pushCells_keeps _ _ _ _ e
 ·obtain⟨e2,gx⟩:=sX e2;have N1:[1391]:=by
   have key:∀k,i9.scope.names.lookup y=some k->k= .local\/k= .cell\/k= .free->[1391]:=λk hk ko=>by
    have hk0:=hk;rw[hsc] at hk;obtain⟨k',e,r⟩:=oQ hk;have no:¬(k'= .local\/k'= .cell):=λhh=>by
     rcases ok.own _ (PySem.mem_of_lookup e) hh with e'|e'
     ·obtain⟨p,hp,hpy⟩:=List.mem_map.mp e';have e3:=ok.ix p hp;have:p.1=y:=hpy;rw[this] at e3;exact gx (List.mem_map.mpr ⟨p,hp,vS hN e3 e1⟩)
     ·exact e' (List.mem_of_getElem? e1)
    rcases r with rfl|⟨rfl,rfl⟩
    ·rcases ko with rfl|rfl|rfl;rw[2,absurd [38] no,absurd [267] no]
     ·exact⟨e,.inr hk0⟩
    ·exact⟨e,.inl hk0⟩
   have e3:Rj i9.scope y:=e3;rcases e3 with e3|e3|e3;rw[2,key _ e3 [38],key _ e3 (.inr [38])]
   ·exact key _ e3 (.inr [267])
  obtain⟨m,hn,hl⟩:=I.loc;have hvis:Rj X.env.scope y:=(ok.free _ (PySem.mem_of_lookup N1.1) rfl).elim (λk=> .inr (.inl k)) (λk=> .inr (.inr k));obtain⟨w,r,q⟩:=hl i y av e1 e2 hvis;refine⟨w,r,.inr [30,N1.2]⟩;obtain⟨c,h1,h2⟩:=look N1.1;rcases q with⟨k,_⟩|⟨_,c',e',z⟩
  ·have k:[227,[850]]:=k;rcases ok.free _ (PySem.mem_of_lookup N1.1) rfl with k'|k'<;>rw[[11,[850],_,k']] at k<;>cases k
  ·rw[h2] at e';cases e';rw[0,c,h1,z.keeps kp]
 ·have e:[341]:=e;rcases mem e with⟨h1,_⟩|⟨_,z⟩
  ·obtain⟨w,z⟩:=I.cell y c h1;rw[3,w,z.keeps kp]
  ·exact[34,z]
 ·show[5,i9.locals];rw[hL];exact[440]
 ·rw[118];rw[2,I.mj y c h1,I.cH.fresh (Nat.le_of_succ_le h1)]
 ·exact absurd (show p∈([]:[17])++[] from hp) [4]
theorem Rl {D:Addr} {y:V} {v:Value} {Q:[27]}(I:[9])(hD:[37,D])(hz:[876])(r:RelV y v) (h:∀s',[65,[8,H,D,xs++[y]],s']->Q .none s'):[168,call (.builtin "list.append") [12,D,v]]:=by
 obtain⟨hz',bo,n,ri,e⟩:=I.cH D _ hD;have hl:=ri.length;rw[1,append_at (hsz:=by rw[45]) e λh' sb qL=> ?_,h [125] (I.write (t':=s.toks) (by rw[hD];trivial) [38] (λb u hb q=>(sb.2 b hb).trans q) [34,qL] ⟨by rw[List.length_append];exact hz,bo++[v],n+1,ri.append [156,r],?_⟩)];rw[qL];simp
def Vv(X:Cx)(ifs:List Expr)(t:TT):Prop:=
 ∀(pins:List (Addr×Obj)) (s:Shared) (σ:St) (H:Hp) (Q:Bool->Hp->Prop),Inv X pins σ H s->t σ H Q->
  wpAny (model X.prog X.w) X.A (forIn ifs true λc r=>if r=true then do let ok <-isTrue c X.env (eval c X.env);pure (ForInStep.yield ok) else pure (ForInStep.yield r)) (TP X pins σ Q) X.xe s
def tYes:TT:=λ_ H Q=>Q true H
theorem rm:Vv X [] tYes:=λ_ _ _ H _ I h=>wpAny_tests_nil ⟨H,I,h⟩
theorem rn {c:Expr} {t:TT}(h:PT X c t):Vv X [c] t:=λpins s σ H Q I hw=>wpAny_tests_one [329,Q]
end
theorem Io {α:Type} {t:Sem α} {Q Q':[26,α]} {s:Shared}(h:wpAny M A t Q [346] s)(hQ:∀a s,Q a s->Q' a s):wpAny M A t Q' E s:=wpAny_mono h hQ λ_ _ z=>False.elim z
theorem zd {prog:Program} {w:World} {R:Result->Shared->Prop} {s:Shared} {target:Expr} {it acc:Value} {env:Env}(I:Nat->Shared->Prop)
 (turn:∀n s,I n s->wpAny (model prog w) A (pyNext it) (λr dZ=>match r with
  |none=>R (.ok .next) dZ
  |some v=>wpAny (model prog w) A (letOwnedTupleGo target it v) (λ_ QZ=>wpAny (model prog w) A (assign target env v) (λ_ oq=>
   wpAny (model prog w) A (forIn ifs true λc r=>if r=true then do let ok <-isTrue c env (eval c env);pure (ForInStep.yield ok) else pure (ForInStep.yield r)) (λok Ck=>
    if ok=true then wpAny (model prog w) A (eval elt env) (λx s₄=>
     wpAny (model prog w) A (call (.builtin "list.append") [acc,x]) (λ_ s₅=>∃m,m<n/\I m s₅) (notedBy (model prog w) A env λe s'=>R (.error e) s') s₄) (notedBy (model prog w) A env λe s'=>R (.error e) s') Ck
    else ∃m,m<n/\I m Ck) (notedBy (model prog w) A env λe s'=>R (.error e) s') oq) (notedBy (model prog w) A env λe s'=>R (.error e) s') QZ) (notedBy (model prog w) A env λe s'=>R (.error e) s') dZ) (notedBy (model prog w) A env λe s'=>R (.error e) s') s)
 (n:Nat)(h:I n s):
 codeAny (model prog w) A (.compLoop (.ListComp elt [⟨target,iter,ifs,0⟩] scope pos) 0 it acc env) R s:=by
 refine codeAny_loop rfl I (λn s hI=> ?_) n h;show wpAny _ A ((compTurn (.ListComp elt [⟨target,iter,ifs,0⟩] scope pos) 0 it acc env).onRaise (λx=>do noteFrame x env;theTreesLotGoes x)) _ _ s;refine wpAny_noted ?_;rw[compTurn_list];refine wpAny_bind (wpAny_standAt (wpAny_bind (wpAny_mono (turn n s hI) (λr dZ Od=> ?_) λ_ _ h'=>h')))
 cases r with
 |none=>exact wpAny_pure Od
 |some v=>
  refine wpAny_bind (wpAny_mono Od (λ_ QZ Y'=> ?_) λ_ _ h'=>h');refine wpAny_bind (wpAny_mono Y' (λ_ oq KG=>wpAny_bind (wpAny_mono KG (λok Ck Oe=> ?_) λ_ _ h'=>h')) λ_ _ h'=>h')
  cases ok with
  |false=>exact wpAny_pure ⟨rfl,Oe⟩
  |true=>
   exact wpAny_bind (wpAny_bind (wpAny_mono Oe (λx s₄ h₄=>wpAny_bind (wpAny_mono h₄ (λ_ s₅ h₅=>wpAny_pure (wpAny_pure ⟨rfl,h₅⟩)) λ_ _ h'=>h')) λ_ _ h'=>h'))
section
variable {X:Cx}
def tLc(wi:TI)(g:TG)(tt:TT)(te:TE)(vs:[30]):TE:=λσ H Q=>wi σ H λJ H1=>∀D,H1 D=none->[351,W i m H->(J.stop i H/\Q (.ref D) H)\/(J.go i H/\∃Nx:Hp->Prop,[1088]/\∀x H',J.M7 i H x H'->[1086])]
theorem Fy {pins:List (Addr×Obj)} {s:Shared} {σ:St} {H:Hp} {Q:VK} {tg:Expr} {own:List (Str×Nat)} {pos':Pos} {use:Option (Value->Sem Unit)} {Qf:Value->Shared->Prop}
 (hc:X.calm=true)(hN:X.N.Nodup)(I:Inv X pins σ H s)(hi:PI X tg iter wi)(ok:Aj X.N X.env.scope scope own)
 (hg:∀(s:Shared) (H:Hp) (C:Addr) (cl:List (Str×Addr)) (fp:List Addr),PG (X.za s H scope (compEnvC scope cl C X.env) fp) tg g)(ht:∀(s:Shared) (H:Hp) (C:Addr) (cl:List (Str×Addr)) (fp:List Addr),Vv (X.za s H scope (compEnvC scope cl C X.env) fp) ifs tt)
 (he:∀(s:Shared) (H:Hp) (C:Addr) (cl:List (Str×Addr)) (fp:List Addr),PE (X.za s H scope (compEnvC scope cl C X.env) fp) elt te)(hs:∀x,foldedSetIterable iter X.env x=pure x)
 (h:tLc wi g tt te (own.map (·.2)) σ H Q)
 (hRR:∀D C s' m H',Inv X pins σ H' s'->Q (.ref D) H'->s'.heap.Ns C m->uH X pins H' C->compPost (model X.prog X.w) X.A X.xe use Qf (.ref D) C (.ok .next) s'):
 wpAny (model X.prog X.w) X.A (comprehension (.ListComp elt [⟨tg,iter,ifs,0⟩] scope pos) scope X.env pos' (newList []) false (eval iter X.env) use) Qf X.xe s:=by
 have nZ:∀y∈scope.names,y.2= .free->∃c,X.env.cells.lookup y.1=some c:=λy hy e=>by
  rcases ok.free y hy e with k|k
  ·exact I.ok.has _ (.inl k)
  ·exact I.ok.has _ (.inr k)
 refine wpAny_comprehension_free (use:=use) rfl hs (C7 nZ) ok.kind (λy hy e=>by rw[ok.uniq y hy,e])
  (dI (hi pins s σ H _ I h) λxv s1 hx=>dI hx λitv s2 h2=> ?_)
 obtain⟨it,fp,tn,J,H2,e,I2,T,st2,f2,q⟩:=h2;subst e;refine wpAny_newObj_type (Bs ?_) (by show 0<=sizeLine;decide);generalize hD:s2.heap.objs.size=D;have hDn:H2 D=none:=I2.cH.fresh (Nat.le_of_eq hD);obtain⟨W,⟨m0,w0⟩,turn⟩:=q D hDn;generalize U3:({s2 with heap:=s2.heap.push {cls:= .type "list",data:= .seq ([]:List Value).toArray}}:Shared)=s3
 have I3:Inv X pins σ (upd H2 D (.lst [])) s3:=by
  rw[<-U3];refine I2.laid (t':=s2.toks) (λb o e=>Heap.get?_push_of_some _ e) (Nat.le_of_eq hD) ⟨Nat.zero_le _,[],0,.nil,?_⟩;rw[<-hD];exact Heap.get?_push_size _ rfl
 have h3:s3.heap=s2.heap.push {cls:= .type "list",data:= .seq ([]:List Value).toArray}:=by rw[<-U3]
 have sz:∀b∈fp,b<s2.heap.objs.size:=λb hb=>by
  obtain⟨o,e,_⟩:=T.obj _ _ st2 b hb;exact Heap.lt_size e
 have f3:∀b∈fp,uH X pins (upd H2 D (.lst [])) b/\b<s3.heap.objs.size:=λb hb=>by
  have ez:=sz b hb;refine⟨⟨?_,(f2 b hb).2⟩,by rw[h3,Heap.size_push];exact Nat.lt_succ_of_lt ez⟩;rw[aj (by rw[<-hD];exact Nat.ne_of_lt ez)];exact(f2 b hb).1
 have st3:tn 0 s3.heap:=T.keep _ _ _ st2 λb _ o e=>by rw[h3];exact Heap.get?_push_of_some _ e
 have I4:=Ap I3 ok hN f3;have pg:=hg s3 (upd H2 D (.lst [])) s3.heap.objs.size (cellsFrom (s3.heap.objs.size+1) scope.names (dv X.env.cells scope.names [])) fp;have pt:=ht s3 (upd H2 D (.lst [])) s3.heap.objs.size (cellsFrom (s3.heap.objs.size+1) scope.names (dv X.env.cells scope.names [])) fp;have pe:=he s3 (upd H2 D (.lst [])) s3.heap.objs.size (cellsFrom (s3.heap.objs.size+1) scope.names (dv X.env.cells scope.names [])) fp;show codeAny _ _ (.compStart (.ListComp elt [⟨tg,iter,ifs,0⟩] scope pos) 0 (.ref it) (.ref D) (compEnvC scope (cellsFrom (s3.heap.objs.size+1) scope.names (dv X.env.cells scope.names [])) s3.heap.objs.size X.env)) (compPost (model X.prog X.w) X.A X.xe use Qf (.ref D) s3.heap.objs.size) {s3 with heap:=pushCells (s3.heap.push {cls:= .type "dict",data:= .dict #[]}) scope.names};have nfp:∀b∈fp,(upd H2 D (.lst [])) b=none:=λb hb=>(f3 b hb).1.1;generalize Kc:compEnvC scope (cellsFrom (s3.heap.objs.size+1) scope.names (dv X.env.cells scope.names [])) s3.heap.objs.size X.env=ce at I4 pg pt pe ⊢;have cL:ce.locals=s3.heap.objs.size:=by subst Kc;rfl
 generalize hH3:upd H2 D (.lst [])=H3 at I3 I4 pg pt pe w0 nfp f3;generalize hs4:({s3 with heap:=pushCells (s3.heap.push {cls:= .type "dict",data:= .dict #[]}) scope.names}:Shared)=s4 at I4 ⊢;have st4:tn 0 s4.heap:=T.keep _ _ _ st3 λb _ o e=>by rw[<-hs4];exact pushCells_keeps _ _ _ _ (Heap.get?_push_of_some _ e)
 have stat:∀ {cR:St} {H':Hp} {s':Shared},Inv (X.za s3 H3 scope ce fp) [] cR H' s'->(∀b∈fp,H' b=none)->∀b∈fp,uH (X.za s3 H3 scope ce fp) [] H' b:=λ {cR H' s'} I' hn b hb=>
  ⟨hn b hb,(I'.ok.VE b hb).1,I'.ok.G1 b hb,.inl hb,λx c e=>(I'.ok.VE b hb).2 x c e,λp hp=>absurd (show p∈([]:List (Addr×Obj))++[] from hp) (by simp)⟩
 have loop:codeAny (model X.prog X.w) X.A (.compLoop (.ListComp elt [⟨tg,iter,ifs,0⟩] scope pos) 0 (.ref it) (.ref D) ce) (compPost (model X.prog X.w) X.A X.xe use Qf (.ref D) s3.heap.objs.size) s4:=by
  refine zd (λn s'=>∃i H',Inv (X.za s3 H3 scope ce fp) [] (wipe σ (own.map (·.2))) H' s'/\tn i s'.heap/\(∀b∈fp,H' b=none)/\W i n H') ?_ m0 ⟨0,H3,I4,st4,nfp,w0⟩;rintro n s5 ⟨i,H5,I5,Vh,n5,w5⟩;rcases turn i n H5 w5 with⟨stop,qq⟩|⟨go,Nx,hNx,step⟩
  ·have td:=T.done (X.za s3 H3 scope ce fp) rfl rfl rfl hc i [] s5 _ H5 (λ_ _=>False) I5 (stat I5 n5) Vh stop;refine Io td λr s6 ⟨hr,I6⟩=> ?_;subst hr;have I7:Inv X pins σ H5 s6:=I3.EY (ch:=fp) I6.os I6.base I6.cH I6.bare λb hb=>⟨(f3 b hb).1.2.2.2.1,(f3 b hb).1.2.1,(f3 b hb).1.2.2.2.2.1,(f3 b hb).1.2.2.2.2.2⟩
   have nC:H5 s3.heap.objs.size=none:=by
    have z:H5 ce.locals=none:=I6.free;rw[cL] at z;exact z
   obtain⟨m,hn,_⟩:=I6.loc;have hn:s6.heap.Ns ce.locals m:=hn;rw[cL] at hn;exact hRR D s3.heap.objs.size s6 m H5 I7 qq hn (I3.JH (Nat.le_refl _) nC)
  ·have ti:=T.item (X.za s3 H3 scope ce fp) rfl rfl rfl hc i [] s5 _ H5 (λ_ _=>False) I5 (stat I5 n5) Vh go;refine Io ti λr s6 ⟨u,hr,h6⟩=> ?_;subst hr;refine Io h6 λ_ s7 ⟨x,H7,I7,r7,y7,st7,n7⟩=> ?_;have I7':=I7.pinned (stat I7 n7) (T.obj _ _ st7);refine Io (pg _ s7 _ H7 x u _ I7' r7 (step x H7 y7)) λ_ s8 ⟨σ8,H8,I8,hw8,q8⟩=> ?_;refine Io (pt _ s8 σ8 H8 _ I8 q8) λb s9 ⟨H9,I9,q9⟩=> ?_
   have fin:∀ {s':Shared} {H':Hp},Inv (X.za s3 H3 scope ce fp) ([]++we fp s7.heap) σ8 H' s'->Nx H'->∃m,m<n/\∃i H',Inv (X.za s3 H3 scope ce fp) [] (wipe σ (own.map (·.2))) H' s'/\tn i s'.heap/\(∀b∈fp,H' b=none)/\W i m H':=λ {s' H'} I' nx=>by
    obtain⟨m',hm,w'⟩:=hNx H' nx
    have ZH:∀b∈fp,∀o,s7.heap.get? b=some o->s'.heap.get? b=some o/\H' b=none:=λb hb o e=>
     let z:=I'.pin (b,o) (List.mem_append_right _ (List.mem_append_right _ (qu hb e)))
     ⟨z.1,z.2.1⟩
    have hl:(wipe σ (own.map (·.2))).length=σ8.length:=by rw[<-hw8,pw]
    refine⟨m',hm,i+1,H',(I'.rR (pins:=[])).weak hl (λj v e=> ?_),T.keep _ _ _ st7 λb hb o e=>(ZH b hb o e).1,λb hb=> ?_,w'⟩
    ·rw[<-hw8] at e;exact(sX e).1
    ·obtain⟨o,e,_⟩:=T.obj _ _ st7 b hb;exact(ZH b hb o e).2
   cases b with
   |false=>
    simp only[Bool.false_eq_true,if_false] at q9 ⊢;exact fin I9 q9
   |true=>
    simp only[if_true] at q9 ⊢;refine Io (pe _ s9 σ8 H9 _ I9 q9) λz s10 ⟨yv,H10,I10,r10,acc,hD10,hz10,nx⟩=> ?_;exact Rl (X:=X.za s3 H3 scope ce fp) I10 hD10 hz10 r10 λs11 I11=>fin I11 nx
 exact codeAny_compStart_list loop (T.self X.A 0 _ _ _ st4 loop)
theorem yC {tg:Expr} {own:[102,Nat]}(hc:[356])(hN:X.N.Nodup)(hi:PI X tg iter wi)(ok:[1247]) (hg:[417,PG [1049] tg g])(ht:[417,Vv [1049] ifs tt]) (he:[417,PE [1049] elt te])(hs:[1350]:=by intro _;rfl):PE X (.ListComp elt [⟨tg,iter,ifs,0⟩] scope pos) (tLc wi g tt te (own.map (·.2))):=by
 intro pins s σ H Q I h;rw[eval_ListComp];refine Fy hc hN I hi ok hg ht he hs h λD C s' m H' I' q hn f=>⟨m,hn,λh'' sb=> ?_⟩;obtain⟨f0,f1,f2,f3,f4,f5⟩:=f;exact[3,.ref D,H',I'.turned (t':=s'.toks) (λb o hb e=>(sb.2 b hb).trans e) f0 f1 f3 f4 f5,q]
theorem rl {i:Nat} {y:Str} {py:Pos} {tg:Expr} {own:List (Str×Nat)} {aap:Pos}(hc:X.calm=true)(hN:X.N.Nodup)(hy:X.N[i]? =some y)(hyl:X.env.scope.names.lookup y=some .local)
 (hsw:swapsWith (.ListComp elt [⟨tg,iter,ifs,0⟩] scope pos) (some (.Name y py)) aap.line X.env=pure true)(hi:PI X tg iter wi)(ok:Aj X.N X.env.scope scope own)
 (hg:∀(s:Shared) (H:Hp) (C:Addr) (cl:List (Str×Addr)) (fp:List Addr),PG (X.za s H scope (compEnvC scope cl C X.env) fp) tg g)(ht:∀(s:Shared) (H:Hp) (C:Addr) (cl:List (Str×Addr)) (fp:List Addr),Vv (X.za s H scope (compEnvC scope cl C X.env) fp) ifs tt)
 (he:∀(s:Shared) (H:Hp) (C:Addr) (cl:List (Str×Addr)) (fp:List Addr),PE (X.za s H scope (compEnvC scope cl C X.env) fp) elt te)(hs:∀x,foldedSetIterable iter X.env x=pure x:=by intro _;rfl):
 PS X (.Assign [.Name y py] (.ListComp elt [⟨tg,iter,ifs,0⟩] scope pos) aap) (tAsg (tLc wi g tt te (own.map (·.2))) (AJ i)):=by
 intro pins s σ H D I h;rw[exec_Assign_Name_used _ _ _ _ hsw];refine wpAny_bind (wpAny_standAt (wpAny_bind ?_));show wpAny _ X.A (do let _ <-comprehension (.ListComp elt [⟨tg,iter,ifs,0⟩] scope pos) scope X.env (firstIterPos [⟨tg,iter,ifs,0⟩] pos) (newList []) false (eval iter X.env) (some (assign (.Name y py) X.env))) _ _ s;have h:tLc wi g tt te (own.map (·.2)) σ H (λx H1=>AJ i x σ H1 D.nx):=h;refine wpAny_bind (dI (Fy (Qf:=λ_ s'=>SP X pins D .next s') hc hN I hi ok hg ht he hs h λL C s' m H' I' q hn f=> ?_) λ_ s' hq=>wpAny_pure (wpAny_pure hq));show wpAny _ _ (assign (.Name y py) X.env (.ref L)) _ _ _;refine wpAny_assign_Name (yP (v:=V.ref L) I' hN hy (.inl hyl) rfl (λs2 I2 ⟨a,sb,ha⟩=> ?_) (.inr hyl));obtain⟨f0,f1,f2,f3,f4,f5⟩:=f
 have haC:C≠a:=by
  rcases ha with z|z
  ·rw[z];exact f1
  ·exact λe=>f4 y a z e.symm
 refine⟨m,hn.sameBut sb haC,λh3 sb3=> ?_⟩;exact⟨_,H',I2.turned (t':=s2.toks) (λb o hb e=>(sb3.2 b hb).trans e) f0 f1 f3 f4 f5,q⟩
end
theorem zw {σ:St} {D:Addr}(Pv:[10,Nat])(h0:Pv 0 (upd H1 D [106]))(hl:∀i H,i<=xs.length->Pv i H->[126]) (hs:[1444])(hd:[1267]):[1345]:=by
 rw[6,λi m H=>[344,Pv i H],⟨xs.length,[4],[33],h0⟩];rintro i m H ⟨rfl,hi,p⟩;have q:=hl i H hi p;by_cases ez:[359]
 ·refine[6,[783],Pv (i+1),λH' p'=>[819],[676]];obtain⟨e,y⟩:=y;rw[5,hs i x _ (y xs q) p]
 ·have e:i=xs.length:=[2];rw[5,[31,⟨xs,q,[8]⟩,hd H p]]
theorem S1 {σ:St} {D:Addr}(Pv:[10,Nat])(h0:Pv 0 (upd H1 D [106]))(hl:∀i H,i<=xs.length->Pv i H->[305]) (hs:[1444])(hd:[1267]):[351,W i m H->((Vs K a).stop i H/\Qd H)\/((Vs K a).go i H/\[430,Vs K a])]:=by
 rw[6,λi m H=>[344,Pv i H],⟨xs.length,[4],[33],h0⟩];rintro i m H ⟨rfl,hi,p⟩;have q:=hl i H hi p;by_cases ez:[359]
 ·refine[6,[783],Pv (i+1),λH' p'=>[819],[676]];obtain⟨e,y⟩:=y;rw[5,hs i x _ (y xs q) p]
 ·have e:i=xs.length:=[2];rw[5,[31,⟨xs,q,[8]⟩,hd H p]]
def tW(N:[19])(sc scope:Scope)(own:[102,Nat]):Bool:=(match scope.kind with| .function=>true|_=>false)&&(scope.names.all λy=>decide ([815]=some y.2))&&(own.all λp=>decide [2,N,p.2,p.1])&&(scope.names.all λy=>match y.2 with
 | .free=>(match sc.names.lookup y.1 with|some .cell=>true|some .free=>true|_=>false)
 | .local=>[1418]
 | .cell=>[1418]
 |_=>true)
theorem iH {N:[19]} {sc:Scope} {own:[102,Nat]}(h:tW N sc scope own=true):Aj N sc scope own:=by
 unfold tW at h;simp only[Bool.and_eq_true,List.all_eq_true,decide_eq_true_eq] at h;obtain⟨⟨⟨h1,h2⟩,h3⟩,h4⟩:=h;refine⟨?_,h2,h3,λy hy e=> ?_,λy hy e=> ?_⟩
 ·split at h1
  ·assumption
  ·cases h1
 ·have q:=h4 y hy;simp only[e] at q;split at q<;>first|exact .inl (by assumption)|exact .inr (by assumption)|cases q
 ·have q:=h4 y hy;rcases e with e|e<;>(simp only[e,Bool.or_eq_true,decide_eq_true_eq] at q;exact q)
end L2
namespace L2
open PySem PySem.Spec PyProof.Rows
variable {cF:[134]} {xs:[102]} {Q:[27]}
section
variable {κ:Type} [DecidableEq κ]
def gh(cF:[295])(k:κ):[71]:=[68,cF.find? λkv=>[2,kv.1,k]]
def putK(cF:[295])(k:κ)(v:V):[295]:=if(cF.any λkv=>[2,kv.1,k])=true then cF.map (λkv=>[4,kv.1,k,(kv.1,v),kv]) else cF++[(k,v)]
theorem wQ {p:κ×V} {r:[295]} {k:κ}(e:p.1=k):gh (p::r) k=some p.2:=[1109]
theorem wO {p:κ×V} {r:[295]} {k:κ}(e:¬p.1=k):gh (p::r) k=gh r k:=[1109]
theorem Cy(k:κ):∀cF:[295],(cF.any λkv=>[2,kv.1,k])=[237].isSome
 | []=>rfl
 |p::r=>by
  rw[List.any_cons];by_cases e:p.1=k
  ·simp only[wQ e,[907],Bool.true_or,Option.isSome_some]
  ·rw[wO e,[908],Bool.false_or];exact Cy k r
theorem lQ.jG {o:[71]} {u:[174]}(r:lQ o u):o.isSome=u.isSome:=by cases o with
 |none=>cases u with
  |none=>rfl
  |some _=>rw[39]
 |some _=>cases u with
  |none=>rw[39]
  |some _=>rfl
theorem lQ.getD {o:[71]} {u:[174]} {d:V} {d':Value}(r:lQ o u)(rd:RelV d d'):RelV (o.getD d) (u.getD d'):=by cases o with
 |none=>cases u with
  |none=>exact rd
  |some _=>rw[39]
 |some _=>cases u with
  |none=>rw[39]
  |some _=>exact r
theorem KV.val {cF:[295]} {vs:[234,κ]}(r:KV cF vs)(k:κ):lQ [237] (valueAt vs k):=by
 unfold KV at r;induction r with
  |nil=>exact True.intro
  | @cons p q ps qs h t ih=>
   obtain⟨h1,h2⟩:=h;by_cases e:p.1=k
   ·have e':q.1=k:=[851];have b:valueAt (q::qs) k=some q.2:=by simp[valueAt,List.find?_cons,e']
    rw[wQ e,b];exact h2
   ·have e':¬q.1=k:=λz=>e (h1.trans z);have b:valueAt (q::qs) k=valueAt qs k:=by simp[valueAt,List.find?_cons,e']
    rw[wO e,b];exact ih
end
theorem vx {P:Program} {w:World} {k:Key} {u:Value}(r:RelV (kV k) u):(bw P w).is k u=true:=by cases k with
 |inl i=>
  obtain⟨t,e⟩:=[144,∃t,u=[109,i]];rw[5,Bp P w i t]
 |inr x=>
  obtain⟨t,e⟩:=[144,∃t,u=[744]];rw[5,Bq P w x t]
theorem sx {P:Program} {w:World}:∀ {ks:[80]} {us:[6]},Vals (ks.map kV) us->ItemsAre (bw P w) ks us
 | [],_,r=>by
  rw[List.map_nil] at r;cases r;exact .nil
 |k::ks,_,r=>by
  rw[List.map_cons] at r;cases r with
   |cons h t=>exact .cons (vx h) (sx t)
abbrev KT(H:Hp):[4,[134],[102]]:=Paired λp q=>[1430]
theorem KT.val {H:Hp}(r:[478])(k:[80]):lQ [237] ([68,[475]]):=by induction r with
 |nil=>exact True.intro
 | @cons p q ps qs h t ih=>
  obtain⟨h1,_,h2⟩:=h;by_cases e:p.1=k
  ·have e':q.1=k:=[851];have b:atKey (q::qs) k=some q.2:=by simp[atKey,List.find?_cons,e']
   rw[wQ e,b];exact h2
  ·have e':¬q.1=k:=λz=>e (h1.trans z);have b:atKey (q::qs) k=atKey qs k:=by simp[atKey,List.find?_cons,e']
   rw[wO e,b];exact ih
theorem KT.repl {H:Hp}(r:[478])(k:[80]) {y:V} {u:Value}(ry:[133]):KT H (cF.map λkv=>[4,kv.1,k,(kv.1,y),kv]) (xs.map (putAt k u)):=by induction r with
 |nil=>exact .nil
 | @cons p q ps qs h t ih=>
  rw[List.map_cons,List.map_cons];refine .cons ?_ ih;obtain⟨h1,h2,h3⟩:=h;unfold putAt;by_cases e:p.1=k
  ·rw[[379],if_pos [851]];rw[0,h1,h2,ry]
  ·rw[[343],[59,e (h1.trans z)]];rw[0,h1,h2,h3]
theorem KT.put {H:Hp}(r:[478])(k:[80]) {b:Addr} {y:V} {u:Value}(hb:[22,.tup (k.map kV)])(ry:[133]):KT H (putK cF k y) (storedH xs k b u):=by
 have e:(cF.any λkv=>[2,kv.1,k])=[475].isSome:=by rw[Cy,(r.val k).jG,Option.isSome_map]
 unfold putK storedH;rw[e];by_cases q:[92,[475]]
 ·rw[if_pos q,if_pos q];exact r.repl k ry
 ·rw[if_neg q,if_neg q];exact Paired.snoc r [76,hb,ry]
theorem KT.keeps {H H':Hp}(r:[478])(ht:∀b ys,[22,.tup ys]->[8,b,.tup ys]):KT H' cF xs:=Paired.cf r λ_ _ z=>[1348]
section
variable {P:Program} {w:World} {H:Hp} {h:Heap} {a:Addr}
theorem QQ {u:HO}(ok:[79])(e:Rd H a u):eC P w H h a u:=e.ok ok
theorem Jm {cF:[218]}(ok:[79])(e:Rd H a (.dK cF)):[303,[1026]]:=[93,.dK cF,QQ ok e]
theorem qp {ks:[80]}(ok:[79])(e:[29,.tup (ks.map kV)]):[191].is h ks a:=by
 obtain⟨_,bo,r,o,h1,h2,n,h3⟩:=[294,.tup (ks.map kV)];exact⟨o,bo.toArray,n,h1,h2,h3,[127,sx r]⟩
theorem Jo(ok:[79])(e:Rd H a (.dT cF)):[303,∃xs,[478]/\h.DictOfH [191] a xs]:=by
 obtain⟨z,y,xs,r,o,es,ep,h1,h2,h3,h4,h5⟩:=[93,.dT cF,QQ ok e];refine⟨z,y,xs,r,o,es,ep,h1,h2,h3,h4,[427],h5⟩;have all:∀ {l:[134]} {m:[102]},KT H l m->∀x∈m,[191].is h x.1 x.2.1:=by
  intro l m q;induction q with
   |nil=>
    intro x hx;exact nomatch hx
   | @cons p q ps qs hq t ih=>
    intro x hx;rcases List.mem_cons.mp hx with e|hx
    ·rw[5,qp ok (by rw[<-hq.1];exact hq.2.1)]
    ·exact ih x hx
 exact all r x hx
end
def yZ(H:Hp)(a:Addr)(y:V)(r:[71]):Prop:=[166,Rd H a (.dK cF),Rd H a (.dT cF)]
theorem yZ.t {H:Hp} {a b:Addr} {k:[80]}(e:[29,.dT cF])(eb:[22,.tup (k.map kV)]):yZ H a [25] [237]:= .inr ⟨cF,k,b,.inl e,rfl,eb,rfl⟩
section
variable {X:Cx} {pins:[17]} {σ:St} {H:Hp} {s:Shared} {a:Addr} {y v:V} {u r:Value} {o:[71]} {A:Around} {E:[27]}
theorem Inv.big(I:[9]):[123,sysModules]:=by
 have h:[123,mainGlobals]:=[841].lt;exact Nat.lt_trans [3] h
theorem GK(hu:[265])(I:[9])(g:yZ H a y (some v))(ry:[133])(h:[396,RelV v w']):[151,getItem [10] u]:=by
 rcases g with⟨cF,k,e,ey,l⟩|⟨cF,k,b,e,ey,eb,l⟩
 ·subst ey;obtain⟨z,hd,vs,rel,dd⟩:=Jm I.cH e;obtain⟨w',hw,BV⟩:=[109,valueAt vs k,(by rw[l];exact[288])];exact[451,vx ry]
 ·rw[46];obtain⟨z,hd,xs,rel,dd⟩:=Jo I.cH e;obtain⟨w',hw,BV⟩:=[109,[68,[475]],(by rw[l];exact[288])];obtain⟨p,hp,U0⟩:=[1110];refine[1419];rw[U0];exact[827]
theorem d_in(hu:[265])(I:[9])(g:yZ H a y o)(ry:[133])(h:[1174]):[1164]:=by
 rcases g with⟨cF,k,e,ey,l⟩|⟨cF,k,b,e,ey,eb,l⟩
 ·subst ey;obtain⟨z,hd,vs,rel,dd⟩:=Jm I.cH e;refine[452,hd];rw[<-[288].jG,<-l];exact h _ [139]
 ·rw[46];obtain⟨z,hd,xs,rel,dd⟩:=Jo I.cH e;refine[478,hd];have q:=[288].jG;rw[Option.isSome_map] at q;rw[<-q,<-l];exact h _ [139]
theorem Nu {h':Heap} {t':Nat} {ob:HO}(I:[9])(mu:Vu (H a))(hs:[164,a])(he:∃q,[540]=some q)(new:eC X.prog X.w (upd H a ob) h' a ob):[65,upd H a ob,[106,t']]:=I.write (x:=a) (e:=a) mu [38] (λb q hb z=>(hs.2 b hb).trans z) he new
end
def Rc(i:Expr):Prop:=∀ov iv,[39,i,ov,iv]=operate [ov,iv] (getItem ov iv)
theorem F9 {prog:Program} {w:World} {A:Around} {E:[27]} {s:Shared} {env:Env} {value slice:Expr} {pos:Pos} {T id:String} (hl:[1172]=pure (some [407]))(hs:Rc slice) (h:wpAny [158] A (eval value env) (λo dZ=>wpAny [158] A (eval slice env) (λi oq=>oq.TypeIs o T/\wpAny [158] A (getItem o i) Q E oq) E dZ) E s):[21,eval (.Subscript value slice pos) env]:=by
 refine Subscript_ [140,h,λo dZ Od=>[140,Od,λi oq KG=> ?_]];obtain⟨hT,KG⟩:=KG;unfold subscriptTail;rw[9,[78],getitemInPython_of_ne hT.not_modules];rw[1,[224,hl]];have fin:wpAny [158] A [39,slice,o,i] (λr Ck=>wpAny [158] A (letTemporaryGo value o r>>=λ_=>pure r) Q E Ck) E oq:=by rw[0,hs o i,wpAny_operating [140,KG,λr Ck Oe=>wpAny_bind (wpAny_letTemporaryGo (wpAny_pure Oe))]]
 first
  |exact wpAny_pure [852]
  |exact[161,[852]]
  |exact[852]
theorem AE {X:Cx} {pins:[17]} {σ:St} {H:Hp} {s:Shared} {a:Addr} {y:V} {o:[71]}(I:[9])(g:yZ H a y o):s.TypeIs [10] "dict":=by
 rcases g with⟨cF,k,e,_,_⟩|⟨cF,k,b,e,_,_,_⟩
 ·obtain⟨_,_,vs,_,dd⟩:=Jm I.cH e;exact dd.typeIs
 ·obtain⟨_,_,xs,_,dd⟩:=Jo I.cH e;exact dd.typeIs
def tDGet(td ty:TE):TE:=[402,ty σ H1 λy H2=>∃a v,x=[10]/\yZ H2 a y (some v)/\Q v H2]
def tDIn(ty td:TE):TE:=[442,yZ H2 a y o]
section
variable {X:Cx} {o i e value:Expr} {pos pos' EG:Pos} {td ty tv:TE}
theorem O2(hu:[575])(ho:[378])(hi:[483])(hs:Rc i):PE X (.Subscript o i pos) (tDGet td ty):=by
 rw[14,F9 PySem.F.slot_dict_getitem.lookup hs [264,λu s1 ⟨x,H1,I1,rx,q1⟩=>dI (hi pins s1 σ H1 _ I1 q1) [507,v]]];subst ex;obtain rfl:u=[128]:=rx;rw[3,AE I2 g,GK hu I2 g ry [1408]]
theorem Tp(hu:[575])(hi:[483])(ho:[378]):PC X .In i o (tDIn ty td):=by
 rw[14,[331,λu s2 ⟨x,H2,I2,rx,a,ov,ex,g,q2⟩=> ?_]];subst ex;obtain rfl:u=[128]:=rx;exact d_in hu I2 g ry [1341]
end
structure M2(X:Cx)(o:Expr)(m:Str)(apos:Pos)(e f:Expr)(ky:Pos):Prop where
 base:attributeBase o m X.env (eval o X.env)=eval o X.env
 few:((backTo ky (starEach [e,f] X.env)).all (λx=> !x.1)&&(backToKw ky (keywordEach [] X.env)).all (λx=>x.1.isSome)
  &&decide (([e,f]:List Expr).length+([]:List Keyword).length+(if([]:List Keyword).isEmpty then 0 else 1)<30))=true
 line:(apos.endLine==ky.line)=true
 trees:backTo ky (starEach [e,f] X.env)=[(false,eval e X.env),(false,eval f X.env)]
end L2
namespace L2
open PySem PySem.Spec PyProof.Rows
theorem vG:typeLookup [448] "keys"=pure none:=am_miss_of_fast (by first|decide+kernel|rfl)
theorem Ct:[125,"dict.update.loop",Builtin.«dict.update.loop»]:=entryFor_of_tree [515]
theorem pd:plainId "dict.update.loop"=true:=[32]
section
variable {prog:Program} {w:World} {A:Around} {E:[27]}
theorem Hy {s:Shared} {a:Addr} {o:Obj} {xs:[93]} {k:Nat} {Q:[26,[174]]}(hx:[465])(hc:o.cls=[448])(Dy:o.data= .seq xs k)(hd:o.dict=none)(hA:[215]) (h:∀h' tk,(∀b ob,[272]=some ob->[89]=some ob)->Q none [220]):[21,getAttr? [10] "keys"]:=by
 obtain⟨c,dct,dat,sl⟩:=o;simp only at hc Dy hd;subst hc Dy hd;obtain⟨hp,g,d,tk,os⟩:=s;have hT:∀M5,(⟨hp,g,d,M5,os⟩:Shared).TypeIs [10] "list":=λ_=>[36,hx];have YJ:=vG;have vd:[8,(["__module__","__name__","__qualname__","__doc__","__annotations__"]:[19]).contains "keys"]:=[32];have hsz:[24,("keys":Str).length+100]:=by first|size_fits|decide+kernel
 have f1:=sub_AttributeError;have f3:=PySem.F.slot_list_getattribute.lookup;have f4:=PySem.F.slot_list_getattribute.bind [10];have f5:=am_list_getattr_none;unfold getAttr? getAttrBy? getAttrBy;repeat(any_goals(first|assumption|exact hT _|((with_reducible show wpAny _ _ (call (Value.builtin "list.__getattribute__") _ _) _ _ _);refine call_meets PySem.F.slot_list_getattribute (hT _) am_entry_list_getattribute (PySem.F.args_list_getattribute_2 _ _) (meets_getattribute_miss_list a xs k sl "keys" _ YJ vd hsz) ⟨hx,hA,λh' M5 e Oa=> ?_⟩)|wp_step))
 obtain⟨t',u',he⟩:=Oa.there;show wpAny _ _ (getattributeRaised _ _ _ _ _ _ _) _ _ _;unfold getattributeRaised;rw[74];all_goals first|exact h _ _ Oa.keeps|(dsimp only;repeat(any_goals(first|assumption|exact h _ _ Oa.keeps|wp_step)))
end
section
variable {X:Cx}
theorem FV:∀ {ps:[14]} {us:[6]},Vals [546] us->us=ps.map Value.ref
 | [],us,r=>by
  rw[List.map_nil] at r;rw[17]
 |p::ps,us,r=>by
  rw[List.map_cons] at r;cases r with
   |cons h t=>
    cases h;rw[List.map_cons,<-FV t]
end
end L2
namespace L2
open PySem PySem.Spec PyProof.Rows
variable {P:Program} {w:World} {K:PySem.W.Frag} {e:Expr} {ta:TA} {pos EG:Pos} {elts:[115]} {kk:Nat}
theorem uQ:bootBuiltins "reversed"=some (.type "reversed"):=[32]
section
variable {X:Cx} {pins:[17]} {σ:St} {H:Hp} {s:Shared} {h':Heap}
theorem Inv.Iw {t':Nat} {ch:[14]} {T:Addr} {ob:HO}(I:[9])(k:∀b o,b∉ch->([105])->[3,[89]])(hf:∀b∈ch,[207,H])(hT:[371,T]) (new:eC X.prog X.w (upd H T ob) h' T ob):[65,upd H T ob,[106,t']]:=by
 have hn:[5,T]:=I.cH.fresh hT;have Zo:∀b u,[28,H b]->b∉ch:=λb u e z=>by
  have q:=(hf b z).1;rw[q] at e;cases e
 refine I.step (g':=s.gens) (d':=s.drawn) (ch:=ch) (λb hb=>⟨(hf b hb).2.2.2.1,(hf b hb).2.1,(hf b hb).2.2.2.2.1,(hf b hb).2.2.2.2.2⟩) (λb o _ _ hc e _=>k b o hc e) [441,k b o hc e] (λb o _ e n=> ?_) (λb o hc e=>⟨o,k b o hc e⟩) (λb xs e=> ?_) (λb o u e=> ?_) (λb ps e=>[30,#[]]) (λm hm=> ?_) (λb u e=> ?_) I.bare
 ·rw[0,aj [130,[72],hT],n]
 ·rw[0,aj (aq e hn),e]
 ·rw[0,aj (aq e hn),e]
 ·rw[aj (aq e hn),e];simp
 ·rw[54,λz=>(hf _ z).2.1 rfl]
 ·by_cases hb:b=T
  ·subst hb;rw[ag] at e;cases e;exact new
  ·rw[[28]] at e;refine(I.cH b u e).Cf (λc v hc q=>k c v ?_ q) (λc q=>by rw[0,aj (aq q hn),q]) λc xs q=>by rw[0,aj (aq q hn),q]
   rcases hc with z|z
   ·rw[z];exact Zo b u e
   ·exact Zo c _ z
end
section
variable {X:Cx}
theorem Ee {tg:Expr} {pins:[17]} {σ:St} {H:Hp} {s:Shared} {R:[10,It]} {J:It} {tn:[4,Nat,Heap]} {tk:Nat}(I:[9])(o:Obj) (T:Turn X.prog X.w X.K tg J [s.heap.objs.size] s.heap.objs.size tn)(st:tn 0 (s.heap.push o))(q:R J H):PIE X pins σ tg R [130] {s with heap:=s.heap.push o,toks:=tk}:=by
 refine⟨s.heap.objs.size,[s.heap.objs.size],tn,J,H,rfl,I.kept λb ob e=>[42,e],T,st,[279],q⟩;have e:b=s.heap.objs.size:=[96];rw[5,I.JH [8] [440]]
end
def Vt(K:PySem.W.Frag)(a:Addr)(n:Nat):It:=⟨λi H=>i<n/\∃(xs:[13]) (x:V),[126]/\[2,xs,n -1 -i,x],[378,∀xs,([126])->[2,xs,n -1 -i,x]],λi _=>n<=i⟩
theorem Mv {tg:Expr}(a it:Addr)(n:Nat):Turn P w K tg (Vt K a n) [it] it (λi h=>i<=n/\h.IsRevIter it a ([63] -1 -(i:Nat))) where
 mem:=[4]
 obj:=λi h st b hb=>by
  have e:b=it:=[96];subst e;obtain⟨_,o,e,c,d⟩:=st;rw[0,o,e,(λv z=>by rw[d] at z;cases z)]
 keep:=λi h h' st k=>⟨st.1,st.2.at λo e=>k it [4] o e⟩
 item:=by
  rw[36];obtain⟨qj,xs,x,hq,hx⟩:=hg;obtain⟨bo,rv,p,hz⟩:=[208];obtain⟨u,hu,ru⟩:=rv.get hx;rw[41];obtain⟨_,hit⟩:=st;have e1:[63] -1 -[11,i]=[11,n -1 -i]:=[2];rw[e1] at hit;refine wpAny_pyNext_rev_item hit p.isList (x:=u) [843] [844];have e2:[11,n -1 -i] -1=[63] -1 -[11,i+1]:=[2];rw[e2] at st';have I1:[17,H,[125]]:=[925];obtain⟨o,e,c,d⟩:=id st';rw[0,u,rfl,[415,⟨x,H,I1,ru,[18,(λys hy=>by rw[0,I.vF hy hq,hx])],⟨qj,st'⟩,[911]⟩]]
 done:=by
  rw[36];rw[41];obtain⟨qj,hit⟩:=st;have Yx:n<=i:=hg;have e1:[63] -1 -[11,i]= -1:=[2];rw[e1] at hit;exact wpAny_pyNext_rev_end [347] hit [1063]
 self:=λA i s Q E st h=>wpAny_pyIter_revIter st.2 h
def iRev(K:PySem.W.Frag)(ta:TA):TI:=λσ H R=>ta σ H λvs H1=>∃(a:Addr) (xs:[13]),[460,[741]]
section
variable {X:Cx} {tg:Expr}
theorem BL {p:Pos}(hg:Gl X "reversed")(hm:X.mg "reversed"=none)(ha:PA X [e] ta)(hs:[1283]:=by rfl):PI X tg (.Call (.Name "reversed" p) [e] [] pos) (iRev X.K ta):=by
 rw[39,Call_ (vD I hg hm uQ (PyProof.Rows.callWith_type1 [309,?_] hs rfl))];obtain⟨a,xs,e,hq,q⟩:=q1;subst e;cases r1 with
  |cons r rr=>
   cases rr;cases r;obtain⟨bo,rv,p',hz⟩:=I1.list hq;have hl:=rv.length;have e1:[1157]=[2,xs.length] -1 -[11,0]:=by
    simp only[List.size_toArray];omega
   rw[1,call_reversed_list p'.isList (wpAny_pyIter_revIter (l:=a) (i:=[1157]) [416] ?_),Ee (tk:=s1.toks) I1 _ (Mv a _ xs.length) [30,[33]] q];rw[<-e1];rw[0,_,[108],rfl,rfl]
end
def Its(x:Str):It:=⟨λi _=>i<x.cps.size,λi H v H'=>H'=H/\∃c,[3,x.cps,c]/\v= .str ⟨#[c]⟩,λi _=>x.cps.size<=i⟩
theorem Cr {tg:Expr}(it:Addr)(x:Str)(t:Tok)(ty:String)(QA:ty="str_ascii_iterator"\/ty="str_iterator"):
 Turn P w K tg (Its x) [it] it (λi h=>h.IsStrIter it ty x t i) where
 mem:=by simp
 obj:=λi h st b hb=>by
  have e:b=it:=by simpa using hb
  subst e;obtain⟨o,e,c,d⟩:=st;exact⟨o,e,λv z=>by rw[d] at z;cases z⟩
 keep:=λi h h' st k=>let⟨o,ho,r⟩:=st;⟨o,k it (by simp) o ho,r⟩
 item:=by
  intro X hP hw hK hc i pins s σ H E I hf st hg;subst hP hw hK;obtain⟨f0,f1,f2,f3,f4,f5⟩:=hf it (by simp)
  have W:Walks X.prog X.w X.A it [it] [it] x.cps.size (SignAt x) (λi h=>h.IsStrIter it ty x t i):=by
   rcases QA with e|e
   ·rw[e];exact Walks.strAscii (I.ok.hd hc) it x t
   ·rw[e];exact Walks.strWide (I.ok.hd hc) it x t
  have Ag: ["enumerate","zip","dict_itemiterator","dict_reverseitemiterator","odict_iterator","itertools.zip_longest","itertools.pairwise"].contains ty=false:=by
   rcases QA with e|e
   ·rw[e];decide
   ·rw[e];decide
  refine W.item i s _ _ hg st λv h' tk hv st' kk=> ?_;obtain⟨c,u,hcx,rfl⟩:=hv;have I1:Inv X pins σ H {s with heap:=h',toks:=tk}:=I.turned (λb o hb e=>kk b o (by simpa using hb) e) f0 f1 f3 f4 f5;obtain⟨oi,e,cc,dd⟩:=id st';exact⟨_,rfl,Ff (s:={s with heap:=h',toks:=tk}) e cc dd Ag ⟨.str ⟨#[c]⟩,H,I1,⟨u,rfl⟩,⟨rfl,c,hcx,rfl⟩,st',λb hb=>(hf b hb).1⟩⟩
 done:=by
  intro X hP hw hK hc i pins s σ H E I hf st hg;subst hP hw hK;obtain⟨f0,f1,f2,f3,f4,f5⟩:=hf it (by simp);have hx:x.cps[i]? =none:=Array.getElem?_eq_none hg;rcases QA with e|e
  ·rw[e] at st;exact wpAny_pyNext_ascii_end (I.ok.hd hc) st hx λh' eb=>⟨rfl,I.turned (t':=s.toks) (λb o hb e=>eb b o hb e) f0 f1 f3 f4 f5⟩
  ·rw[e] at st;exact wpAny_pyNext_wide_end (I.ok.hd hc) st hx λh' eb=>⟨rfl,I.turned (t':=s.toks) (λb o hb e=>eb b o hb e) f0 f1 f3 f4 f5⟩
 self:=λA i s Q E st h=>by
  rcases QA with e|e
  ·rw[e] at st;exact wpAny_pyIter_striter_ascii st h
  ·rw[e] at st;exact wpAny_pyIter_striter_wide st h
def iStr(te:TE):TI:=λσ H R=>te σ H λv H1=>∃x,v= .str x/\R (Its x) H1
theorem Tt {X:Cx} {tg:Expr} {te:TE}(he:[308]):PI X tg e (iStr te):=by
 rw[39,[171,λv s1 ⟨y,H1,I1,r1,x,ex,q⟩=> ?_]];subst ex;obtain⟨t,rfl⟩:=r1;cases ha:x.cps.all (·<128);rw[2,wpAny_pyIter_wide ha (Ee (tk:=s1.toks) I1 _ (Cr _ x t "str_iterator" [267]) [416] q),wpAny_pyIter_ascii ha (Ee (tk:=s1.toks) I1 _ (Cr _ x t "str_ascii_iterator" [38]) [416] q)]
def Vr(K:PySem.W.Frag)(a:Addr):It:=⟨λi H=>∃(xs:[13]) (x:V),[126]/\[206],λi H v H'=>∃T x,v= .ref T/\H T=none/\H'=[1297]/\∀xs,([126])->[206],λi H=>∃xs:[13],[126]/\xs.length<=i⟩
theorem Iu(a e it:Addr):
 Turn P w K (.Tuple elts kk EG) (Vr K a) [e,it] e (λi h=>(∃old,IsEnum h e it ((i:Nat):Int) old)/\h.IsListIter it a i/\e≠it) where
 mem:=by simp
 obj:=λi h st b hb=>by
  obtain⟨⟨old,he⟩,⟨o,ho,hc,hd⟩,_⟩:=st;have e':b=e\/b=it:=by simpa using hb
  rcases e' with z|z
  ·rw[z];exact⟨_,he,λv q=>nomatch q⟩
  ·rw[z];exact⟨o,ho,λv q=>by rw[hd] at q;cases q⟩
 keep:=λi h h' st k=>let⟨⟨old,he⟩,hi,gx⟩:=st;⟨⟨old,k e (by simp) _ he⟩,hi.at λo q=>k it (by simp) o q,gx⟩
 item:=by
  intro X hP hw hK hc i pins s σ H E I hf st hg;subst hP hw hK;obtain⟨⟨old,he⟩,hit,gx⟩:=st;obtain⟨xs,x,hq,hx⟩:=hg;obtain⟨bo,rv,p,hz⟩:=I.list hq;obtain⟨u,hu,ru⟩:=rv.get hx;have hel:e<s.heap.objs.size:=Heap.lt_size he;have Yz:it<s.heap.objs.size:=by obtain⟨_,q,_⟩:=hit;exact Heap.lt_size q
  refine wpAny_pyNext_enum_item he hit p.isList (x:=u) (by simpa using hu) gx λh' ho hit' hT hsz hk=> ?_;refine⟨_,rfl,wpAny_letOwnedTupleGo_enum (s:={s with heap:=h',toks:=s.toks+1}) ho λh'' AR sb=> ?_⟩;have hT2:h''.get? s.heap.objs.size=some {cls:= .type "tuple",data:= .seq #[.int i s.toks,u]}:=(sb.2 _ (Nat.ne_of_gt hel)).trans hT
  have new:eC X.prog X.w (upd H s.heap.objs.size (.tup [.int (i:Nat),x])) h'' s.heap.objs.size (.tup [.int (i:Nat),x]):=
   ⟨by show 2<=sizeLine;decide,[.int i s.toks,u],.cons ⟨_,rfl⟩ (.cons ru .nil),⟨_,hT2,rfl,_,rfl⟩⟩
  have I1:Inv X pins σ (upd H s.heap.objs.size (.tup [.int (i:Nat),x])) {s with heap:=h'',toks:=s.toks+1}:=
   I.Iw (ch:=[e,it]) (λb ob hb q=>(sb.2 b (λz=>hb (by simp[z]))).trans (hk b ob (λz=>hb (by simp[z])) (λz=>hb (by simp[z])) q)) hf (Nat.le_refl _) new
  refine⟨.ref s.heap.objs.size,_,I1,rfl,⟨_,x,rfl,I.cH.fresh (Nat.le_refl _),rfl,λys hy=>by rw[I.vF hy hq];exact hx⟩,⟨⟨u,?_⟩,hit'.at λo q=>(sb.2 it (Ne.symm gx)).trans q,gx⟩,λb hb=> ?_⟩
  ·have e1:((i+1:Nat):Int)=(i:Int)+1:=by omega
   rw[e1];exact AR
  ·have xY:b<s.heap.objs.size:=by
    have e':b=e\/b=it:=by simpa using hb
    rcases e' with z|z
    ·rw[z];exact hel
    ·rw[z];exact Yz
   rw[aj (Nat.ne_of_lt xY)];exact(hf b hb).1
 done:=by
  intro X hP hw hK hc i pins s σ H E I hf st hg;subst hP hw hK;obtain⟨⟨old,he⟩,hit,gx⟩:=st;obtain⟨xs,hq,hx⟩:=hg;obtain⟨bo,rv,p,hz⟩:=I.list hq;obtain⟨f0,f1,f2,f3,f4,f5⟩:=hf it (by simp);have hl:=rv.length;exact wpAny_pyNext_enum_end (I.ok.hd hc) he hit p.isList (by simp;omega) λh' eb=>⟨rfl,I.turned (t':=s.toks) (λb o hb q=>eb b o hb q) f0 f1 f3 f4 f5⟩
 self:=λA i s Q E st h=>let⟨⟨_,he⟩,_⟩:=st;wpAny_pyIter_enum he h
def Za(K:PySem.W.Frag)(ta:TA):TI:=λσ H R=>ta σ H λvs H1=>∃a xs,[460,Vr K a]
theorem O5 {X:Cx} {p:Pos}(hg:Gl X "enumerate")(hm:X.mg "enumerate"=none)(ha:PA X [e] ta)(hs:[1283]:=by rfl):PI X (.Tuple elts kk EG) (.Call (.Name "enumerate" p) [e] [] pos) (Za X.K ta):=by
 rw[39,Call_ (vD I hg hm boot_enumerate (PyProof.Rows.callWith_type1 [309,?_] hs rfl))];obtain⟨a,xs,ex,hq,q⟩:=q1;subst ex;cases r1 with
  |cons r rr=>
   cases rr;cases r;obtain⟨bo,rv,p',hz⟩:=I1.list hq;refine call_enumerate_list p'.isList λh' he hit hsz hk=>wpAny_pyIter_enum he ?_;have I2:[17,H1,{s1 with heap:=h'}]:=I1.kept (t':=s1.toks) hk;refine⟨[168],[[168],s1.heap.objs.size],_,_,H1,rfl,I2,Iu a [168] s1.heap.objs.size,⟨⟨.none,he⟩,hit,Nat.succ_ne_self _⟩,[279],q⟩;have e':b=[168]\/b=s1.heap.objs.size:=[96];have hle:s1.heap.objs.size<=b:=by
    rcases e' with z|z
    ·rw[z];exact[230,_]
    ·rw[z];exact[8]
   exact I1.JH hle (I1.cH.fresh hle)
end L2
section
namespace TL
open PySem PySem.Builtin PySem.Builtin.Str PySem.StrLaws
abbrev tl(x:Str):[30]:=x.cps.toList
def pre(S l:[30]):Bool:=l.take S.length==S
def par(S:[30]):([30])->([30])->Option ([30]×[30])
 |_,[]=>none
 |acc,c::r=>[5,pre S (c::r),[11,acc,(c::r).drop S.length],par S (acc++[c]) r]
end TL
end
namespace L2
open PySem PySem.Spec PyProof.Rows
variable {x qual:Str} {st:Stmt} {f:Addr} {fd:FuncData} {ps:[19]} {A B:Prop} {H H1:Hp} {xs:[13]} {j:Nat}
def inClass(s:Stmt)(j:Nat):Stmt:=match s with
 | .ClassDef _ _ _ body _ _ _ _ _ _ _=>body.getD j [1039]
 |_=>[1039]
def il(s:Stmt):Arguments:=match s with
 | .FunctionDef _ a _ _ _ _ _ _ _ _=>a
 |_=>{posonlyargs:=[],args:=[],vararg:=none,kwonlyargs:=[],kw_defaults:=[],kwarg:=none,defaults:=[]}
def fc(s:Stmt):[207]:=match s with
 | .FunctionDef _ _ b _ _ _ _ _ _ _=>b
 |_=>[]
def ai(s:Stmt):Scope:=match s with
 | .FunctionDef _ _ _ _ _ _ sc _ _ _=>sc
 |_=>{kind:= .function,names:=[],isGenerator:=false,isCoroutine:=false}
abbrev fi:CD:=λ_ _ _ _ _ _=>False
abbrev E0:XK:=[428]
theorem a6 {X:Cx}:Passes fi X E0:=λ_ _ _ _ _ _ _ h=>h.elim
structure ot(K:PySem.W.Frag)(x qual:Str)(st:Stmt)(f:Addr)(fd:FuncData):Prop where
 ex:∃(oc:Value) (od:Option Addr) (kV doc pm:Value) (an:Option Addr) (bU ct:Value) (vY:Array (Option Value)),
  fd=PySem.W.fnOf x qual (il st) (fc st) (ai st) .none kV doc pm an bU ct/\K.lookup f=some ⟨oc,od,.func fd,vY⟩/\PySem.W.codeIn K bU qual=true
 kp:PySem.W.keepIn K (.ref f)=true
section
variable {P:Program} {w:World} {K:PySem.W.Frag} {mg:[16]} {base:Heap}
theorem ot.ok {N:[19]} {k:Nat} {sp:Sp}(F:[1000])(S:aA N ps (ai st))(len:[628]) (qT:[422,[282,[1050]]->([329])->∃t,[1489]/\[200,[331]]]):[1483]:=by
 obtain⟨oc,od,kV,doc,pm,an,bU,ct,vY,rfl,lk,xZ⟩:=F.ex;refine[418,?_];obtain⟨t,h,q⟩:=[1071];rw[0,t,h.Ta,q]
theorem ot.binds(F:[1000]) (h:[1448]):[751]:=by rw[51,.all (h kV doc pm an bU ct)]
theorem JJ {oc:Value} {od an:[241]} {vY:[565]} {kV doc pm bU ct:Value}(l:[214,[531]]) (c:[613])(k:[85,K,[110]]):ot K x qual st f [531]:=⟨⟨oc,od,kV,doc,pm,an,bU,ct,vY,rfl,l,c⟩,k⟩
end
theorem pX {A:Around} {k:Nat}(hr:ij k A):[265]:=Nat.lt_of_le_of_lt (Nat.add_le_add_left ([3]:1<=64) _) hr.units
section
variable {X:Cx}
theorem pv(i:Nat) {pos:Pos}(hN:[296]:=by rfl)(hv:Rj X.env.scope x:=by rw[124])(hd:[117]:=by decide) (xZ:[873]:=by decide):PE X [449] (rL i):=Lv hN hv hd xZ
end
theorem bg(h:B):[5,false,A,B]:=by rw[0,[187],h]
theorem bY(h:A):[5,true,A,B]:=by rw[0,if_pos rfl,h]
theorem er {c:Prop} [Decidable c](h1:c->A)(h2:¬c->B):if c then A else B:=by
 by_cases h:c
 ·rw[0,[56],h1 h]
 ·rw[0,[48],h2 h]
def aS(H H':Hp):Prop:=∀b o,[3,H b]->[3,H' b]
theorem aS.refl(H:Hp):aS H H:=λ_ _ h=>h
theorem aS.trans {H2:Hp}(a:[294])(b:[371]):[216]:=λc o h=>b c o (a c o h)
theorem aS.seq {K:PySem.W.Frag} {H':Hp} {a:Addr}(e:[35])(h:[126]):bP K H' a xs:=by
 rcases h with(h|⟨o,h⟩)|h;rw[2,[181,e _ _ h],.inl [87,o,e _ _ h]]
 ·exact .inr h
theorem at_of {z:Int} {v:V}(e:z=[2,j])(h:[2,xs,j,v]):MQ xs z=some v:=by
 rw[e];exact EV h
theorem Zm {α:Type} {l:[34]}(hN:l.Nodup) {i:Nat} {x:α}(a:[3,l,x])(b:[2,l,j,x]):i=j:=by
 obtain⟨h1,e1⟩:=[1103];obtain⟨h2,e2⟩:=[1104];exact(List.getElem_inj hN).mp (e1.trans e2.symm)
theorem aS.made {x dx C:Addr}(nx:H x=Option.none)(nd:H dx=Option.none)(k:∀b o,[3,([154,C]) b]->b≠x->[3,H1 b]):[294]:=λb o e=>k b o (by rw[aj (aq e nx),aj (aq e nd)];exact e) (aq e nx)
end L2
end
section
namespace L2
open PySem PySem.Spec PyProof.Rows
section
variable {x:Str}
section
variable {P:Program} {w:World} {H:Hp} {h:Heap} {a:Addr} {o:HO}
theorem eC.there(x:[725]):∃u,[28,[88]]:=by cases o with
 |lst xs=>
  obtain⟨_,_,_,_,e⟩:=x;rw[4,e]
 |tup xs=>
  obtain⟨_,_,_,ob,e,_⟩:=x;rw[4,e]
 |dK cF=>
  obtain⟨_,_,_,_,o,_,_,e,_⟩:=x;rw[4,e]
 |dT cF=>
  obtain⟨_,_,_,_,o,_,_,e,_⟩:=x;rw[4,e]
 |set S n=>
  obtain⟨o,_,_,_,e,_⟩:=x;rw[4,e]
 |ins C dx fs=>
  obtain⟨_,_,_,e,_⟩:=x;rw[4,e]
 |own y=>exact x
 |xd fs=>
  obtain⟨_,⟨_,_,_,e,_⟩,_⟩:=x;rw[4,e]
 |rng lo hi=>
  obtain⟨_,_,_,e⟩:=x;rw[4,e]
 |xV ob u=>
  obtain⟨e,_⟩:=x;rw[4,e]
 |Q2 ps=>rw[4,x]
 |met f y=>rw[4,x]
 |ext φ=>
  obtain⟨_,e,_⟩:=x;exact e
theorem lY.no(x:[79])(e:[88]=none):[5,a]:=by cases q:H a with
 |none=>rfl
 |some u=>
  obtain⟨o,r⟩:=(x a u q).there;rw[e] at r;cases r
end
def Fl(C:Addr)(H:Hp)(h0 h:Heap)(e:Addr):Prop:=∃(oe:Obj) (vs:[93]) (a0:Value),h.get? e=some oe/\oe.cls=[87]/\oe.data= .fields vs/\[2,vs,0,a0]/\h0.get? e=none/\[5,e]/\([2,vs,1,.none]\/∃(T:Addr) (oT:Obj) (ts:[93]),vs[1]? =[4,T]/\[1468])
def FlT(C:Addr)(H:Hp)(h0 h:Heap)(e:Addr):Prop:=∃(oe:Obj) (vs:[93]) (a0:Value) (T:Addr) (oT:Obj) (ts:[93]),h.get? e=some oe/\oe.cls=[87]/\oe.data= .fields vs/\[2,vs,0,a0]/\h0.get? e=none/\H e=none/\vs[1]? =[4,T]/\[1468]
def cQ(P:Program)(w:World)(C:Addr):CD:=λouter H s E e s'=>∃(a:Addr) (H':Hp),e=[10]/\[500,lY P w H' s'.heap/\FlT C H' s.heap s'.heap a/\E [87] none H']
theorem zC {l:[123]}:∀env∈l,∀a,env.frame=some a->a∈nW l:=λenv he a ha=>[38,env,he,ha]
section
variable {P:Program} {w:World} {K:PySem.W.Frag} {mg:[16]} {base:Heap} {N:[19]} {qual:Str} {scope:Scope} {f C:Addr} {cd:Value} {A:Around} {outer:[123]} {s0 s:Shared} {H0 H:Hp} {E:XK} {pins:[17]} {σ:St} {a:Addr}
theorem Fz(J:[249,[321]])(F:Fl C H s0.heap s.heap a)(hE:E [87] none H):[321].xe [10] s:=by
 obtain⟨oe,vs,a0,he,AQ,hd,h0,U2,hH,ht⟩:=F;have N1:=J.ok.frames;have vg:=J.stack;have nZ:=J.uE;have hloc:s0.heap.get? s0.heap.objs.size=none:=by cases e:s0.heap.get? s0.heap.objs.size with
  |none=>rfl
  |some o=>exact absurd [72] [230]
 have fin:∀(Fp:[14]),(∀b∈[195],b∈Fp)->(∀b∈Fp,b∈[195]\/([853]=none/\[75]))->∀h',Heap.LeftW (PySem.W.hideAll s.heap Fp) [1075] a [87] a0 s.heap h'->cQ P w C outer H0 s0 E [10] [125]:=by
  intro Fp qj AS h' ⟨k1,k2,k3,k4⟩;have keep:∀b o,([105])->b∉Fp->[3,[89]]:=λb o q n=>k1 b o [121,q,n];have Ag:∀b,H b≠none->b∉Fp:=λb n m=>by
   rcases AS b m with z|z;rw[2,n (nZ b z),n z.2]
  have Sl:∀b,b∈[195]->b=s0.heap.objs.size\/b∈nW outer:=λb m=>by
   rw[121];rcases List.mem_cons.mp me with rfl|me;rw[2,.inl [173,ef],.inr [38,env,me,ef]]
  have Sy:∀b,b∈nW outer->b∈[195]:=λb m=>by
   rw[121];exact[38,env,[19,me],ef]
  have slot:∀b o,b∈nW outer->([105])->[968]:=λb o m q=>by
   obtain⟨_,o',qL,MW⟩:=vg.mem (Sy b m);rw[q] at qL;cases qL;exact k4 b o q MW
  have old:∀b o,[3,[853]]->b∉nW outer->b∉Fp:=λb o q n m=>by
   rcases AS b m with z|z
   ·rcases Sl b z with z|z
    ·rw[z,hloc] at q;cases q
    ·exact n z
   ·rw[z.1] at q;cases q
  have jb:[1040]:=J.base;refine⟨a,H,rfl,J.os,J.bare,⟨?_,?_,?_,?_,jb.xF,jb.u7,jb.xE⟩,?_,?_,hE⟩
  ·intro b o q n hb hx;exact keep b o (jb.keep b o q n hb hx) [785]
  ·intro b o q n hb hx;obtain⟨sl,e1⟩:=jb.slot b o q n hb hx;obtain⟨Z4,e2⟩:=slot b _ hb e1;rw[3,Z4,e2]
  ·exact jb.free
  ·intro b o q hx;obtain⟨o',e1⟩:=jb.there b o q hx;by_cases hb:b∈nW outer
   ·obtain⟨sl,e2⟩:=slot b o' hb e1;rw[4,e2]
   ·exact⟨o',keep b o' e1 [785]⟩
  ·intro b o q;refine(J.cH b o q).Cf [1420] (λ_ z=>z) [203];rcases hc with rfl|hc
   ·rw[q];exact[222]
   ·rw[hc];exact[222]
  ·obtain⟨oe',Q4,T,oT,ts,g1,⟨g2,g2'⟩,g3,g4,g5,g6,g7,g8,g9⟩:=k3;have hTf:T∉[195]:=λm=>by
    obtain⟨_,o',qL,MW⟩:=k2.mem m;rw[g7] at qL;cases qL;exact MW ts g8
   have MT:s0.heap.get? T=none/\[5,T]:=by
    by_cases m:T∈Fp
    ·rcases AS T m with z|z;rw[2,absurd z hTf,z]
    ·have hs:s.heap.get? T=none:=by cases e:s.heap.get? T with
      |none=>rfl
      |some o=>
       rw[[121,e,m]] at g5;cases g5
     rw[7,?_,J.cH.no hs];cases e:s0.heap.get? T with
      |none=>rfl
      |some o=>
       obtain⟨o',e'⟩:=jb.there T o e [4];rw[hs] at e';cases e'
   exact⟨oe',Q4,a0,T,oT,ts,g1,g2,g3,g2',U2,hH,g4,MT.1,g6,MT.2,g7,g8,g9⟩
 show wpAny _ _ (leaving _ _) _ _ _;rcases ht with h1|⟨T,oT,ts,h1,MT,hTe,hHT,hT,hdT,h3⟩
 ·have qj:∀b∈[195],b∈[195]++[a]:=λb m=>[95,m];refine wpAny_leaving_firstW (base:=PySem.W.hideAll s.heap ([195]++[a])) N1 [1051] rfl he [994] [618] hd h1 h0 λh' L=> ?_;rw[AQ] at L;refine[1421];rcases List.mem_append.mp m with z|z
  ·exact[150]
  ·rw[5,z,[87,U2,hH]]
 ·have qj:∀b∈[195],b∈[195]++[a,T]:=λb m=>[95,m];rw[1,wpAny_leaving_nextW (base:=PySem.W.hideAll s.heap ([195]++[a,T])) N1 [1051] rfl ⟨oe,vs,T,oT,ts,he,⟨AQ,h0⟩,hd,h1,[618],hTe,hT,hdT,h3⟩ [994] [618] λh' L=> ?_,[1421]];rcases List.mem_append.mp m with z|z
  ·exact[150]
  ·rcases List.mem_cons.mp z with rfl|z
   ·exact[87,U2,hH]
   ·rw[5,z,[87,MT,hHT]]
abbrev tV(C:Addr)(E:XK):XK:=λc d _=>[118]
theorem ao:Passes [62] [321] (tV C E):=by
 intro pins σ H s e s' I h;obtain⟨a,H',rfl,hos,hb,un,cH,⟨oe,vs,a0,T,oT,ts,he,AQ,hd,h0,hs,hH,h1,MT,r⟩,hE⟩:=h;have J:=I.EY hos un cH hb [750];have jb:[1040]:=I.base;have old:∀b,[272]=none->[853]=none:=λb q=>by cases e:s0.heap.get? b with
  |none=>rfl
  |some o=>
   obtain⟨o',e'⟩:=jb.there b o e [4];rw[q] at e';cases e'
 exact Fz J ⟨oe,vs,a0,he,AQ,hd,h0,old _ hs,hH,.inr ⟨T,oT,ts,h1,old _ MT,r⟩⟩ (hE H')
theorem f' {bm:[6]} {newId aP B:String} {np ky pos:Pos}(O:OwnCls x C bm newId mg base)(FB:[1354]) (hg:Gl [321] x)(xn:[117]:=by decide):PS [321] (.Raise (some (.Call (.Name x np) [] [] ky)) none pos) (λ_ _ _=>[118]):=by
 intro pins s σ H D I h;obtain⟨tl,Nn,nm,q,bs,hdct,sn,sub,ab,col,dd,k0,k1,k2,k3,k5,mN,hC,hN,YM,T⟩:=O.obj;rw[1,wpAny_Raise_call_subT (C:=C) (nm:=nm) (q:=q) (N:=Nn) (bs:=bs) (bm:=tl) (hdct:=hdct) (sn:=sn) (sub:=sub) (ab:=ab) (col:=col) (dd:=dd) (k0:=k0) (k1:=k1) (k2:=k2) (k3:=k3) (k5:=k5) FB (mN:=mN) (T.hasType FB.hasBase) (I.ok.hd rfl) rfl YM (kD I hg O.bound [124] xn),evalArgs_empty ⟨rfl,[33],I.bk _ _ hC,hN.keeps I.bk,T.keeps I.bk,λh' e M=> ?_⟩];have J:Inv _ pins σ H [125]:=[355,M.keeps];obtain⟨t,he,_,_⟩:=M.there;have jb:[1040]:=I.base;refine Fz J ⟨_,_,_,he,rfl,rfl,rfl,?_,I.cH.no M.new,[38]⟩ (h H);cases e':s0.heap.get? e with
  |none=>rfl
  |some o=>
   obtain⟨o',e''⟩:=jb.there e o e' [4];rw[M.new] at e'';cases e''
theorem lL:PassesOwn (model P w) [321].A [321].env [321].xe:=PassesOwn.leaving
end
section
variable {P:Program} {w:World} {K:PySem.W.Frag} {mg:[16]} {base:Heap}
theorem ot.okN {C:Addr} {qual:Str} {st:Stmt} {f:Addr} {fd:FuncData} {N ps:[19]} {k:Nat} {sp:Sp}(F:[1000])(S:aA N ps (ai st))(len:[628]) (qT:[422,[282,[1050]]->([329])->∃t,Af (oo [62] P w K mg base N qual (ai st) f bU A outer s H E) (fc st) t/\[200,[331]]]):aC P w K mg base [62] (k+1) f fd ps sp:=by rw[51,[418,[1071]]]
end
end
section
variable {Q:[27]}
def kR(P:Program)(w:World)(K:PySem.W.Frag)(a:Addr)(cF:[218]):Prop:=[108,a]/\∀h,([151])->[1026]
def y6(P:Program)(w:World)(K:PySem.W.Frag)(a:Addr)(cF:[134]):Prop:=[108,a]/\∀h,([151])->∃xs:[102],[322,p.1=q.1/\RelV p.2 q.2.2]/\h.DictOfH [191] a xs
def KGet(P:Program)(w:World)(K:PySem.W.Frag)(H:Hp)(a:Addr)(y:V)(r:[71]):Prop:=[166,[58,a,cF],y6 P w K a cF]
theorem KTK.val:∀ {cF:[134]} {xs:[102]},[322,p.1=q.1/\RelV p.2 q.2.2]->∀k:[80],lQ [237] ([68,[475]])
 |_,_,.nil,k=>True.intro
 |p::_,q::_,.cons ⟨e,r⟩ t,k=>by
  have ih:=KTK.val t k;unfold gh atKey at ih ⊢;rw[List.find?_cons,List.find?_cons];by_cases h:q.1=k
  ·have h':p.1=k:=e.trans h;simp only[h,h',decide_true];exact r
  ·have h':¬p.1=k:=λz=>h (e.symm.trans z);simp only[h,h',decide_false];exact ih
section
variable {X:Cx} {pins:[17]} {σ:St} {H:Hp} {s:Shared} {a:Addr} {y v d:V} {u r:Value} {o:[71]} {A:Around} {E:[27]}
theorem Hq(hu:[265])(I:[9])(g:KGet X.prog X.w X.K H a y (some v))(ry:[133])(h:[396,RelV v w']):[151,getItem [10] u]:=by
 rcases g with⟨cF,k,e,ey,l⟩|⟨cF,k,b,e,ey,eb,l⟩
 ·subst ey;rw[67];obtain⟨w',hw,BV⟩:=[109,valueAt vs k,(by rw[l];exact[288])];exact[451,vx ry]
 ·rw[46];obtain⟨xs,rel,dd⟩:=[405];obtain⟨w',hw,BV⟩:=[109,[68,[475]],(by rw[l];exact KTK.val rel k)];obtain⟨p,hp,U0⟩:=[1110];refine[1419];rw[U0];exact[827]
theorem k_in(hu:[265])(I:[9])(g:[1041])(ry:[133])(h:[1174]):[1164]:=by
 rcases g with⟨cF,k,e,ey,l⟩|⟨cF,k,b,e,ey,eb,l⟩
 ·subst ey;rw[67];refine[452,e.1];rw[<-[288].jG,<-l];exact h _ [139]
 ·rw[46];obtain⟨xs,rel,dd⟩:=[405];refine[478,e.1];have q:=(KTK.val rel k).jG;rw[Option.isSome_map] at q;rw[<-q,<-l];exact h _ [139]
theorem Oi(hu:[265])(I:[9])(g:[1041])(ry:[133])(h:∀s',[17,H,s']->Q (.bool (!o.isSome)) s'):[151,compareOp .NotIn u [10]]:=by
 rcases g with⟨cF,k,e,ey,l⟩|⟨cF,k,b,e,ey,eb,l⟩
 ·subst ey;rw[67];refine wpAny_notIn_of (vx ry) e.1 dd.mapOf ?_;rw[<-[288].jG,<-l];exact h _ [139]
 ·rw[46];obtain⟨xs,rel,dd⟩:=[405];refine wpAny_notIn_heap [662] (qp I.cH eb) e.1 dd ?_;have q:=(KTK.val rel k).jG;rw[Option.isSome_map] at q;rw[<-q,<-l];exact h _ [139]
theorem SS(I:[9]) {cF:[218]} {k:Key}(e:kR X.prog X.w X.K a cF)(ry:RelV (kV k) u)(rd:RelV d r)(h:[396,RelV ([237].getD d) w']):[151,call (.builtin "dict.get") [[10],u,r]]:=by
 rw[67];rw[4,call_meetsIn PySem.F.slot_dict_get dd.typeIs PySem.F.entry_dict_get (PySem.F.args_dict_get_3 _ _ _) (meets_dict_get_default (bw X.prog X.w) a (vx ry) e.1 r) [38,dd.mapOf,h _ _ [139] ?_],[288].getD rd]
theorem SU(I:[9])(g:[1041]):s.TypeIs [10] "dict":=by
 rcases g with⟨cF,k,e,_,_⟩|⟨cF,k,b,e,_,_,_⟩
 ·obtain⟨vs,_,dd⟩:=[405];exact dd.typeIs
 ·obtain⟨xs,_,dd⟩:=[405];exact dd.typeIs
end
def tKGet(P:Program)(w:World)(K:PySem.W.Frag)(td ty:TE):TE:=[402,ty σ H1 λy H2=>∃a v,x=[10]/\KGet P w K H2 a y (some v)/\Q v H2]
def tKIn(P:Program)(w:World)(K:PySem.W.Frag)(ty td:TE):TE:=[442,KGet P w K H2 a y o]
def PR(P:Program)(w:World)(K:PySem.W.Frag)(ty td:TE):TE:=λσ H Q=>ty σ H λy H1=>td σ H1 λx H2=>∃a o,x=[10]/\KGet P w K H2 a y o/\Q (.bl (!o.isSome)) H2
def Ua(P:Program)(w:World)(K:PySem.W.Frag)(td ty tx:TE):TE:=[402,∃a cF,x=[10]/\[58,a,cF]/\ty σ H1 λy H2=>tx σ H2 λz H3=>∃k,y=kV k/\Q ([237].getD z) H3]
section
variable {X:Cx} {o i e f:Expr} {pos apos ky:Pos} {td ty tx:TE}
theorem nB(hu:[575])(ho:[378])(hi:[483])(hs:Rc i):PE X (.Subscript o i pos) (tKGet X.prog X.w X.K td ty):=by
 rw[14,F9 PySem.F.slot_dict_getitem.lookup hs [264,λu s1 ⟨x,H1,I1,rx,q1⟩=>dI (hi pins s1 σ H1 _ I1 q1) [507,v]]];subst ex;obtain rfl:u=[128]:=rx;rw[3,SU I2 g,Hq hu I2 g ry [1408]]
theorem zN(hu:[575])(hi:[483])(ho:[378]):PC X .In i o (tKIn X.prog X.w X.K ty td):=by
 rw[14,[331,λu s2 ⟨x,H2,I2,rx,a,ov,ex,g,q2⟩=> ?_]];subst ex;obtain rfl:u=[128]:=rx;exact k_in hu I2 g ry [1341]
theorem HZ(hu:[575])(hi:[483])(ho:[378]):PC X .NotIn i o (PR X.prog X.w X.K ty td):=by
 rw[14,[331,λu s2 ⟨x,H2,I2,rx,a,ov,ex,g,q2⟩=> ?_]];subst ex;obtain rfl:u=[128]:=rx;exact Oi hu I2 g ry λs3 I3=>[3,.bl (!ov.isSome),H2,I3,q2]
theorem BI(ho:[378])(he:PE X e ty)(hf:PE X f tx)(m:M2 X o "get" apos e f ky):PE X (.Call (.Attribute o "get" apos) [e,f] [] ky) (Ua X.prog X.w X.K td ty tx):=by
 rw[14,wpAny_Call_method m.base m.few m.line PySem.F.plainAttrs_dict PySem.F.slot_dict_get PySem.F.type_dict_get [264,λu s1 ⟨x,H1,I1,rx,a,cF,ex,d,q1⟩=> ?_]];subst ex;obtain rfl:u=[128]:=rx;obtain⟨vs,rel,dd⟩:=d.2 _ I1.pP;refine[21,dd.typeIs,λb q=> ?_]
 ·cases q;obtain⟨ob,_,_,h1,h2,_⟩:=dd;rw[0,ob,h1,h2.2.1]
 rw[m.trees];refine Calls.callWith_builtin rfl (Calls.evalArgs_plain (Calls.spliced_cons (dI (he pins s1 σ H1 _ I1 q1) λiv s2 ⟨y,H2,I2,ry,q2⟩=>Calls.spliced_cons (dI (hf pins s2 σ H2 _ I2 q2) λfv s3 ⟨z,H3,I3,rz,k,ey,q3⟩=>Calls.spliced_nil ?_))));subst ey;exact SS I3 d ry rz λw' s4 I4 BV=>⟨_,H3,I4,BV,q3⟩
end
def T9(i:Nat)(f:Addr)(sp:Sp)(qJ:[13])(E:XK)(t:TA):TE:=λσ H Q=>σ[i]? =some [4,f]/\t σ H λvs H1=>sp (vs++qJ) H1 Q E
section
variable {X:Cx} {CX:CD} {k:Nat} {f:Addr} {fd:FuncData} {ps:[19]} {sp:Sp} {qJ:[13]} {ds:[6]} {E:XK} {x:Str} {p pos:Pos} {e:Expr} {es:[115]} {t:TA}
theorem BH(i:Nat)(F:[393])(hr:ij k X.A)(hk:[85,X.K,[110]])(hb:[380])(hd:[383])(hx:[387])(ha:[316]) (hN:[296]:=by rfl)(hv:Rj X.env.scope x:=by rw[124])(xn:[117]:=by decide) (xZ:[873]:=by decide)(he:[224]:=by rfl)(bQ:[470]:=by rfl):[204,T9 i f sp qJ E t]:=by
 intro pins s σ H Q I h;obtain⟨hi,h⟩:=h;rw[1,wpAny_Call_Name_kw ?_,dI (Lv (pos:=p) hN hv xn xZ pins s σ H (λv H1=>v=[110]/\H1=H) I [21,_,hi,rfl]) λu s1 ⟨v,H1,I1,rv,e1,e2⟩=> ?_];subst e1 e2;obtain rfl:u=Value.ref f:=rv;rw[4,[372,dI (ha pos pins s1 σ H1 _ I1 h) λus s2 ⟨vs,H2,I2,r,q⟩=>[30,I2.pP]],Em F hr hb hd hx I2 r q]
end
end
section
variable {P:Program} {h':Heap} {a:Addr} {xs:[102]}
theorem wK {w:World} {h:Heap} {k:[80]}(x:[191].is h k a)(e:∀o,([446])->[3,[540]]):[191].is h' k a:=by
 obtain⟨o,bo,n,ho,r⟩:=x;exact⟨o,bo,n,e o ho,r⟩
theorem Ms {w:World} {h:Heap} {k:List Key}(x:(tupleKind (bw P w)).is h k a):∃o,h.get? a=some o:=let⟨o,_,_,ho,_⟩:=x;⟨o,ho⟩
theorem Jl {w:World} {h:Heap} {d b:Addr}(hm:h.DictOfH [191] d xs)(hs:Heap.ExtBut b h h')(Fi:d≠b)(hk:∀x∈xs,x.2.1≠b):h'.DictOfH [191] d xs:=by
 obtain⟨o,es,ep,h1,h2,h3,h4,h5,h6⟩:=hm;exact⟨o,es,ep,hs _ _ Fi h1,h2,h3,h4,λx hx=>wK (h5 x hx) λo ho=>hs _ _ (hk x hx) ho,h6⟩
theorem PM {k:[80]} {b:Addr} {v:Value}(h:∀x∈xs,x.2.1≠b)(ha:a≠b):∀x∈storedH xs k a v,x.2.1≠b:=by
 unfold storedH;split
 ·intro x hx;obtain⟨y,hy,e⟩:=List.mem_map.mp hx;subst e;unfold putAt;rw[14,h y hy,h y hy]
 ·intro x hx;rcases List.mem_append.mp hx with hx|hx
  ·exact h x hx
  ·rw[5,hx,ha]
theorem T7 {k:[80]} {v:Value}:[32,storedH xs k a v,xs.length+1]:=by
 unfold storedH;split
 ·simp
 ·simp
def q0(acc:[102])(rest:[102]):[102]:=rest.foldl (λa q=>storedH a q.1 q.2.1 q.2.2) acc
section
variable {prog:Program} {w:World} {A:Around} {E:[27]}
theorem yR {R:[691]} {S I l:Addr} {items:[93]} {res:Value}(hu:[265])(hh:[215])(hlI:l≠I)(NW:S≠I)(Yf:S≠l):∀(rest:[102]) (i:Nat) (acc:[102]) (ix:Int) (t:Tok) (s:Shared),items.size=i+rest.length->[24,acc.length+rest.length]->(∀x∈acc,x.2.1≠I)->(∀(j:Nat) (q:[80]×[493]),[2,rest,j,q]->∃(b:Addr),items[i+j]? =[4,b]/\b≠S/\b≠I/\IsTup s.heap b #[.ref q.2.1,q.2.2]/\[467].is s.heap q.1 q.2.1/\q.2.1≠S/\q.2.1≠I)->s.heap.IsListIter I l i->s.heap.IsList l items->s.heap.DictOfH [467] S acc->(∀h' tk,h'.DictOfH [467] S (q0 acc rest)->(∀b o,b≠S->b≠I->([105])->[3,[89]])->R (.ok (.ret res)) [220])->[379,.builtin "dict.update.loop" [49,[.ref S,.ref I,.int ix t,res]]]
 | [],i,acc,ix,t,s,hsz,UU,hac,ht,hit,hl,hm,hR=>by
  rw[9,[124,Ct],[150,pd]];show wpAny _ A.in1 ([340]>>=_) _ _ s;rw[1,wpAny_pyNext_list_end (A:=A.in1) hh hit hl (by first|exact Array.getElem?_eq_none (Nat.le_of_eq hsz)|(simp at hsz;rw[0])) λh' he=> ?_];show wpAny _ A.in1 (Builtin.Dict.addKeywords S []>>=_) _ _ _;rw[1,[697]];exact hR h' s.toks (Jl hm he NW hac) λb o _ hb e=>he b o hb e
 |q::rest,i,acc,ix,t,s,hsz,UU,hac,ht,hit,hl,hm,hR=>by
  obtain⟨b,hb,hbS,hbI,htup,hk,hkS,hkI⟩:=ht 0 q rfl;rw[List.length_cons] at hsz UU;rw[9,[124,Ct],[150,pd]];show wpAny _ A.in1 ([340]>>=_) _ _ s;rw[1,wpAny_pyNext_list_item (x:=[25]) hit hl [96] λh1 hit1 IG=> ?_];have ht1:IsTup h1 b #[.ref q.2.1,q.2.2]:=htup.extBut IG.extBut hbI;have IF:h1.IsList l items:=hl.extBut IG.extBut hlI;have Sr:h1.DictOfH [467] S acc:=Jl hm IG.extBut NW hac;have IE:[467].is h1 q.1 q.2.1:=wK hk λo z=>IG.extBut _ _ hkI z;obtain⟨o,ho,hc,n,hd⟩:=id ht1;show wpAny _ A.in1 (holding [[547]] _>>=_) _ _ _;rw[13,[854],wpAny_bind (wpAny_tryCatch ?_)];unfold Builtin.Dict.pairItems;rw[1,wpAny_typeOf (T:="tuple") ⟨o,ho,hc⟩ ?_];rw[if_pos (by first|decide|rfl|simp)];rw[1,wpAny_seqItems ho hd [51]];show wpAny _ A.in1 (holding [Value.ref q.2.1,q.2.2] (dictSet S (Value.ref q.2.1) q.2.2)) _ _ _;rw[1,wpAny_holding (wpAny_dictSet_heap (knd:=[467]) (k:=q.1) [662] IE Sr (λh2 Kl DF=> ?_) [2]),[124,pd,yR (items:=items) hu hh hlI NW Yf rest (i+1) (storedH acc q.1 q.2.1 q.2.2) (ix+1) 0 _ [27,items.size=i+1+rest.length] ?_ (PM hac hkI) (λj q' e=> ?_) ?_ ?_ Kl λh' tk Dx k=> ?_]]
  ·have z:=T7 (xs:=acc) (k:=q.1) (a:=q.2.1) (v:=q.2.2);omega
  ·obtain⟨b',xY,Yk,Yj,Y1,ko,YF,YE⟩:=ht (j+1) q' [246];refine⟨b',?_,Yk,Yj,(Y1.extBut IG.extBut Yj).extBut DF.extBut Yk,wK (wK ko λo z=>IG.extBut _ _ YE z) λo z=>DF.extBut _ _ YF z,YF,YE⟩;rw[0,[27,i+1+j=i+(j+1)],xY]
  rw[2,hit1.at λo' e=>DF.extBut I o' (Ne.symm NW) e,IF.extBut DF.extBut (Ne.symm Yf)]
  ·exact hR h' tk Dx λc oc h3 h4 e=>k c oc h3 h4 (DF.extBut c oc h3 (IG.extBut c oc h4 e))
theorem rZ {s:Shared} {l:Addr} {ol:Obj} {items:Array Value} {n:Nat} {prs:List (List Key×Addr×Value)} {Q:Value->Shared->Prop}(hu:A.in1.units+1<cLine)(hh:A.handled=none)(hl:s.heap.get? l=some ol)(hc:ol.cls= .type "list")(hd:ol.dict=none)
 (Dy:ol.data= .seq items n)(hsz:items.size=prs.length)(UU:prs.length<=sizeLine)
 (ht:∀(j:Nat) (q:List Key×Addr×Value),prs[j]? =some q->∃(b:Addr),items[j]? =some (.ref b)/\IsTup s.heap b #[.ref q.2.1,q.2.2]/\(tupleKind (bw prog w)).is s.heap q.1 q.2.1)
 (h:∀h' tk,h'.DictOfH (tupleKind (bw prog w)) s.heap.objs.size (q0 [] prs)->(∀b o,s.heap.get? b=some o->h'.get? b=some o)->Q (.ref s.heap.objs.size) {s with heap:=h',toks:=tk}):
 wpAny (model prog w) A (call (.type "dict") [.ref l]) Q E s:=by
 refine callType_codes (Q₁:=λobj dZ=>obj= .ref s.heap.objs.size/\dZ= {s with heap:=s.heap.push {cls:= .type "dict",data:= .dict #[]}}) PySem.F.kt_called_dict (PySem.F.kt_typeCall_dict_1 _) PySem.F.entry_dict_init (kt_code_dict_new _ ⟨rfl,rfl⟩) ?_;rintro obj dZ ⟨rfl,rfl⟩;have Sx:(s.heap.push {cls:= .type "dict",data:= .dict #[]}).DictOfH (tupleKind (bw prog w)) s.heap.objs.size []:=Heap.DictOfH.new s.heap;have k0:∀b o,s.heap.get? b=some o->(s.heap.push {cls:= .type "dict",data:= .dict #[]}).get? b=some o:=λb o e=>Heap.get?_push_of_some _ e;refine⟨Sx.typeIs,PySem.F.args_dict_init_2 _ _,?_⟩;unfold Builtin.«dict.__init__»;refine wpAny_bind ?_;unfold Builtin.Dict.selfAndRest;refine wpAny_bind (wpAny_notOrdered_dict Sx.typeIs ?_);show wpAny _ _ (pure (s.heap.objs.size,[Value.ref l])) _ _ _;refine wpAny_pure ?_;show wpAny _ _ (Builtin.Dict.updateFrom "dict.__init__" s.heap.objs.size (.ref l) [] .none) _ _ _;unfold Builtin.Dict.updateFrom;refine wpAny_bind (wpAny_typeOf (T:="list") ⟨ol,k0 _ _ hl,hc⟩ ?_);rw[if_pos (by first|decide|rfl|simp)];refine wpAny_bind (Hy (k0 _ _ hl) hc Dy hd hh λh1 tk1 IE=> ?_);rw[if_pos (show(none:Option Value).isNone=true from rfl)];refine wpAny_bind (wpAny_rule ?_);have IF:h1.IsList l items:=⟨ol,IE _ _ (k0 _ _ hl),hc,n,Dy⟩
 have R':s.heap.objs.size<h1.objs.size:=by
  have e:(s.heap.push {cls:= .type "dict",data:= .dict #[]}).get? s.heap.objs.size=some {cls:= .type "dict",data:= .dict #[]}:=Heap.get?_push_size _ rfl;exact Heap.lt_size (IE _ _ e)
 refine wpAny_bind (wpAny_pyIter_list IF ?_);have k2:∀b o,h1.get? b=some o->(h1.push {cls:= .type "list_iterator",data:= .fields #[.ref l,.int 0 0]}).get? b=some o:=λb o e=>Heap.get?_push_of_some _ e;have ez:l<s.heap.objs.size:=Heap.lt_size hl
 have key:=yR (prog:=prog) (w:=w) (A:=A.in1) (R:=wants (λr oq=>r= .none/\Q (.ref s.heap.objs.size) oq) E) (S:=s.heap.objs.size) (I:=h1.objs.size) (l:=l) (items:=items) (res:=Value.none) hu hh
  (Nat.ne_of_lt (Nat.lt_trans ez R')) (Nat.ne_of_lt R') (Nat.ne_of_gt ez) prs 0 [] 0 0
  {s with heap:=h1.push {cls:= .type "list_iterator",data:= .fields #[.ref l,.int 0 0]},toks:=tk1} (by rw[hsz,Nat.zero_add]) (by rw[List.length_nil,Nat.zero_add];exact UU) (λx hx=>by simp at hx)
  (λj q e=>by
   obtain⟨b,e1,e2,e3⟩:=ht j q e;have hb:b<s.heap.objs.size:=e2.lt;have Hh:q.2.1<s.heap.objs.size:=let⟨_,z⟩:=Ms e3;Heap.lt_size z;exact⟨b,by rw[Nat.zero_add];exact e1,Nat.ne_of_lt hb,Nat.ne_of_lt (Nat.lt_trans hb R'),e2.keeps λc o z=>k2 _ _ (IE _ _ (k0 _ _ z)),wK e3 λo z=>k2 _ _ (IE _ _ (k0 _ _ z)),Nat.ne_of_lt Hh,Nat.ne_of_lt (Nat.lt_trans Hh R')⟩)
  ⟨_,Heap.get?_push_size _ rfl,rfl,rfl⟩ (IF.at λo e=>k2 _ _ e) (by
    obtain⟨o,es,ep,z1,z2,z3,z4,z5,z6⟩:=Sx;exact⟨o,es,ep,k2 _ _ (IE _ _ z1),z2,z3,z4,λx hx=>by simp at hx,z6⟩)
  (λh' tk Dx k=>⟨rfl,h h' tk Dx λb o e=>k b o (Nat.ne_of_lt (Heap.lt_size e)) (Nat.ne_of_lt (Nat.lt_trans (Heap.lt_size e) R')) (k2 _ _ (IE _ _ (k0 _ _ e)))⟩)
 first
  |exact wpAny_pure ⟨plainId_quiet pd _,key⟩
  |exact wpAny_bind (wpAny_pure (wpAny_pure ⟨plainId_quiet pd _,key⟩))
end
def sC(cF more:[134]):[134]:=more.foldl (λacc kv=>putK acc kv.1 kv.2) cF
theorem KT.merge {H:Hp}:∀ {more:[134]} {prs:[102]} {cF:[134]} {xs:[102]},KT H more prs->([478])->KT H (sC cF more) (q0 xs prs)
 |_,_,_,_,.nil,r=>r
 |_,_,_,_,.cons (a:=p) (b:=q') ⟨e,hb,rv⟩ t,r=>by
  have r2:=r.put p.1 (b:=q'.2.1) (u:=q'.2.2) (y:=p.2) hb rv;unfold sC q0;rw[List.foldl_cons,List.foldl_cons,<-e];exact KT.merge t r2
section
variable {X:Cx}
theorem yB {pins:[17]} {σ:St} {H:Hp} {s:Shared}(I:[9]):∀ {ps:[14]} {cF:[134]},([1422])->∃prs:[102],KT H cF prs/\prs.length=ps.length/\∀(j:Nat) (q:[80]×[493]),[2,prs,j,q]->∃(b:Addr),[2,ps,j,b]/\IsTup s.heap b #[.ref q.2.1,q.2.2]/\(tupleKind (bw X.prog X.w)).is s.heap q.1 q.2.1
 |_,_,.nil=>[21,[],.nil,λj q e=>[410]]
 |_,_,.cons (a:=p) (b:=kv) h t=>by
  obtain⟨prs,r,hl,hp⟩:=yB I t;obtain⟨kb,h,Hh⟩:=h;obtain⟨bo,rv,ht,_⟩:=I.tuple h;obtain⟨u,y,ei,ru,ry⟩:=vals2 rv;subst ei;cases ru;refine⟨(kv.1,kb,y)::prs,.cons [76,Hh,ry] r,by rw[List.length_cons,List.length_cons,hl],λj q e=> ?_⟩;cases j with
   |zero=>
    have e':(kv.1,kb,y)=q:=[542];subst e';rw[0,p,rfl,ht,qp I.cH Hh]
   |succ j=>
    obtain⟨b,e1,e2,e3⟩:=hp j q [246];rw[0,b,[677],e2,e3]
theorem C4(Yq:[356])(hu:X.A.units+16<cLine):pT X (.type "dict") (λxs H Q=>∃(a:Addr) (ps:[14]) (cF:[134]),xs=[[10]]/\bP X.K H a [546]/\[1422]/\(sC [] cF).length<=sizeLine/\[286,upd H p (.dT (sC [] cF))]):=by
 intro pins s σ H xs us Q I r q;obtain⟨a,ps,cF,ex,hq,hp,hsz,q⟩:=q;subst ex;obtain⟨u,eu,rx⟩:=vals1 r;subst eu;cases rx;obtain⟨bo,rv,pl,hz⟩:=[208];have ei:=FV rv;subst ei;rw[List.length_map] at hz;obtain⟨prs,rel,hl,YS⟩:=yB I hp;obtain⟨o,n,ho,hc,hd,Dy⟩:=pl;refine rZ (prs:=prs) [27,X.A.units+1+1<cLine] (I.ok.hd Yq) ho hc hd Dy (by simp[hl]) (by rw[hl];exact hz) (λj q' e=> ?_) λh' tk Dx k=> ?_
 ·obtain⟨b,e1,e2,e3⟩:=YS j q' e;rw[0,b,(by simp[e1]),e2,e3]
 ·have hm:[108,s.heap.objs.size]:=beq_eq_false_iff_ne.mpr (Nat.ne_of_gt I.big);have hf:=[1175];refine[3,[130],[374,.dT (sC [] cF)],I.laid (t':=tk) k [8] ?_,q _ hf];obtain⟨od,es,ep,z1,z2,z3,z4,_,z6⟩:=Dx;exact⟨hsz,hm,q0 [] prs,(KT.merge rel .nil).keeps λb ys e=>by rw[0,aj (aq e hf),e],od,es,ep,z1,z2,z3,z4,z6⟩
end
end
end L2
end
section
namespace L2
open PySem PySem.Spec PyProof.Rows PySem.W
section
def Aq:([121])->Int->[121]
 |none,n=>some n
 |some m,n=>[1043]
def EX(ns:[26]):[121]:=ns.foldl Aq none
def IY(t u:PySem.Tok):([121])->[93]
 |none=> #[]
 |some m=> #[.int m t,.int m u]
theorem uR(l:[26])(n:Int):EX (l++[n])=Aq (EX l) n:=by
 unfold EX;rw[85]
theorem OD(a v:Value):argsOk "max" ⟨[a],[(Str.ofString "default",v)]⟩:=by
 unfold argsOk;kernel_rfl
section
variable {prog:Program} {w:World} {A:Around} {E:[27]} {s:Shared} {l I S:Addr} {R:[691]} {items:[93]} {ns:[26]} {d:Value}
theorem OF(hh:[215])(hlI:l≠I)(NW:S≠I)(Yf:S≠l)(hv:Vals [429] items.toList) (hR:∀h' tk v,(match EX ns with|none=>v=d|some m=>∃t,v=[109,m])->[312,[3,[89]]]->R (.ok (.ret v)) [220]):∀(r i:Nat) (h:Heap) (tk:Nat) (t u:PySem.Tok) (c:Nat),ns.length -i=r->i<=ns.length->[312,[363]]->h.IsListIter I l i->h.IsList l items->h.get? S=some (seqObj "list" (IY t u (EX (ns.take i))) c)->codeAny [158] A (.builtin "max.loop" ⟨[.ref I,.none,.ref S],[825]⟩) R {s with heap:=h,toks:=tk}:=by
 have vd:(toString "max"++toString ".loop":String)="max.loop":=[3];have W:=Walks.list (prog:=prog) (w:=w) (A:=A.in1) hh I l hlI items;have hsz:items.size=ns.length:=by
  have:=hv.length;simp at this;exact this.symm
 intro r;induction r with
  |zero=>
   intro i h tk t u c hr hi hk hit hl hS;have qj:i=ns.length:=[2];subst qj;rw[List.take_length] at hS;rw[9,[124,PySem.F.entry_max_loop],[150,PySem.F.plain_max_loop]];show wpAny _ A.in1 (seqItems? (.ref S)>>=_) _ _ _;rw[1,[1233]];show wpAny _ A.in1 (tryCatch [340] _>>=_) _ _ _;rw[1,wpAny_tryCatch (W.done _ _ _ ⟨by rw[hsz];exact hit,hl⟩ λh' M5 ko=> ?_)];have uv:=[1355];have kk:[312,[3,[89]]]:=λb o n1 n2 e=>ko b o (by simpa using n1) (hk b o n1 n2 e);cases hb:EX ns with
    |none=>
     rw[hb] at uv hR;rw[1,wpAny_rule [51]];exact hR h' M5 d rfl kk
    |some m=>
     rw[hb] at uv hR;have s1:=[398,(#[]:[93])];show wpAny _ A.in1 (updateSeq S (λ_=> #[])>>=_) _ _ _;rw[1,[78],wpAny_updateSeq (hz:=(by show[24,(2:Nat)];decide)) uv rfl (wpAny_bind (wpAny_letGo [51]))];exact hR _ M5 _ [53] [1064]
  |succ r ih=>
   intro i h tk t u c hr hi hk hit hl hS;have ez:i<ns.length:=[2];rw[9,[124,PySem.F.entry_max_loop],[150,PySem.F.plain_max_loop]];show wpAny _ A.in1 (seqItems? (.ref S)>>=_) _ _ _;rw[1,[1233]];show wpAny _ A.in1 (tryCatch [340] _>>=_) _ _ _;rw[1,wpAny_tryCatch (W.item i _ _ _ (by rw[hsz];exact ez) ⟨hit,hl⟩ λv h' M5 hP vh ko=> ?_)];obtain⟨n,hn⟩:∃n,[3,ns,n]:=[76,ez];obtain⟨v',Y4,tv,rfl⟩:∃v',[3,items.toList,v']/\∃tv,v'=[323]:=by
    obtain⟨u',e1,e2⟩:=hv.get (i:=i) (x:=V.int n) (by rw[List.getElem?_map,hn];rfl);rw[0,u',e1,e2]
   have ev:v=[323]:=by
    have:[3,items,v]:=hP;rw[<-Array.getElem?_toList,Y4] at this;exact[173,this]
   subst ev;have uv:=[1355];have kk:[312,[3,[89]]]:=λb o n1 n2 e=>ko b o (by simpa using n1) (hk b o n1 n2 e);have et:ns.take (i+1)=ns.take i++[n]:=by
    rw[List.take_add_one,hn];rfl
   rw[1,[51]];have put:∀(arr:[93]) (t' u':PySem.Tok),arr=[1326]->∃c',(h'.update S (Obj.mapSeq λ_=>arr)).get? S=some (seqObj "list" [1326] c'):=λarr t' u' e=>[34,(by rw[<-e];exact get?_update_seq uv λ_=>arr)];cases hb:EX (ns.take i) with
    |none=>
     rw[hb] at uv;have s1:=[398,[485]];obtain⟨c',nY⟩:=put [485] tv tv (by rw[et,uR,hb];rfl);show wpAny _ A.in1 (updateSeq S (λ_=>[485])>>=_) _ _ _;rw[1,wpAny_updateSeq (hz:=(by show[24,(0:Nat)];decide)) uv rfl ?_];rw[vd];rw[15,[366,ih (i+1) _ _ tv tv c' [2] [2] [1064] [1322] [1323] nY]]
    |some m=>
     rw[hb] at uv;show wpAny _ A.in1 (tryCatch (holding [[323],[323]] (richCompare .Gt [323] (Value.int m u)>>=_)) _>>=_) _ _ _;rw[13,wpAny_tryCatch [359,CmpOf.ints_gt (prog:=prog) (w:=w) (A:=A.in1) (P:=λi v=>∃t,v=Value.int [4,i,0,n,m] t) (λi=>[4,i,0,n,m]) (λi v h=>h) 0 1 _ _ _ _ _ [41,tv] [41,u] ?_],wpAny_bind (wpAny_holding [544])];rw[1,wpAny_letGo [51]];split
     ·rename_i hd;have hg:n>m:=by simpa using hd
      have s1:=[398,[485]];obtain⟨c',nY⟩:=put [485] tv tv (by rw[et,uR,hb];show _=IY tv tv [1043];rw[if_pos hg];rfl);show wpAny _ A.in1 (updateSeq S (λ_=>[485])>>=_) _ _ _;rw[1,wpAny_updateSeq (hz:=(by show[24,(2:Nat)];decide)) uv rfl (wpAny_bind (wpAny_letGo ?_))];rw[vd];rw[15,[366,ih (i+1) _ _ tv tv c' [2] [2] [1064] [1322] [1323] nY]]
     ·rename_i hd;have hg:¬n>m:=by simpa using hd
      rw[1,wpAny_letGo ?_];rw[vd];rw[15,[366,ih (i+1) _ _ t u c [2] [2] kk vh.1 vh.2 (by rw[et,uR,hb];show _=some (seqObj "list" (IY t u [1043]) c);rw[0,if_neg hg,uv])]]
theorem OE {Q:[27]}(hh:[215])(hl:s.heap.IsList l items)(hv:Vals [429] items.toList) (hQ:∀h' tk v,(match EX ns with|none=>v=d|some m=>∃t,v=[109,m])->([463])->Q v [220]):[21,call (.builtin "max") [[40]] [825]]:=by
 have vd:(toString "max"++toString ".loop":String)="max.loop":=[3];obtain⟨ol,hol,_⟩:=id hl;have hll:[123,l]:=Heap.lt_size hol;refine kmk_tree PySem.F.kind_max PySem.F.plain_max PySem.F.entry_max (OD _ _) ?_;show wpAny _ A.in1 ([1356]>>=_) _ _ s;rw[1,wpAny_bind (wpAny_of_eq [11,[1356],pure [none,some d],rfl] ?_),wpAny_bind [51],wpAny_bind [356,hl],wpAny_bind (wpAny_newList ?_ [33])];rw[vd];have hS:[363,[1357].objs.size]:=size_push' ..;have k1:∀b o,([105])->[3,([1357].push (seqObj "list" #[] 0)).get? b]:=λb o e=>[276,[42,e]];rw[1,wpAny_pure [30,plainId_quiet PySem.F.plain_max_loop _],OF (s:=s) (ns:=ns) (items:=items) hh (Nat.ne_of_lt hll) (by rw[hS];exact Nat.ne_of_gt [654]) (by rw[hS];exact Nat.ne_of_gt (Nat.lt_succ_of_lt hll)) hv (λh' tk v Y4 hk=> ?_) ns.length 0 _ _ 0 0 0 [2] [33] (λb o _ _ e=>k1 b o e) [21,_,[276,[108]],rfl] (hl.at λo e=>k1 _ _ e) [108]];exact hQ h' tk v Y4 λb o e=>hk b o (Nat.ne_of_lt [72]) (by rw[hS];exact Nat.ne_of_lt (Nat.lt_succ_of_lt [72])) e
end
end
section
def tMaxD(K:PySem.W.Frag)(t:TA)(td:TE):TE:=[233,td σ H1 λd H2=>∃(a:Addr) (ns:[26]),vs=[[104]]/\bP K H2 a [429]/\Q (match EX ns with|none=>d|some m=>V.int m) H2]
section
variable {X:Cx} {p pos Hv:Pos} {e d:PySem.Expr} {t:TA} {td:TE}
theorem O3(hc:X.calm=true)(hg:Gl X "max")(hm:X.mg "max"=none)(ha:PA X [e] t)(hd:PE X d td)
 (he:backTo pos (starEach [e] X.env)=(false,eval e X.env)::backTo pos (starEach [] X.env):=by rfl)
 (oK:(backTo pos (starEach [e] X.env)).any (·.1)=false:=by rfl)
 (eF:(backToKw pos (keywordEach [⟨some "default",d,Hv⟩] X.env)).all (·.1.isSome)=true:=by rfl)
 (hkw:(backToKw pos (keywordEach [⟨some "default",d,Hv⟩] X.env)).any (·.1.isNone)=false:=by rfl)(YG:(backToKw pos (keywordEach [⟨some "default",d,Hv⟩] X.env)).filterMap (·.1)=[Str.ofString "default"]:=by rfl):
 PE X (.Call (.Name "max" p) [e] [⟨some "default",d,Hv⟩] pos) (tMaxD X.K t td):=by
 intro pins s σ H Q I h;refine wpAny_Call_Name_kw (vD I hg hm PyProof.Rows.boot_max ?_ (by decide) (by decide));refine callWith_kw (dI (ha pos pins s σ H _ I h) λus s1 ⟨vs,H1,I1,r1,q1⟩=> ?_) he oK eF hkw;show wpAny _ _ (evalAll ((do let v <-eval d X.env;standAt pos;pure v)::[])) _ _ _;refine wpAny_evalAll_cons (wpAny_bind (dI (hd pins s1 σ H1 _ I1 q1) λwz s2 ⟨z,H2,I2,rz,a,ns,ev,hs,q⟩=>wpAny_bind (wpAny_standAt (wpAny_pure (wpAny_evalAll_nil ?_)))));subst ev;obtain⟨ua,rfl,ra⟩:=vals1 r1
 cases ra
 obtain⟨bo,rv,hl,_⟩:=I2.list hs;rw[YG];refine OE (I2.ok.hd hc) hl.isList (by simpa using rv) λh' tk v hv hk=> ?_;have I3:=I2.kept (t':=tk) hk
 cases hb:EX ns with
 |none=>rw[hb] at hv q;subst hv;exact⟨z,H2,I3,rz,q⟩
 |some m=>rw[hb] at hv q;obtain⟨t,rfl⟩:=hv;exact⟨.int m,H2,I3,⟨t,rfl⟩,q⟩
end
end
end L2
end
section
namespace L2
open PySem PySem.Spec PyProof.Rows
section
section
variable {P:Program} {w:World}
theorem Mh {fs:[14]} {H1 H':Hp} {h1 h h':Heap} {Fp:[14]}(un:Un fs [] H1 H' h1 h)(cH:lY P w H' h)(AS:∀b∈Fp,b∈fs\/([425]=none/\[337]))(nZ:∀b∈fs,[337]) (st:(PySem.W.hideAll h Fp).StaysIn h')(slot:∀b o,b∈fs->([363])->[968]):Un fs [] H1 H' h1 h'/\lY P w H' h':=by
 have keep:∀b o,([363])->b∉Fp->[3,[89]]:=λb o q n=>st b o [121,q,n];have old:∀b o,[3,[425]]->b∉fs->b∉Fp:=λb o q n m=>by
  rcases AS b m with z|z
  ·exact n z
  ·rw[z.1] at q;cases q
 have Ag:∀b,H' b≠none->b∉Fp:=λb n m=>by
  rcases AS b m with z|z;rw[2,n (nZ b z),n z.2]
 refine[30,⟨?_,?_,un.free,?_,un.xF,un.u7,un.xE⟩]
 ·intro b o q n hb hx;exact keep b o (un.keep b o q n hb hx) [785]
 ·intro b o q n hb hx;obtain⟨sl,e1⟩:=un.slot b o q n hb hx;obtain⟨Z4,e2⟩:=slot b _ hb e1;rw[3,Z4,e2]
 ·intro b o q hx;obtain⟨o',e1⟩:=un.there b o q hx;by_cases hb:b∈fs
  ·obtain⟨sl,e2⟩:=slot b o' hb e1;rw[4,e2]
  ·exact⟨o',keep b o' e1 [785]⟩
 ·intro b o q;refine(cH b o q).Cf [1420] (λ_ z=>z) [203];rcases hc with rfl|hc
  ·rw[q];exact[222]
  ·rw[hc];exact[222]
end
abbrev Cx.held(X:Cx)(e:Value):Cx:={X with A:=X.A.mark (some e),calm:=false,xe:=[346]}
theorem Inv.held {X:Cx} {pins:[17]} {σ:St} {H:Hp} {s:Shared}(I:[9])(e:Value):[249,X.held e]:=[116,⟨I.ok.mod,I.ok.kind,I.ok.glob,I.ok.blt,I.ok.above,I.ok.inj,I.ok.has,I.ok.UA,[222],I.ok.frames,I.ok.gI,I.ok.VE,I.ok.bs,I.ok.I0,I.ok.HB,I.ok.G1,I.ok.qR,I.ok.NM⟩,I.pin]
theorem Inv.Ac {X:Cx} {pins:[17]} {σ:St} {H:Hp} {s:Shared} {e:Value}(ok:X.Ok)(I:[249,X.held e]):[9]:=[116,ok,I.pin]
def tTryC(i:Nat)(sp:Sp)(ta:TA)(ts:TS):TS:=λD σ H=>ta σ H λvs H1=>sp (vs++[]) H1 (λv H2=>D.nx [729] H2) (λ_ _ H2=>ts D σ H2)
section
variable {X:Cx} {C f:Addr} {k:Nat} {fd:FuncData} {ps:[19]} {sp:Sp} {bm:[6]} {newId aP B:String}
theorem O9 {i:Nat} {y fx x:Str} {py pf np ky apos hpos EG:Pos} {e:Expr} {es:[115]} {b0:Stmt} {QX:[207]} {ta:TA} {ts:TS} {L:Addr}(Y0:X.stack=X.env::X.outer)(Sl:X.env.frame=some L) (O:OwnCls x C bm newId X.mg X.base)(FB:[1354])(hgx:[192])(Dz:[117]) (hN:X.N.Nodup)(hi:[3,X.N,y])(hy:Loc X.env.scope y)(hf:X.fn y=true\/[850]=some .local) (F:aC X.prog X.w X.K X.mg X.base (cQ X.prog X.w C) k f fd ps sp)(hr:ij k X.A)(hg:Gl X fx)(hm:X.mg fx=some [110])(hk:[85,X.K,[110]])(hb:Binds X.K fd ps []) (ha:PA X.Ta (e::es) ta)(hsu:∀a:Addr,Af (X.held [10]) (b0::QX) ts) (hs:swapsWith [1268] (some (.Name y py)) apos.line X.env=pure false)(xn:[24,fx,("__debug__":Str)])(he:[224])(bQ:[1138]):PS X (.Try [.Assign [.Name y py] [1268] apos] [.ExceptHandler (some (.Name x np)) none (b0::QX) hpos] [] [] EG) (tTryC i sp ta ts):=by
 intro pins s σ H D I h;rw[1,wpAny_Try_except ?_,wpAny_execs_cons ?_,wpAny_Assign_Name [489] hs,[372,wpAny_mono (ha ky pins s σ H _ (I.wX _) h) (λus s1 ⟨vs,H1,I1w,r,q⟩=>[30,I1w.pP]) λ_ _ z=>False.elim z]];have I1:[17,H1,s1]:=I1w.nQ;have r2:Vals (vs++[]) (us++[]):=r.append .nil;have hl:[198,us++[]]:=by
  rw[<-r2.length];exact[251,q]
 rw[34,codeAny_mono (F.run X.A X.stack s1 H1 [49,us] (us++[]) (vs++[]) _ _ hr I1.Jq (hb s1 us I1.pP hl) r2 q) λr s' hq=> ?_];cases r with
  |ok fl=>cases fl with
   |ret u=>
    obtain⟨v,H2,I2,rv,q2⟩:=I1.after hq;rw[4,rJ I2 hN hi hy rv (λs3 I3=> ?_) hf,wpAny_execs_nil (wpAny_execs_nil ⟨_,H2,I3,q2⟩)]
   |next=>rw[8,hq]
   |brk=>rw[8,hq]
   |cont=>rw[8,hq]
  |error ex=>
   obtain⟨a,H',rfl,hos,hbr,un,cH,⟨oe,Q4,a0,T,oT,ts',hea,AQ,hd,h0,U2,hH,h1,MT,hTe,hHT,hT,hdT,h3⟩,qs⟩:=hq;have J:=I1.EY hos un cH hbr [750];have vg:=J.stack;have nZ:=J.uE;have N1:X.A.frames=some (X.env::X.outer):=by
    rw[<-Y0];exact J.ok.frames
   have qj:∀b∈[240],b∈[240]++[a,T]:=λb m=>[95,m];have AS:∀b∈[240]++[a,T],b∈[240]\/(s1.heap.get? b=none/\[337]):=λb m=>by
    rcases List.mem_append.mp m with z|z
    ·exact[150]
    ·rcases List.mem_cons.mp z with rfl|z
     ·exact[87,U2,hH]
     ·rw[5,z,[87,MT,hHT]]
   have fly:Heap.FlyingW [1176] (X.env::X.outer) a [87] a0 s'.heap:=by
    refine⟨[994],[618],?_,⟨oe,Q4,T,oT,ts',hea,⟨AQ,h0⟩,hd,h1,[618],hTe,hT,hdT,h3⟩⟩;rw[<-Y0];exact[1051]
   have back:∀(h':Heap),[1176].StaysIn h'->s'.heap.UpToSlots h'->[17,H',{s' with heap:=h'}]:=λh' st sm=>by
    obtain⟨un',N6⟩:=Mh (P:=X.prog) (w:=X.w) un cH AS nZ st λb o m q=>by
     obtain⟨_,o',qL,MW⟩:=vg.mem m;rw[q] at qL;cases qL;exact sm b o q MW
    exact I1.EY (s':={s' with heap:=h'}) hos un' N6 hbr [750]
   rw[1,wpAny_looks_onW N1 Sl fly λh4 Yt sm4=> ?_,wpAny_landsW Yt λh5 RM sm5=> ?_];have J5:=back h5 RM.1 (sm4.trans sm5);refine wpAny_handleBy_cons (codeAny_handlers_test (kD (J5.held [10]) hgx O.bound ?_ Dz)) (by intro q;cases q);obtain⟨tl,Nn,nm,qn,bs,hdct,sn,sub,ab,col,dd,k0,k1,k2,k3,k5,mN,hC,hNs,YM,TL⟩:=(O.keeps J5.bk).obj;obtain⟨ob,hob,hobc⟩:=RM.there;rw[1,wpAny_excMatches_sub_self hC hob hobc (TL.hasType FB.hasBase) (codeAny_handlers_suite ?_),lands_againW RM λh6 fly6 sm6=> ?_];have J6:=back h6 fly6.1 ((sm4.trans sm5).trans sm6);refine wpAny_mono (hsu a pins _ σ H' D (J6.held [10]) qs) (λfl s7 q7=> ?_) λ_ _ z=>z.elim;cases fl with
    |next=>rw[102]
    |ret u=>
     obtain⟨v,cR,mV,I',rv,q'⟩:=q7;exact⟨v,cR,mV,I'.Ac I.ok,rv,q'⟩
    |brk=>rw[102]
    |cont=>rw[102]
end
end
section
variable {A:Around} {P:Program} {w:World} {K:PySem.W.Frag} {mg:[16]} {base:Heap} {N:[19]} {qual:Str} {scope:Scope}
structure nU(k:Nat)(A:Around):Prop where
 dp:A.depth+k+5<recursionLimit
 un:A.units+16*k+200<cLine
theorem ij.h {k:Nat}(r:ij k A)(e:[174]):nU k (A.mark e):=⟨r.dp,r.un⟩
theorem nU.deeper {k:Nat} {A:Around}(r:nU (k+1) A)(env:Env):nU k (A.deeper env):=⟨by have:=r.dp;show A.depth+1+k+5<_;omega,by have:=r.un;show A.units+3+16*k+200<_;omega⟩
theorem nU.make {k:Nat}(r:nU (k+1) A)(C:Addr)(us:[6])(kw:[413]):nU k [625]:=⟨by have:=r.dp;rw[vL];omega,by have:=r.un;rw[vN];omega⟩
theorem nU.depth {k:Nat} {A:Around}(r:nU k A):A.depth<recursionLimit:=by rw[0,r.dp]
structure EN(P:Program)(w:World)(K:PySem.W.Frag)(mg:Str->Option Value)(base:Heap)(k:Nat)(f:Addr)(fd:FuncData)(ps:List Str)(sp:Sp):Prop where
 len:∀vs H Q E,sp vs H Q E->vs.length=ps.length
 run:∀(A:Around) (outer:List Env) (s:Shared) (H:Hp) (args:Args) (us:List Value) (vs:List V) (Q:VK) (E:XK),nU k A->y0 P w K mg base A outer s H->BindsTo s fd args (ps.zip us)->Vals vs us->sp vs H Q E->
  codeAny (model P w) A (.call (.ref f) args) (CR fi outer P w H s Q E) s
def AB(P:Program)(w:World)(K:PySem.W.Frag)(mg:[16])(base:Heap)(N:[19])(qual:Str)(scope:Scope)(f:Addr)(cd:Value)(A:Around)(outer:[123])(s:Shared)(H:Hp)(E:XK):Cx where
 prog:=P
 w:=w
 K:=K
 mg:=mg
 base:=base
 A:=A.deeper [278]
 N:=N
 xB:=s
 Uv:=H
 env:=[278]
 outer:=outer
 stack:=[1133]
 ex:=[]
 calm:=false
 fn:=λ_=>true
 pn:=[]
 xe:=[346]
theorem DH {ps:[19]} {f:Addr} {cd:Value} {outer:[123]} {s s1:Shared} {H:Hp} {E:XK} {us:[6]} {vs:[13]} (S:[768])(e0:[1068])(hl:vs.length=ps.length)(r:[297]) (x:[1447]):[323,[252,cd]]:=by
 have bQ:ps.length<=N.length:=by
  have:=[358,S.pre];rw[81]
 obtain⟨h1,tk,rfl,hk⟩:=x.done;have M0:∀b:Addr,b∉[252,cd].ex:=[1304];refine[512,⟨e0.mod,S.kind,rfl,rfl,[8],λy z c h1 h2=> ?_,λy hy=> ?_,λy c _ h=> ?_,[222],[1106],.inr [18,rfl],[774],e0.bs,e0.I0,λb _ _=>M0 b,[774],e0.qR,e0.NM⟩]
 ·exact[1263]
 ·have hy:[107,[204],[204]]:=hy;rcases hy with hy|hy;rw[2,qO hy,absurd rfl [1171]]
 ·exact[784]
 ·have hi:[692]:=by
   unfold start at h2;by_cases hi:[692]
   ·exact hi
   ·rw[125]
  have ha:[3,vs,v]:=by
   unfold start at h2;rw[[1145],List.getElem?_map] at h2;cases e:vs[i]? with
    |none=>rw[64]
    |some a=>
     rw[64];rfl
  obtain⟨u,hu,rv⟩:=r.get ha;have hp:[3,ps,y]:=by
   rw[<-S.pre,List.getElem?_take_of_lt [2]];exact h1
  have Zl:ps.Nodup:=by
   rw[<-S.pre];exact S.nd.sublist [942]
  rw[6,u,rv];rcases S.par y (List.mem_of_getElem? hp) with k|k
  ·exact[31,k,rY Zl hp hu k]
  ·obtain⟨c,e⟩:=qO (n:=[64]) k;refine[6,.inl k,c,e,?_];have q:=x.cell y c e;rw[rX Zl hp hu (by show[204]≠_;rw[k];decide)] at q;exact q
 ·exact e0.cH.fresh [784]
 ·rw[123]
theorem RN {k:Nat} {f:Addr} {name:Str} {params:Arguments} {body:[207]} {dV kV doc pm bU ct oc:Value} {an od:[241]} {vY:[565]} {ps:[19]} {sp:Sp}(lk:[214,[804]])(xZ:[613])(S:[768]) (len:[628]) (qT:[506,nU k (A.deeper [1188])->([329])->∃t,Af [252,bU] body t/\[200,[331]]]):EN P w K mg base (k+1) f [804] ps sp:=by
 rw[7,len,[1107]];have hl:=len _ _ _ _ vf;have KX:[348]:=[1150];have lim:s.heap.NoLimit:=[1151];have Kh:[1417]:=λ⟨n,v⟩ hy=>by
  rcases S.par n (List.of_mem_zip hy).1 with q|q;rw[2,.inl q,.inr ⟨q,[1353]⟩]
 rw[1,[1461],[1264]];subst he;rw[7,[1108],codeAny_func ?_];obtain⟨t,ht,hq⟩:=[1471];have I:[323,[252,bU]]:=DH S e0 hl r x;refine wpAny_mono (ht [] s1 [331] H _ I hq) (λfl s' hs=> ?_) λe s' hs=>False.elim hs;have fin:∀ {cR:St} {H':Hp} {v:V} {u:Value},Inv [252,bU] [] cR H' s'->([116])->Q v H'->[1025]:=λ {cR H' v u} J rv q=>[1462];cases fl with
  |ret u=>
   obtain⟨v,cR,H',J,rv,q⟩:=hs;exact fin J rv q
  |next=>
   obtain⟨cR,H',J,q⟩:=hs;exact[477,q]
  |brk=>
   obtain⟨_,_,_,q⟩:=hs;rw[8,q]
  |cont=>
   obtain⟨_,_,_,q⟩:=hs;rw[8,q]
section
variable {X:Cx} {k:Nat} {f C:Addr} {fd:FuncData} {ps:[19]} {sp:Sp} {qJ:[13]} {ds:[6]} {E:XK} {x:Str} {p pos:Pos} {e:Expr} {es:[115]} {t:TA}
theorem Lu(M:[637])(F:EN X.prog X.w X.K X.mg X.base k f fd ps sp)(hr:nU (k+1) X.A)(hg:[192])(hm:[732])(hb:[380])(hd:[383]) (ha:[316])(xn:[117]:=by decide)(he:[224]:=by rfl)(bQ:[470]:=by rfl):[204,Ga C sp qJ E t]:=by
 intro pins s σ H Q I h;rw[1,[489],[1211]];have hq:=q [168] s1.heap.objs.size (I1.cH.fresh (Nat.le_succ _)) [441] [592];have I2:=Inv.made (C:=C) I1;have r2:Vals (V.ref [168]::(vs++qJ)) (Value.ref [168]::(us++ds)):=[113,r.append hd];have hl:[198,Value.ref [168]::us++ds]:=by
  have e:=r2.length;rw[[251,hq]] at e;exact e.symm
 rw[34,[150,I1.pP,F.run _ X.stack _ _ [49,Value.ref [168]::us] (Value.ref [168]::(us++ds)) _ _ E (hr.make C us []) (I2.Jq.make C us []) (hb _ (Value.ref [168]::us) I2.pP hl) r2 hq]];cases r with
  |error e=>rw[8,xp]
  |ok fl=>cases fl with
   |ret u=>
    obtain⟨v,H',I3,rv,ev,q3⟩:=I2.after xp;subst ev;rw[3,rv,[3,V.ref [168],H',I3,q3]]
   |next=>rw[8,xp]
   |brk=>rw[8,xp]
   |cont=>rw[8,xp]
end
def Ub(C:Addr)(sp:Sp)(gV:[977])(E:XK)(t tk:TA):TE:=[233,tk σ H1 λzs H2=>∀x dx,H2 x=none->H2 dx=none->dx≠x->sp (gV ([54]::vs) zs) (upd (upd H2 dx (.own x)) x [104,C]) (λv H3=>v= .cg/\Q [54] H3) E]
section
variable {X:Cx} {CX:CD} {k:Nat} {f C:Addr} {fd:FuncData} {ps ks:[19]} {sp:Sp} {E:XK} {x:Str} {p pos:Pos} {e:Expr} {es:[115]} {KR:[545]} {t tk:TA} {g:([6])->([6])->[6]} {gV:[977]}
theorem cD(M:[637])(F:[393])(hr:ij (k+1) X.A)(hg:[192])(hm:[732])(hb:CT X.K fd ps ks g gV)(hx:[387]) (ha:[316])(hkw:PK X KR tk)(eF:[765].all (·.1.isSome)=true:=by rfl)(YG:[765].filterMap [44]=ks:=by rfl) (xn:[117]:=by decide)(he:[224]:=by rfl) (bQ:[8,((backTo pos [807]).any [44]||[765].any (·.1.isNone))]:=by rfl):PE X (.Call (.Name x p) (e::es) KR pos) (Ub C sp gV E t tk):=by
 intro pins s σ H Q I h;rw[1,[489],PySem.W.callWith_KW (h₀:=X.base) I.ok.mod.MY M.kp eF [345,?_] bQ he];refine dI (hkw pos pins s1 σ H1 _ I1 q) λws s2 ⟨zs,H2,I2,rz,q2⟩=>[30,I2.pP];rw[YG];have hq:=q2 [292] s2.heap.objs.size (I2.cH.fresh (Nat.le_succ _)) (I2.cH.fresh [8]) [592];have I3:=Inv.made (C:=C) I2;have r2:Vals (gV (V.ref [292]::vs) zs) (g (Value.ref [292]::us) ws):=hb.rel (.cons rfl r) rz;have hl:[198,g (Value.ref [292]::us) ws]:=by
  rw[<-r2.length];exact[251,hq]
 rw[34,[150,I2.pP,F.run _ X.stack _ _ ⟨Value.ref [292]::us,ks.zip ws⟩ (g (Value.ref [292]::us) ws) _ _ E (hr.make C us (ks.zip ws)) (I3.Jq.make C us (ks.zip ws)) (hb.to _ (Value.ref [292]::us) ws I3.pP hl) r2 hq]];cases r with
  |error e=>exact hx pins σ _ _ e s' I3 xp
  |ok fl=>cases fl with
   |ret u=>
    obtain⟨v,H',I4,rv,ev,q3⟩:=I3.after xp;subst ev;rw[3,rv,[3,V.ref [292],H',I4,q3]]
   |next=>rw[8,xp]
   |brk=>rw[8,xp]
   |cont=>rw[8,xp]
end
end
end L2
end
section
namespace PySem
namespace AutoSeq1
open PySem
theorem zj(l:Addr)(items:[93])(n:Nat)(b:Addr)(vo:[93])(n2:Nat)(d2:[241])(sl2:[565])(U2:¬(!items.isEmpty&&Builtin.List.listTooLong (items.size+vo.size))=true)(IG:[24,items.size])(DF:items.size+vo.size<=sizeLine+1):Meets (Builtin.«list.extend» [49,[12,l,[25]]]) (λ_ R s=>s.heap.get? l=some {cls:=[448],dict:=none,data:= .seq items n,slots:= #[]}/\[272]=some {cls:=[219],dict:=d2,data:= .seq vo n2,slots:=sl2}/\R (.ok (.ret Value.none)) [153,Obj.mapSeq λx=>x++vo,s.toks]):= .of_wp λprog w A R s h=>by
 obtain⟨hp,g,d,tk,os⟩:=s;obtain⟨hl,hb,h⟩:=h;have f1:=idx_int;have f2:=sub_tuple_tuple;have f3:=sub_list_list;have f4:=sub_tuple_list;have f5:=sub_list_tuple;have hz':(items++vo).size<=sizeLine+1:=by
  rw[Array.size_append];exact DF
 wp_walk using(wpAny_updateSeq hl rfl (hz:=IG) (_hz':=hz')),wpAny_loadPart' hl,wpAny_loadPart' hb;rw[6,h]
end AutoSeq1
end PySem
namespace L2
open PySem PySem.Spec PyProof.Rows PySem.W
variable {X:Cx}
def LC(K:PySem.W.Frag):[264]:=λx vs H Q=>∃l b xs zs,x=[40]/\vs=[[25]]/\[5,H l,[60],kT K H b zs,xs.length+zs.length<=sizeLine/\Q .cg [8,H,l,xs++zs]]
theorem DT:MtM X "list.extend" (LC X.K):=by
 intro pins s σ H x vs v us Q I rx rv h;obtain⟨l,b,xs,zs,rfl,rfl,hH,hB,hz,q⟩:=h;rw[82];cases ru;rw[53];obtain⟨tZ,r2,⟨o,e2,c2,n2,d2⟩,z2⟩:=I.tuple hB;have Hi:=r2.length;have hsz:[1210]:=by rw[83]
 have Kk:¬(!bo.toArray.isEmpty&&[1232])=true:=by
  rw[Bx hsz,Bool.and_false];rw[63]
 obtain⟨oc,od,odt,vY⟩:=o;cases c2;cases d2;rw[1,call_meets F.slot_list_extend [36,e] F.entry_list_extend [1173] (AutoSeq1.zj l bo.toArray n b tZ.toArray n2 od vY Kk (by rw[45]) [2]) [21,e,e2],[3,.cg,_,I.Ou (its':=bo++tZ) hH e [4] (r.append r2) ?_,q]];rw[84]
end L2
end
section
namespace L2
open PySem PySem.Spec PyProof.Rows
open PySem.W (WData Codec OpenSpec Well WellAll ReadsW ReadsAllW)
section
variable {a:Addr} {xs:[13]} {ds:[349]} {us vs:[6]} {u:HO} {CX:CD} {ps loose:[19]} {r:OpenSpec} {XP:([16])->Heap->Prop} {YP:[4,World,Heap]} {d:DefRec}
mutual
inductive Dw(K:PySem.W.Frag)(H:Hp):V->WData->Prop
 |cg:Dw K H .cg .none
 |bl (b:Bool):Dw K H (.bl b) (.bool b)
 |int (i:Int):Dw K H (.int i) (.int i)
 |str (x:Str):Dw K H (.str x) (.str x)
 |Ar (b:Array UInt8):Dw K H (.Ar b) (.bytes b.toList)
 |lst {a:Addr} {xs:List V} {ds:List WData}:bP K H a xs->l8 K H xs ds->Dw K H (.ref a) (.list ds)
 |tup {a:Addr} {xs:List V} {ds:List WData}:kT K H a xs->l8 K H xs ds->Dw K H (.ref a) (.tuple ds)
inductive l8(K:PySem.W.Frag)(H:Hp):List V->List WData->Prop
 |nil:l8 K H [] []
 |cons {v:V} {vs:List V} {d:WData} {ds:List WData}:Dw K H v d->l8 K H vs ds->l8 K H (v::vs) (d::ds)
end
theorem Fb {K:PySem.W.Frag} {H:Hp}:∀ns:[26],l8 K H [429] (ns.map WData.int)
 | []=> .nil
 |n::r=> .cons (.int n) (Fb r)
theorem Fu {K:PySem.W.Frag} {H:Hp}:∀(ns:[26]) (xs:[13]),l8 K H xs (ns.map WData.int)->xs=[429]
 | [],xs,h=>by
  cases h;rfl
 |n::r,xs,h=>by cases h with
  |cons h1 h2=>
   cases h1;rw[Fu r _ h2]<;>rfl
section
variable {P:Program} {w:World} {K:PySem.W.Frag} {H:Hp} {h:Heap} {R:PySem.W.WRecords} {cl:Str->[241]}
theorem T4(cH:[79])(KX:[151])(q:[126]):∃(bo:[6]) (o:Obj) (n:Nat),[375]/\[88]=some o/\o.cls=[448]/\o.data=[816]:=by
 rcases q with q|⟨o,bo,n,e,hc,_,hd,_,hv⟩
 ·obtain⟨_,bo,n,hv,e⟩:=[93,[60],q.ok cH];exact⟨bo,_,n,hv,e,rfl,rfl⟩
 ·exact⟨bo.toList,o,n,hv,KX _ _ e,hc,by simp[hd]⟩
theorem T5(cH:[79])(KX:[151])(q:[305]):∃(bo:[6]) (o:Obj) (n:Nat),[375]/\[88]=some o/\o.cls=[219]/\o.data=[816]:=by
 rcases q with q|⟨o,bo,n,e,hc,hd,_,hv⟩
 ·obtain⟨_,bo,hv,o,e,hc,n,hd⟩:=[93,[119],q.ok cH];exact⟨bo,o,n,hv,e,hc,hd⟩
 ·exact⟨bo.toList,o,n,hv,KX _ _ e,hc,by simp[hd]⟩
mutual
theorem Dw.reads(cH:[79])(KX:[151]):∀(d:WData) (v:V) (u:Value),Dw K H v d->([116])->∃as,ReadsW R cl h u d as
 | .none,_,_,x,r=>by
  cases x;cases r;rw[4,ReadsW.none]
 | .bool b,_,_,x,r=>by
  cases x;cases r;rw[4,ReadsW.bool b]
 | .int i,_,_,x,r=>by
  cases x;obtain⟨t,rfl⟩:=r;rw[4,ReadsW.int i t]
 | .str s,_,_,x,r=>by
  cases x;obtain⟨t,rfl⟩:=r;rw[4,ReadsW.str s t]
 | .bytes b,_,_,x,r=>by
  cases x;obtain⟨t,rfl⟩:=r;rw[4,ReadsW.bytes _ t]
 | .list ds,_,_,x,r=>by cases x with
  |lst hs ha=>
   cases r;obtain⟨bo,o,n,rv,ho,hc,hd⟩:=T4 cH KX hs;obtain⟨as,hr⟩:=[1344];rw[4,ReadsW.list ho hc hd hr]
 | .tuple ds,_,_,x,r=>by cases x with
  |tup hs ha=>
   cases r;obtain⟨bo,o,n,rv,ho,hc,hd⟩:=T5 cH KX hs;obtain⟨as,hr⟩:=[1344];rw[4,ReadsW.tuple ho hc hd hr]
 | .float _,_,_,x,_=>[430]
 | .dict _,_,_,x,_=>[430]
 | .bytearray _,_,_,x,_=>[430]
 | .set _,_,_,x,_=>[430]
 | .frozenset _,_,_,x,_=>[430]
 | .obj _ _,_,_,x,_=>[430]
theorem Dw.readsAll(cH:[79])(KX:[151]):∀(ds:[349]) (vs:[13]) (us:[6]),l8 K H vs ds->([297])->∃as,ReadsAllW R cl h us ds as
 | [],_,_,x,r=>by
  cases x;cases r;rw[4,ReadsAllW.nil]
 |d::ds,_,_,x,r=>by cases x with
  |cons h1 h2=>cases r with
   |cons r1 r2=>
    obtain⟨as,q1⟩:=Dw.reads cH KX d _ _ h1 r1;obtain⟨bs,q2⟩:=Dw.readsAll cH KX ds _ _ h2 r2;rw[4,ReadsAllW.cons q1 q2]
end
end
mutual
def FR:WData->Bool
 | .none=>true
 | .bool _=>true
 | .int _=>true
 | .str _=>true
 | .bytes _=>true
 | .list xs=>ud xs
 | .tuple xs=>ud xs
 |_=>false
def ud:([349])->Bool
 | []=>true
 |x::r=>FR x&&ud r
end
theorem BN {α:Type} {f:α->WData}(h:∀a,FR (f a)=true):∀l:[34],ud (l.map f)=true
 | []=>rfl
 |x::r=>by
  show(FR (f x)&&ud (r.map f))=true;rw[h x,BN h r]<;>rfl
theorem o2:∀(c:Codec) (a:c.denote),FR (c.enc a)=true
 | .unit,_=>rfl
 | .bool,_=>rfl
 | .int _ _,_=>rfl
 | .nat _ _,_=>rfl
 | .u8,_=>rfl
 | .bytes _ _,_=>rfl
 | .text _ _ _ _,_=>rfl
 | .list _ _ c,a=>BN (λx=>o2 c x) a
 | .pair c d,a=>by
  show(FR (c.enc a.1)&&(FR (d.enc a.2)&&true))=true;rw[o2 c a.1,o2 d a.2]<;>rfl
 | .triple c d e,a=>by
  show(FR (c.enc a.1)&&(FR (d.enc a.2.1)&&(FR (e.enc a.2.2)&&true)))=true;rw[o2 c a.1,o2 d a.2.1,o2 e a.2.2]<;>rfl
 | .option c,none=>rfl
 | .option c,some x=>o2 c x
theorem yE:[453,ud [231,cs]=true]
 | [],_=>rfl
 |c::cs,a=>by
  show(FR (c.enc a.1)&&ud (Codec.encAll cs a.2))=true;rw[o2 c a.1,yE cs a.2]<;>rfl
theorem qG:∀ {xs:[349]} {d:WData},d∈xs->d.weight<=WData.weightAll xs
 | [],d,h=>[142,h]
 |x::r,d,h=>by
  show d.weight<=x.weight+1+WData.weightAll r;rcases List.mem_cons.mp h with e|m
  ·rw[e];omega
  ·have z:=qG m;omega
def toV:Value->V
 | .none=> .cg
 | .bool b=> .bl b
 | .int i _=>[112]
 | .str x _=> .str x
 | .bytes b _=> .Ar b
 | .ref a=>[10]
 |_=> .cg
def Gk(A:[14]):Value->Prop
 | .none=>True
 | .bool _=>True
 | .int _ _=>True
 | .str _ _=>True
 | .bytes _ _=>True
 | .ref a=>a∈A
 |_=>False
theorem Gk.mono {A B:[14]}(h:∀a∈A,a∈B):∀ {u:Value},Gk A u->Gk B u:=λ {u} x=>by cases u with
 |ref a=>exact h a x
 |none=>trivial
 |bool b=>trivial
 |int i t=>trivial
 |str s t=>trivial
 |bytes b t=>trivial
 |_=>rw[8,x]
theorem LD {A:[14]} {u:Value}(x:Gk A u):RelV (toV u) u:=by cases u with
 |ref a=>rfl
 |none=>rfl
 |bool b=>rfl
 |int i t=>rw[3,t,rfl]
 |str s t=>rw[3,t,rfl]
 |bytes b t=>rw[3,t,rfl]
 |_=>rw[8,x]
theorem mH {A:[14]}:∀ {vs:[6]},([415])->Vals [289] vs
 | [],_=> .nil
 |u::r,h=> .cons (LD (h u (List.mem_cons_self ..))) (mH λx hx=>h x [19,hx])
def nT(h:Heap)(A:[14])(a:Addr):Prop:=[484,[118,[263]]\/[88]=some [262]]
theorem nT.mono {h:Heap} {A B:[14]} {a:Addr}(k:∀a∈A,a∈B)(x:nT h A a):nT h B a:=by
 obtain⟨vs,h1,h2,h3⟩:=x;rw[0,vs,h1,λu hu=>(h2 u hu).mono k,h3]
theorem lP {P:Params} {h:Heap}:∀ {vs:[6]} {ds:[349]},([614])->vs.length=ds.length
 |_,_,.nil=>rfl
 |_,_,.cons _ b=>by
  show _+1=_+1;rw[lP b]
theorem yW {P:Params} {h:Heap} {v:Value}(x:Well P h v (.list ds)):∃(a:Addr) (vs:[6]),v=[10]/\[88]=some [263]/\[614]:=by cases x with
 |list ho eF=>exact⟨_,_,rfl,ho,eF⟩
theorem wW {P:Params} {h:Heap} {v:Value}(x:Well P h v (.tuple ds)):∃(a:Addr) (vs:[6]),v=[10]/\[88]=some [262]/\[614]:=by cases x with
 |tuple ho eF=>exact⟨_,_,rfl,ho,eF⟩
theorem yV {P:Params} {h:Heap} {d:WData}(x:WellAll P h us (d::ds)):∃(v:Value) (vs:[6]),us=v::vs/\Well P h v d/\[614]:=by cases x with
 |cons a b=>exact⟨_,_,rfl,a,b⟩
theorem FD {n:Nat}(h:n<=1048576):[24,n]:=[944]
section
variable {P:Params} {h:Heap}
mutual
theorem IW:∀(d:WData) (v:Value),Well P h v d->FR d=true->([892])->∃A:[14],Gk A v/\[268]
 | .none,_,x,_,_=>by rw[52]
 | .bool b,_,x,_,_=>by rw[52]
 | .int i,_,x,_,_=>by rw[52]
 | .str s,_,x,_,_=>by rw[52]
 | .bytes b,_,x,_,_=>by rw[52]
 | .list ds,_,x,p,z=>by
  obtain⟨a,vs,rfl,ho,eF⟩:=yW x;have z2:[1177]:=z;obtain⟨A,h1,h2⟩:=[1402];have k:∀b∈A,b∈a::A:=[897];refine⟨a::A,List.mem_cons_self ..,[279]⟩;rcases List.mem_cons.mp hb with e|m
  ·rw[e];rw[0,vs,FD (by rw[0,lP eF,Nat.le_trans [1111] z2]),λu hu=>(h1 u hu).mono k,.inl ho]
  ·exact(h2 b m).mono k
 | .tuple ds,_,x,p,z=>by
  obtain⟨a,vs,rfl,ho,eF⟩:=wW x;have z2:[1177]:=z;obtain⟨A,h1,h2⟩:=[1402];have k:∀b∈A,b∈a::A:=[897];refine⟨a::A,List.mem_cons_self ..,[279]⟩;rcases List.mem_cons.mp hb with e|m
  ·rw[e];rw[0,vs,FD (by rw[0,lP eF,Nat.le_trans [1111] z2]),λu hu=>(h1 u hu).mono k,.inr ho]
  ·exact(h2 b m).mono k
 | .float _,_,_,p,_=>[170]
 | .dict _,_,_,p,_=>[170]
 | .bytearray _,_,_,p,_=>[170]
 | .set _,_,_,p,_=>[170]
 | .frozenset _,_,_,p,_=>[170]
 | .obj _ _,_,_,p,_=>[170]
theorem qN:∀(ds:[349]) (vs:[6]),([614])->ud ds=true->(∀d∈ds,[892])->∃A:[14],[415]/\[268]
 | [],_,x,_,_=>by
  cases x;rw[0,[],λu m=>[142,m],λa m=>[142,m]]
 |d::ds,_,x,p,z=>by
  obtain⟨v,vs,rfl,x1,x2⟩:=yV x;have q:FR d=true/\ud ds=true:=[1112];obtain⟨A,a1,a2⟩:=IW d v x1 q.1 (z d (List.mem_cons_self ..));obtain⟨B,b1,b2⟩:=qN ds vs x2 q.2 λe he=>z e [19,he];have kA:∀b∈A,b∈A++B:=λb hb=>[267,hb];have kB:∀b∈B,b∈A++B:=λb hb=>[268,hb];refine⟨A++B,λu hu=> ?_,[279]⟩
  ·rcases List.mem_cons.mp hu with e|m
   ·rw[e];exact a1.mono kA
   ·exact(b1 u m).mono kB
  ·rcases List.mem_append.mp hb with m|m;rw[2,(a2 b m).mono kA,(b2 b m).mono kB]
end
end
def N5(o:Obj):Option HO:=match o.data with
 | .seq vs _=>if(o.cls==[431])=true then some (.xV o (.lst (vs.toList.map toV))) else some (.xV o (.tup (vs.toList.map toV)))
 |_=>none
def m3(K:PySem.W.Frag)(h:Heap)(A:[14]):Hp:=λb=>if b∈A then[5,(K.lookup b).isNone,[177].bind N5,none] else none
def xI(H:Hp):Prop:=∀b,[75]\/∃o u,[22,.xV o u]
theorem AV(vs:[6]):N5 [263]=some (.xV [263] (.lst [289])):=by
 show(if([431]==[431])=true then some (HO.xV [263] (.lst [678])) else some (HO.xV [263] (.tup [678])))=_;rw[if_pos (beq_self_eq_true _)]
theorem AW(vs:[6]):N5 [262]=some (.xV [262] (.tup [289])):=by
 show(if(Value.type "tuple"==[431])=true then some (HO.xV [262] (.lst [678])) else some (HO.xV [262] (.tup [678])))=_;rw[[213]]
section
variable {P:Program} {w:World} {K:PySem.W.Frag} {h:Heap} {A:[14]}
theorem uk {b:Addr} {o:Obj}(hb:b∈A)(hk:K.lookup b=none)(e:[363]):m3 K h A b=N5 o:=by
 unfold m3;rw[if_pos hb,hk,if_pos [44,(none:Option Obj).isNone,rfl],e]<;>rfl
theorem OJ {b:Addr}(q:[28,m3 K h A b]):b∈A/\K.lookup b=none:=by
 unfold m3 at q;by_cases hb:b∈A
 ·rw[7,hb];cases hk:K.lookup b with
   |none=>rw[3,hb,rfl]
   |some o=>
    rw[hk,[214]] at q;cases q
 ·rw[10,hb];cases q
theorem um(ar:[268]) {b:Addr}(q:[28,m3 K h A b]):K.lookup b=none/\[484,([177]=some [263]/\u= .xV [263] (.lst [289]))\/([177]=some [262]/\u= .xV [262] (.tup [289]))]:=by
 obtain⟨hb,hk⟩:=OJ q;obtain⟨vs,h1,h2,h3⟩:=ar b hb;refine⟨hk,vs,h1,h2,?_⟩;rcases h3 with e|e
 ·rw[uk hb hk e,AV] at q;exact[31,e,[173,q]]
 ·rw[uk hb hk e,AW] at q;exact .inr ⟨e,[173,q]⟩
theorem Gp(ar:[268]):xI [388]:=λb=>by cases q:m3 K h A b with
 |none=>exact[38]
 |some u=>
  obtain⟨_,vs,_,_,⟨_,e⟩|⟨_,e⟩⟩:=um ar q;rw[2,.inr [38,_,[300]],.inr [38,_,[300]]]
theorem Nc(ar:[268]):lY P w [388] h:=λb u q=>by
 obtain⟨_,vs,h1,h2,⟨e,rfl⟩|⟨e,rfl⟩⟩:=um ar q;rw[2,⟨e,by rw[20,h1],vs,_,mH h2,e⟩,⟨e,by rw[20,h1],vs,mH h2,_,e,rfl,_,rfl⟩]
theorem uB {c c':Value}(e:(some {cls:=c,data:= .seq vs.toArray}:Option Obj)=some {cls:=c',data:= .seq us.toArray}):c=c'/\vs=us:=by
 have e1:=[542];have e2:c=c':=congrArg Obj.cls e1;have e3:Data.seq vs.toArray=Data.seq us.toArray:=congrArg Obj.data e1;injection e3 with e4;rw[7,e2,?_];have e5:=[273,e4];simpa using e5
theorem argL(KX:[151])(ar:[268])(ha:a∈A)(e:[118,[263]]):[415]/\bP K [388] a [289]:=by
 obtain⟨us,h1,h2,h3⟩:=ar a ha;have hu:us=vs:=by
  rcases h3 with q|q
  ·rw[e] at q;exact(uB q).2.symm
  ·rw[e] at q;exact absurd (Value.type.inj (uB q).1) [3]
 subst hu;rw[7,h2,?_];cases hk:K.lookup a with
  |none=>exact .inl (.inr [34,(by rw[uk ha hk e,AV])])
  |some o=>
   have e2:=KX a o hk;rw[e] at e2;obtain rfl:=Option.some.inj e2;exact .inr ⟨_,us.toArray,_,hk,rfl,rfl,rfl,by rw[List.size_toArray];exact h1,[127,mH h2]⟩
theorem argT(KX:[151])(ar:[268])(ha:a∈A)(e:[118,[262]]):[415]/\kT K [388] a [289]:=by
 obtain⟨us,h1,h2,h3⟩:=ar a ha;have hu:us=vs:=by
  rcases h3 with q|q
  ·rw[e] at q;exact absurd (Value.type.inj (uB q).1) [3]
  ·rw[e] at q;exact(uB q).2.symm
 subst hu;rw[7,h2,?_];cases hk:K.lookup a with
  |none=>exact .inl (.inr [34,(by rw[uk ha hk e,AW])])
  |some o=>
   have e2:=KX a o hk;rw[e] at e2;obtain rfl:=Option.some.inj e2;exact .inr ⟨_,us.toArray,_,hk,rfl,rfl,by rw[List.size_toArray];exact h1,[127,mH h2]⟩
mutual
theorem Rx {Pm:Params}(KX:[151])(ar:[268]):∀(d:WData) (v:Value),Well Pm h v d->FR d=true->Gk A v->Dw K [388] (toV v) d
 | .none,_,x,_,_=>by
  cases x;exact .cg
 | .bool b,_,x,_,_=>by
  cases x;exact .bl b
 | .int i,_,x,_,_=>by
  cases x;exact[112]
 | .str s,_,x,_,_=>by
  cases x;exact .str s
 | .bytes b,_,x,_,_=>by
  cases x;have z:=Dw.Ar (K:=K) (H:=[388]) b.toArray;exact z
 | .list ds,_,x,p,hu=>by
  obtain⟨a,vs,rfl,ho,eF⟩:=yW x;obtain⟨h2,hs⟩:=argL KX ar hu ho;exact .lst hs (zh KX ar ds _ eF p h2)
 | .tuple ds,_,x,p,hu=>by
  obtain⟨a,vs,rfl,ho,eF⟩:=wW x;obtain⟨h2,hs⟩:=argT KX ar hu ho;exact .tup hs (zh KX ar ds _ eF p h2)
 | .float _,_,_,p,_=>[170]
 | .dict _,_,_,p,_=>[170]
 | .bytearray _,_,_,p,_=>[170]
 | .set _,_,_,p,_=>[170]
 | .frozenset _,_,_,p,_=>[170]
 | .obj _ _,_,_,p,_=>[170]
theorem zh {Pm:Params}(KX:[151])(ar:[268]):∀(ds:[349]) (vs:[6]),WellAll Pm h vs ds->ud ds=true->([415])->l8 K [388] [289] ds
 | [],_,x,_,_=>by
  cases x;exact .nil
 |d::ds,_,x,p,hu=>by
  obtain⟨v,vs,rfl,x1,x2⟩:=yV x;have q:FR d=true/\ud ds=true:=[1112];exact .cons (Rx KX ar d v x1 q.1 (hu _ (List.mem_cons_self ..))) (zh KX ar ds vs x2 q.2 λu m=>hu u [19,m])
end
end
theorem Ik {P:Program} {w:World} {K:PySem.W.Frag} {mg mb:Str->Option Value} {k:Nat} {fa:Addr} {fd:FuncData} {sp:Sp} {dZ:Shared} {vals:List Value} {R:PySem.W.WRecords} {cl:Str->Option Addr} {d0:WData}
 (KX:K.In dZ.heap)(qk:dZ.heap.Ns mainGlobals mg)(hb:dZ.heap.Ns builtinsNs mb)(hbb:∀x:Str,x≠ "__name__"->mb x=bootBuiltins x)(hlim:dZ.heap.NoLimit)(hg:dZ.gens= #[])
 (Y8:WellAll w.params dZ.heap vals ds)(bQ:ud ds=true)(hwt:∀d∈ds,d.weight<=1048576)(hr:ij k callerA)
 (F:∀base:Heap,K.In base->base.Ns mainGlobals mg->aC P w K mg base CX k fa fd ps sp)(Yn:∀(s:Shared) (us:List Value),us.length=ps.length->BindsTo s fd ⟨us,[]⟩ (ps.zip us))(hlen:ds.length=ps.length)
 (vf:∀(H:Hp) (xs:List V),xI H->l8 K H xs ds->sp xs H (λv H'=>Dw K H' v d0) λ_ _ _=>False)
 (X7:∀H e s',CX [] H dZ (λ_ _ _=>False) e s'->False):
 codeAny (model P w) callerA (.call (.ref fa) ⟨vals,[]⟩) (λr s'=>∃u as,r= .ok (.ret u)/\ReadsW R cl s'.heap u d0 as/\OldK dZ.heap s'.heap/\s'.os=dZ.os/\AllBare s'.gens) dZ:=by
 obtain⟨A,ho,ar⟩:=qN ds vals Y8 bQ hwt;have hO:xI (m3 K dZ.heap A):=Gp ar;have cH:lY P w (m3 K dZ.heap A) dZ.heap:=Nc ar;have hS:=zh KX ar ds vals Y8 bQ ho;have hV:=mH ho;have hK:∀b u,m3 K dZ.heap A b=some u->K.lookup b=none:=λb u q=>(um ar q).1
 have M0:∀ {b:Addr} {o:Obj} {es:Array DictEntry} {ep:Nat},dZ.heap.get? b=some o->o.data= .dict es ep->m3 K dZ.heap A b=none:=λ {b o es ep} e d=>by
  cases q:m3 K dZ.heap A b with
  |none=>rfl
  |some u=>
   obtain⟨_,vs,_,_,⟨e2,_⟩|⟨e2,_⟩⟩:=um ar q
   ·rw[e2] at e
    cases e
    have d':Data.seq vs.toArray _=Data.dict es ep:=d
    cases d'
   ·rw[e2] at e
    cases e
    have d':Data.seq vs.toArray _=Data.dict es ep:=d
    cases d'
 generalize m3 K dZ.heap A=H at hO cH hS hK M0;have EW:∀ {b:Addr} {o:Obj},dZ.heap.get? b=some o->H b=none->(zq dZ.heap H).get? b=some o:=λe n=>Kg e n;have nsK:∀ {b:Addr} {m:Str->Option Value},dZ.heap.Ns b m->(zq dZ.heap H).Ns b m:=λ {b m} ⟨o,es,ep,e,d,r⟩=>⟨o,es,ep,EW e (M0 e d),d,r⟩
 have nK:∀b o,K.lookup b=some o->H b=none:=λb o e=>by
  cases q:H b with
  |none=>rfl
  |some u=>
   rw[hK b u q] at e
   cases e
 have hKb:K.In (zq dZ.heap H):=λb o e=>EW (KX b o e) (nK b o e);have hM:Mod K mg (zq dZ.heap H):=⟨hKb,nsK qk,⟨mb,nsK hb,hbb⟩,let⟨mc,h1,h2⟩:=hlim;⟨mc,nsK h1,h2⟩⟩;have e0:y0 P w K mg (zq dZ.heap H) callerA [] dZ H:=⟨rfl,hM,λb o e=>OK e,Nat.le_of_eq (Hg _ _),trivial,λb hb=>absurd (show b∈([]:List Addr) from hb) (by simp),cH,.of_eq hg⟩;have hl:vals.length=ps.length:=by rw[lP Y8];exact hlen
 refine codeAny_mono ((F _ hKb (nsK qk)).run callerA [] dZ H ⟨vals,[]⟩ vals (vals.map toV) _ _ hr e0 (Yn dZ vals hl) hV (vf H _ hO hS)) λr s' x=> ?_
 cases r with
 |error e=>exact(X7 H e s' x).elim
 |ok fl=>
  cases fl with
  |next=>exact False.elim x
  |brk=>exact False.elim x
  |cont=>exact False.elim x
  |ret u=>
   obtain⟨v,H',os,bare,un,N6,r',q⟩:=x
   have kept:∀b o,dZ.heap.get? b=some o->s'.heap.get? b=some o:=λb o e=>by
    cases q2:H b with
    |none=>exact un.keep b o e q2 (by intro z;exact absurd (show b∈([]:List Addr) from z) (by simp)) (by simp)
    |some u2=>
     rcases hO b with z|⟨ob,u3,z⟩
     ·rw[q2] at z
      cases z
     ·have z2:=un.u7 b ob _ z;obtain⟨e1,_⟩:=cH b _ z;obtain⟨e2,_⟩:=N6 b _ z2;rw[e] at e1
      cases e1
      exact e2
   have KX':K.In s'.heap:=λb o e=>kept b o (KX b o e);obtain⟨as,hrd⟩:=Dw.reads (R:=R) (cl:=cl) N6 KX' d0 v u q r';exact⟨u,as,rfl,hrd,OldK.of_keep kept,os,bare⟩
theorem vC(h:WData.layableAll ds=true):∀d∈ds,[892]:=λd hd=>(PySem.W.layableW_iff.mp (List.all_eq_true.mp h d hd)).2.2
theorem u0:[453,[6,[231,cs],cs.length]]
 | [],_=>rfl
 |c::cs,a=>by
  show(Codec.encAll cs a.2).length+1=cs.length+1;rw[u0 cs a.2]
theorem IA {k:Nat} {q:Program} {K:Params->PySem.W.Frag} {CX:World->CD} {sp:World->Sp} (KD:r.wellSaid=true)(hdf:d.params.defaults=[])(hlen:[1137])(hr:ij k callerA) (hY:[1314]) (F:∀(w:World) (mg:[16]) (fa:Addr) (h:Heap),YP w h->[165].In h->([619])->[95,d.name,fa]->∃fd:FuncData,[244,us.length=ps.length->[293,[400]]]/\∀base:Heap,[165].In base->([945])->aC r.prog w [165] mg base (CX w) k fa fd ps (sp w)) (vf:∀(w:World) (H:Hp) (xs:[13]) (a:Codec.denoteAll r.args),xI H->Codec.withinAll r.args a=true->[1143]=true->l8 [165] H xs [231,r.args]->sp w xs H (λv H'=>Dw [165] H' v [971]) [428]) (X7:∀(w:World) (H:Hp) (s:Shared) (e:Value) (s':Shared),CX w [] H s [428] e s'->False):[1472]:=by
 intro w xB dZ mg mb G Y fa o pm cd doc dV kV ho hd xZ hD hmg hg args vals as hpre hlay hrd Y8 hlo;obtain⟨a,e1,e2⟩:=PySem.W.os_pre_some hpre;obtain⟨e3,hwi⟩:=Codec.encAll_of_decAll r.args args a e1;subst e3;have KX:=hY w _ Y;obtain⟨fd,hb,hF⟩:=F w mg fa _ Y KX G.T.g hmg;refine PySem.W.enter_call (codeAny_mono (Ik (R:=[]) (cl:=classAt xB.heap) (d0:=[971]) KX G.T.g G.T.b G.T.builtins G.T.nolimit hg Y8 (yE _ _) (vC hlay) hr hF hb (by rw[u0];exact hlen) (λH xs hO hS=>vf w H xs a hO hwi e2 hS) λH e s'=>X7 w H dZ e s') λr' s' hq=> ?_);obtain⟨u,as',rfl,h1,h2,h3,h4⟩:=hq;rw[0,.inl [2,u,_,as',λ_=>rfl,h1,[60,OpenSpec.post_iff KD hwi _ _],λz=>Bool.noConfusion [44,false,z]],h2,h3,h4]
theorem EK {k:Nat} {q:Program} {K:Params->PySem.W.Frag} {sp:PySem.W.Frag->Sp} (KD:r.wellSaid=true)(hdf:d.params.defaults=[])(hlen:[1137])(hr:ij k callerA) (hY:[1314]) (F:∀(w:World) (mg:[16]) (fa:Addr) (h:Heap),YP w h->[165].In h->([619])->[95,d.name,fa]->∃fd:FuncData,[244,us.length=ps.length->[293,[400]]]/\∀base:Heap,[165].In base->([945])->aC r.prog w [165] mg base CX k fa fd ps (sp [165])) (vf:∀(K:PySem.W.Frag) (H:Hp) (xs:[13]) (a:Codec.denoteAll r.args),xI H->Codec.withinAll r.args a=true->[1143]=true->l8 K H xs [231,r.args]->sp K xs H (λv H'=>Dw K H' v [971]) [428]) (X7:∀(H:Hp) (s:Shared) (e:Value) (s':Shared),CX [] H s [428] e s'->False):[1472]:=IA (K:=K) (CX:=λ_=>CX) (sp:=λw=>sp [165]) KD hdf hlen hr hY F (λw H xs a h1 h2 h3 h4=>vf [165] H xs a h1 h2 h3 h4) λ_ H s e s'=>X7 H s e s'
end
end L2
end
section
namespace ST
open PySem PySem.SetTable
section
variable {x y:Nat}
def Sg:[442]
 |0=>0
 |n+1=>5*Sg n+1
theorem LZ:∀n,Sg n%2=n%2
 |0=>rfl
 |n+1=>by
  have:=LZ n;show(5*Sg n+1)%2=_;omega
theorem Es:∀a b,Sg (a+b)=Sg a+[461]*Sg b
 |a,0=>by simp[Sg]
 |a,b+1=>by
  show 5*Sg (a+b)+1=_+_*(5*Sg b+1);rw[Es a b];generalize Sg a=x;generalize Sg b=y;have e1:(4*x+1)*(5*y+1)=5*((4*x+1)*y)+(4*x+1):=by rw[Nat.mul_add,Nat.mul_left_comm,Nat.mul_one]
  rw[e1];generalize (4*x+1)*y=z;omega
theorem zF(k:Nat) {b:Nat}(hb:b%2=1):(2 ^k).Coprime b:=by
 refine Nat.Coprime.pow_left k ?_;show Nat.gcd 2 b=1;rw[Nat.gcd_rec,hb];rfl
theorem LY:∀(k n:Nat),2 ^k∣Sg n->2 ^k∣n
 |0,n,_=>[4]
 |k+1,n,h=>by
  have h2:2∣Sg n:=Nat.dvd_trans ⟨2 ^k,by rw[Nat.pow_succ,Nat.mul_comm]⟩ h;have hp:=LZ n;have hn:n%2=0:=[2];obtain⟨m,rfl⟩:∃m,n=m+m:=[72,n/2];rw[Es] at h;have e:Sg m+(4*Sg m+1)*Sg m=2*(Sg m*(2*Sg m+1)):=by
   generalize Sg m=x;have e1:(4*x+1)*x=4*(x*x)+x:=by rw[Nat.add_mul,Nat.one_mul,Nat.mul_assoc]
   have e2:x*(2*x+1)=2*(x*x)+x:=by rw[Nat.mul_add,Nat.mul_one,Nat.mul_left_comm]
   rw[e1,e2];generalize x*x=y;omega
  rw[e,Nat.pow_succ,Nat.mul_comm (2 ^k) 2] at h;have h3:2 ^k∣Sg m*(2*Sg m+1):=Nat.dvd_of_mul_dvd_mul_left [3] h;have h4:=[145,2*Sg m+1,h3];have h5:=LY k m h4;obtain⟨q,hq⟩:=h5;rw[3,q,(by rw[hq,Nat.pow_succ];generalize 2 ^ k=z;rw[Nat.mul_assoc,Nat.mul_comm 2 q,<-Nat.mul_assoc,Nat.mul_two])]
def it(M:Nat):[162,Nat]
 |0,x=>x
 |n+1,x=>(it M n x*5+1)%M
theorem KL(M:Nat):∀n x,it M n x%M=(x+Sg n*(4*x+1))%M
 |0,x=>by simp[it,Sg]
 |n+1,x=>by
  show((it M n x*5+1)%M)%M=_;rw[Nat.mod_mod,Nat.add_mod,Nat.mul_mod,KL M n x,<-Nat.mul_mod,<-Nat.add_mod];congr 1;show _=x+(5*Sg n+1)*(4*x+1);rw[Nat.add_mul (5*Sg n) 1,Nat.one_mul,Nat.mul_assoc];generalize Sg n*(4*x+1)=z;omega
theorem Zg {M:Nat}(hM:0<M)(hx:x<M):∀n,it M n x<M
 |0=>hx
 |n+1=>Nat.mod_lt _ hM
theorem SR {k:Nat}(hx:x<2 ^k) {a b:Nat}(Fi:a<=b)(hb:b<2 ^k)(h:it (2 ^k) a x=it (2 ^k) b x):a=b:=by
 rw[11,KL (2 ^k) a x,KL (2 ^k) b x];rw[h,h2] at h1;obtain⟨d,rfl⟩:=Nat.exists_eq_add_of_le Fi;rw[Es] at h1;have e:x+(Sg a+[461]*Sg d)*(4*x+1)=(x+Sg a*(4*x+1))+(Sg d*[461])*(4*x+1):=by
  rw[Nat.add_mul,Nat.mul_comm [461] (Sg d)];omega
 rw[e] at h1;generalize x+Sg a*(4*x+1)=y at h1;have hd:2 ^k∣(Sg d*[461])*(4*x+1):=by
  have h3:=Nat.sub_mod_eq_zero_of_mod_eq h1;rw[Nat.add_sub_cancel_left] at h3;exact Nat.dvd_of_mod_eq_zero h3
 have h4:=[145,4*x+1,hd];have h5:=[145,[461],h4];have h6:=LY k d h5;have:d<2 ^k:=[2];rw[0,Nat.eq_zero_of_dvd_of_lt h6 this]
theorem KJ {k:Nat}(hx:x<2 ^k)(hy:y<2 ^k):∃n,n<2 ^k/\it (2 ^k) n x=y:=by
 have xa:[1244].Nodup:=by
  rw[List.Nodup,List.pairwise_map,List.pairwise_iff_getElem];intro i j hi hj Yy;rw[List.getElem_range,List.getElem_range];intro e;rw[List.length_range] at hj;exact absurd (SR hx (Nat.le_of_lt Yy) hj e) (Nat.ne_of_lt Yy)
 rcases Classical.em (y∈(List.range (2 ^ k)).map λn=>it (2 ^ k) n x) with h|h
 ·obtain⟨n,hn,e⟩:=List.mem_map.mp h;rw[0,n,List.mem_range.mp hn,e]
 ·have hnd2:(y::[1244]).Nodup:=List.nodup_cons.mpr ⟨h,xa⟩;have:=List.Nodup.length_le_of_subset (l₂:=List.range (2 ^k)) hnd2 (λz hz=>by rcases List.mem_cons.mp hz with rfl|hz;(·exact List.mem_range.mpr hy);·obtain⟨n,_,rfl⟩:=List.mem_map.mp hz;exact List.mem_range.mpr (Zg (Nat.lt_of_le_of_lt [33] hx) hx n));simp at this;omega
def jg(t:SetTable):Nat->Probe->Probe
 |0,p=>p
 |n+1,p=>jg t n [152]
theorem kx(t:SetTable):∀a b p,jg t (a+b) p=jg t b (jg t a p)
 |0,b,p=>by
  rw[Nat.zero_add];rfl
 |a+1,b,p=>by
  rw[Nat.add_right_comm];exact kx t a b [152]
theorem LH(mask i:Nat):runEnd mask i -i<=9:=by rw[100]
theorem IU(t:SetTable) {p:Probe}(h:[586]):[152].more<=9:=by
 unfold SetTable.advance;split
 ·show[404]<=9;omega
 ·exact LH _ _
theorem IS(t:SetTable)(p:Probe):[152].dummy=p.dummy:=by
 unfold SetTable.advance;rw[18]
theorem xK(t:SetTable):∀n {p:Probe},([586])->[373].more<=9
 |0,_,h=>h
 |n+1,_,h=>xK t n (IU t h)
theorem ET(t:SetTable):∀n (p:Probe),[373].dummy=p.dummy
 |0,_=>rfl
 |n+1,p=>(ET t n _).trans (IS t p)
theorem y9(t:SetTable):[384,p.more=m->jg t (m+1) p={p with j:=[319],more:=[232,[319]] -[319],i:=[319],perturb:=p.perturb/32}]
 |0,p,h=>by
  show[152]=_;unfold SetTable.advance;rw[[688]];rfl
 |m+1,p,h=>by
  show jg t (m+1) [152]=_;have e:[152]=[754]:=by
   unfold SetTable.advance;rw[if_pos [2]]
  rw[e,y9 t m [754] (by show[404]=m;omega)]
theorem IT(t:SetTable):[384,m<=p.more->jg t m p={p with j:=p.j+m,more:=p.more -m}]
 |0,p,h=>rfl
 |m+1,p,h=>by
  show jg t m [152]=_;have e:[152]=[754]:=by
   unfold SetTable.advance;rw[if_pos [2]]
  rw[e,IT t m [754] (by show m<=[404];omega)];show Probe.mk (p.j+1+m) ([404] -m) p.i p.perturb p.dummy=Probe.mk (p.j+(m+1)) (p.more -(m+1)) p.i p.perturb p.dummy;congr 1<;>omega
def CO(t:SetTable)(p:Probe):Prop:=p.j=p.i/\p.more=[232,p.i] -p.i
def lp(mask:Nat):Nat->[162,[113]]
 |0,i,pt=>(i,pt)
 |n+1,i,pt=>lp mask n (leap mask i pt).1 (pt/32)
theorem heads(t:SetTable):[384,([586])->0<m->∃n,n<=10*m/\CO t [373]/\[373].i=[311,m].1/\[373].perturb=[311,m].2]
 |0,p,h,h0=>absurd h0 [230]
 |m+1,p,h,_=>by
  have e:=y9 t p.more p rfl;rcases Nat.eq_zero_or_pos m with h0|h0
  ·subst h0;rw[6,[266],[2]];rw[e];rw[0,[18,rfl],rfl,rfl]
  ·obtain⟨n,h1,h2,h3,h4⟩:=heads t m (jg t [266] p) (xK t _ h) h0;rw[6,[266]+n,[2]];rw[kx];refine⟨h2,h3.trans ?_,h4.trans ?_⟩
   ·rw[e];rfl
   ·rw[e];rfl
theorem FE(mask:Nat):∀n i pt,(lp mask n i pt).2=pt/32 ^n
 |0,i,pt=>by simp[lp]
 |n+1,i,pt=>by
  show(lp mask n _ _).2=_;rw[FE mask n,Nat.div_div_eq_div_mul,Nat.pow_succ,Nat.mul_comm 32]
theorem zz(mask:Nat):∀a b i pt,lp mask (a+b) i pt=lp mask b (lp mask a i pt).1 (lp mask a i pt).2
 |0,b,i,pt=>by
  rw[Nat.zero_add];rfl
 |a+1,b,i,pt=>by
  rw[Nat.add_right_comm];exact zz mask a b _ _
theorem zA(mask:Nat):∀n i,(lp mask n i 0).1=it (mask+1) n i
 |0,i=>rfl
 |n+1,i=>by
  rw[zz mask n 1 i 0];show(leap mask (lp mask n i 0).1 (lp mask n i 0).2).1=_;rw[FE,zA mask n i,Nat.zero_div];rfl
theorem KW(mask:Nat):∀n i pt,0<n->(lp mask n i pt).1<mask+1
 |1,i,pt,_=>[913]
 |n+2,i,pt,_=>KW mask (n+1) _ _ (Nat.succ_pos _)
theorem reach(t:SetTable) {k:Nat}(hk:[229]=2 ^k)(p:Probe)(hm:[586])(hp:p.perturb<2 ^64)(hy:[82,y]):∃n,n<=10*(13+t.mask)/\(jg t n p).j=y:=by
 have X5:=FE t.mask 13 p.i p.perturb;have z:p.perturb/32 ^13=0:=Nat.div_eq_of_lt (Nat.lt_of_lt_of_le hp [3]);rw[z] at X5;have hl:=KW t.mask 13 p.i p.perturb [3];obtain⟨n,hn,e⟩:=KJ (k:=k) (x:=[311,13].1) (y:=y) [2] [2];obtain⟨q,h1,h2,h3,_⟩:=heads t (13+n) p hm [2];rw[6,q,[2]];rw[h2.1,h3,zz,X5,zA,hk,e]
theorem Ew(t:SetTable)(h:Int):[231].more<=9:=LH _ _
theorem Cd(t:SetTable)(h:Int):[577]<2 ^64:=by
 show bits h<_;unfold bits;have h1:=Int.emod_lt_of_pos h [33,[2,0]<2 ^64];have h0:=Int.emod_nonneg h [33,[2,2 ^64]≠0];omega
theorem LG(mask i:Nat)(h:i<=mask):runEnd mask i<=mask:=by rw[100]
def Uw(t:SetTable)(p:Probe):Prop:=[978]
theorem x9(t:SetTable)(h:Int):Uw t [231]:=by
 have hb:[82,[626]]:=Nat.le_of_lt_succ [913];show[626]+(runEnd t.mask [626] -[626])<=t.mask;rw[0,LG t.mask _ hb]
theorem Of(t:SetTable) {p:Probe}(h:Uw t p):Uw t [152]:=by
 unfold SetTable.advance;split
 ·show p.j+1+[404]<=t.mask;have:[978]:=h;omega
 ·have hb:[82,[319]]:=Nat.le_of_lt_succ [913];show[319]+([232,[319]] -[319])<=t.mask;rw[0,LG t.mask _ hb]
theorem vj(t:SetTable):∀n {p:Probe},Uw t p->Uw t [373]
 |0,_,h=>h
 |n+1,_,h=>vj t n (Of t h)
theorem j_le(t:SetTable)(h:Int)(n:Nat):[82,(jg t n [231]).j]:=Nat.le_trans [230,_] (vj t n (x9 t h))
end
section
variable {xs:Array Nat} {i j m:Nat} {α:Type}
theorem uP {xs:Array Nat} {j:Nat}(hu:[1433]):∀(fuel lo hi:Nat),lo<=hi->hi<=xs.size->hi -lo<=fuel->(∀i,i<lo->[517]<j)->[420,hi]->[1052]<=xs.size/\(∀i,i<[1052]->[517]<j)/\[420,[1052]]
 |0,lo,hi,h1,h2,h3,h4,h5=>by
  have:hi=lo:=[2];subst this;rw[0,h2,h4,h5]
 |fuel+1,lo,hi,h1,h2,h3,h4,h5=>by
  rw[below.go];by_cases ez:lo<hi
  ·rw[17,ez];have Sr:[318]<hi:=[2];have Kl:lo<=[318]:=[2];have hsz:[318]<xs.size:=[2];have e:xs.getD [318] j=xs.getD [318] 0:=by simp[Array.getD,hsz]
   show below.go xs j (fuel+1) lo hi|>λ_=>_;dsimp only;rw[e];by_cases hc:xs.getD [318] 0<j
   ·rw[8,if_pos hc,uP hu fuel _ _ [2] h2 [2] (λi mK=> ?_) h5];rcases Nat.lt_or_ge i ((lo+hi)/2) with h|h
    ·exact Nat.lt_trans (hu _ _ h hsz) hc
    ·have:i=[318]:=[2];subst this;exact hc
   ·rw[8,[597],uP hu fuel _ _ Kl [2] [2] h4 (λi mK hi2=> ?_)];rcases Nat.lt_or_ge ((lo+hi)/2) i with h|h
    ·rw[0,hu _ _ h hi2]
    ·have:i=[318]:=[2];subst this;omega
  ·rw[16,ez];have:hi=lo:=[2];subst this;rw[0,h2,h4,h5]
def Up(xs:Array Nat):Prop:=xs.toList.Pairwise (·<·)
theorem Up.at(h:Up xs):[1433]:=by
 intro a b Fi hb;have:=List.pairwise_iff_getElem.mp h a b (by rw[0]) [96] Fi;simp only[Array.getD,hb,[27,a<xs.size],dite_true];simpa using this
theorem jD(h:Up xs)(j:Nat):below xs j<=xs.size/\(∀i,i<below xs j->[517]<j)/\[420,below xs j]:=uP h.at xs.size 0 xs.size [33] [8] [2] (λi hi=>[2]) (λi h1 h2=>[2])
theorem Fe(h:[3,xs,j]):i<xs.size/\[517]=j:=by
 obtain⟨h1,h2⟩:=Array.getElem?_eq_some_iff.mp h;rw[3,h1,(by simp[Array.getD,h1,h2])]
theorem below_at(h:Up xs)(e:[3,xs,j]):below xs j=i:=by
 obtain⟨h1,h2,h3⟩:=jD h j;obtain⟨g1,g2⟩:=Fe e;rcases Nat.lt_trichotomy (below xs j) i with q|q|q
 ·rw[12,h3 _ [8] [2],h.at _ _ q g1]
 ·exact q
 ·rw[0,h2 i q]
theorem C0(h:Up xs)(e:[3,xs,j]):below xs (j+1)=i+1:=by
 obtain⟨h1,h2,h3⟩:=jD h (j+1);obtain⟨g1,g2⟩:=Fe e;rcases Nat.lt_trichotomy (below xs (j+1)) (i+1) with q|q|q
 ·rw[0,h3 i [2] g1]
 ·exact q
 ·rw[12,h2 (i+1) q,h.at i (i+1) [2] [2]]
theorem C2(h:Up xs):below xs 0=0:=by
 obtain⟨h1,h2,h3⟩:=jD h 0;rcases Nat.eq_zero_or_pos (below xs 0) with q|q
 ·exact q
 ·rw[0,h2 0 q]
theorem uw(j:Nat):[8,has #[] j]:=by simp[has]
section
variable {t:SetTable}
theorem yK(hd:[469])(h:[757]):[3,t.place,j]:=by
 unfold SetTable.slot at h;rw[hd,uw] at h;dsimp only at h;split at h
 ·next h2=>
  cases h;simpa using h2
 ·simp at h
theorem B5(hd:[469])(j:Nat):(∃i,[757])\/[129,j]:=by
 unfold SetTable.slot;rw[hd,uw];dsimp only;rw[14,.inl [53],.inr [4]]
theorem slot_of(hd:[469])(hu:Up t.place)(h:[3,t.place,j]):[757]:=by
 unfold SetTable.slot;rw[below_at hu h];dsimp only;rw[h];simp
theorem wB(hd:[469])(hu:Up t.place)(h:[129,j]):j∉t.place.toList:=λhm=>by
 rw[45,hm];rw[Array.getElem?_toList] at hi;rw[23,slot_of hd hu hi]
theorem slot_mem(hd:[469])(h:[757]):j∈t.place.toList:=by
 have:=yK hd h;rw[<-Array.getElem?_toList] at this;exact[1099]
theorem BO(hd:[469])(hashAt:Nat->Int)(h:Int):∀(fuel n:Nat) (p:Probe),n<fuel->[129,(jg t n p).j]->∃m,m<=n/\(∀m',m'<m->∃i,t.slot (jg t m' p).j= .live i/\hashAt i≠h)/\(([1423]=some (.empty (jg t m p).j p.dummy)/\t.slot (jg t m p).j= .empty)\/∃i,m<n/\[1423]=some (.candidate (jg t m p).j i (jg t (m+1) p))/\t.slot (jg t m p).j= .live i/\hashAt i=h)
 |0,n,p,hn,_=>[201,hn]
 |fuel+1,n,p,hn,he=>by
  rw[probe.go];rcases B5 hd p.j with⟨i,hi⟩|h0
  ·rw[hi];dsimp only;by_cases hh:hashAt i=h
   ·refine⟨0,[33],λm' hm=>[201,hm],.inr ⟨i,?_,?_,hi,hh⟩⟩
    ·rcases Nat.eq_zero_or_pos n with e|e
     ·subst e;have AR:[129,p.j]:=he;rw[hi] at AR;cases AR
     ·exact e
    ·rw[if_pos [717]];rfl
   ·rw[if_neg (by simpa using hh)];rcases n with _|n
    ·have AR:[129,p.j]:=he;rw[hi] at AR;cases AR
    ·obtain⟨m,h1,h2,h3⟩:=BO hd hashAt h fuel n [152] [2] he;refine[15,m+1,[2],λm' hm=> ?_]
     ·rcases m' with _|m';rw[2,⟨i,hi,hh⟩,h2 m' [2]]
     ·rcases h3 with⟨h3,h4⟩|⟨i',h3,h4,h5,h6⟩
      ·rw[IS] at h3;exact[31,h3,h4]
      ·exact .inr ⟨i',[2],h4,h5,h6⟩
  ·rw[h0];rw[0,0,[33],λm' hm=>[201,hm],.inl [18,h0]]
end
def oR:[30]:=[7,31,127,511,2047,8191]
structure TI(t:SetTable)(es:List (Int×Value)):Prop where
 mask:t.mask∈oR
 dm:t.dummies= #[]
 up:Up t.place
 len:t.place.size=es.length
 bd:∀j∈t.place.toList,j<=t.mask
 full:es.length*5<t.mask*3
 path:∀x∈t.place.toList.zip es,∃n,(jg t n (t.probeStart x.2.1)).j=x.1/\∀m,m<n->(jg t m (t.probeStart x.2.1)).j∈t.place.toList
theorem Bn(h:m∈oR):∃k,m+1=2 ^k:=by
 simp only[oR,List.mem_cons,List.not_mem_nil,or_false] at h;rcases h with rfl|rfl|rfl|rfl|rfl|rfl;rw[2,[41,3],[41,5]];rw[2,[41,7],[41,9]];rw[2,[41,11],[41,13]]
theorem pG(h:m∈oR):m<=8191/\m%2=1:=by
 simp only[oR,List.mem_cons,List.not_mem_nil,or_false] at h;omega
theorem JI(led:Bool):TI (.fresh 0 0 led) []:=⟨by simp[oR,SetTable.fresh],rfl,List.Pairwise.nil,rfl,λj h=>[1113],by simp[SetTable.fresh],λx h=>[1113]⟩
section
variable {t t':SetTable} {es:[234,Int]}
theorem kU(hm:t'.mask=t.mask):∀n p,jg t' n p=[373]
 |0,p=>rfl
 |n+1,p=>by
  show jg t' n (t'.advance p)=jg t n [152];have e:t'.advance p=[152]:=by
   unfold SetTable.advance;rw[hm]
  rw[e,kU hm n]
theorem jO(hm:t'.mask=t.mask)(h:Int):t'.probeStart h=[231]:=by
 unfold SetTable.probeStart;rw[hm]
theorem TI.free(T:TI t es):∃y,y<=t.mask/\[129,y]:=by
 rcases Classical.em (∃y,y<=t.mask/\t.slot y= .empty) with h|h
 ·exact h
 ·have hs:List.range [229] ⊆t.place.toList:=λy hy=>by
   have hy:=List.mem_range.mp hy;rcases B5 T.dm y with⟨i,hi⟩|h0;rw[2,slot_mem T.dm hi,absurd ⟨y,[2],h0⟩ h]
  have:=List.Nodup.length_le_of_subset List.nodup_range hs;rw[11,T.len,T.full];rw[List.length_range,Array.length_toList] at this;omega
theorem TI.fits(T:TI t es):t.place.size=es.length/\[82,t.fill]:=by
 rw[7,T.len,?_];unfold SetTable.fill;rw[T.dm];rw[11,T.len,T.full];show t.place.size+0<=_;omega
theorem TI.odd(T:TI t es):[8,t.gaveWay]:=by
 have:=(pG T.mask).2;unfold SetTable.gaveWay;simp[this]
theorem TI.ahead(T:TI t es)(p:Probe)(hm:[586])(hp:p.perturb<2 ^64):∃n,n<=10*(13+t.mask)/\[129,(jg t n p).j]:=by
 obtain⟨y,h1,h2⟩:=T.free;obtain⟨k,hk⟩:=Bn T.mask;obtain⟨n,h3,h4⟩:=reach t hk p hm hp h1;rw[0,n,h3,(by rw[h4];exact h2)]
theorem Ae {α β:Type}:∀ {xs:[34]} {ys:[286]} {i:Nat} {a:α} {b:β},[3,xs,a]->[3,ys,b]->(a,b)∈xs.zip ys
 | [],_,_,_,_,h,_=>[129]
 |_::_,[],_,_,_,_,h=>[129]
 |x::xs,y::ys,0,a,b,h1,h2=>by
  rw[99];simp
 |x::xs,y::ys,i+1,a,b,h1,h2=>by
  simp only[List.getElem?_cons_succ] at h1 h2;rw[List.zip_cons_cons];exact[357,Ae h1 h2]
theorem lh {l:[34]} {p:Nat} {a:α}(h:(l.take p)[i]? =some a):[3,l,a]:=by
 rw[List.getElem?_take] at h;split at h
 ·exact h
 ·cases h
theorem zip_get {β:Type} {xs:[34]} {ys:[286]} {a:α} {b:β}(h:(a,b)∈xs.zip ys):∃i:Nat,[3,xs,a]/\[3,ys,b]:=by
 rw[45,h];rw[List.getElem?_zip_eq_some] at hi;rw[0,i,hi.1,hi.2]
theorem TI.put(T:TI t es) {x:Int×Value} {j n:Nat}(hj:[129,j])(hl:[82,j])(hn:(jg t n (t.probeStart x.1)).j=j)(hp:∀m,m<n->(jg t m (t.probeStart x.1)).j∈t.place.toList)(hf:(es.length+1)*5<t.mask*3) {pl:Bool}:[202]<=es.length/\TI {[91] with plain:=pl} (es.take [202]++x::es.drop [202]):=by
 have gx:=wB T.dm T.up hj;obtain⟨b1,b2,b3⟩:=jD T.up j;have hL:=T.len;have e1:[202]=[159]:=rfl;have e2:[718].place.toList=[773]:=[1269];have e3:[718].mask=t.mask:=rfl;have e4:[718].dummies= #[]:=by
  show[1234]=_;rw[T.dm,uw];rfl
 rw[e1];rw[7,[2],?_];have oJ:∀z,z∈t.place.toList->z∈[773]:=λz hz=>by
  rw[<-List.take_append_drop [159] t.place.toList] at hz;rcases List.mem_append.mp hz with hz|hz;rw[2,[95,hz],[223,[19,hz]]]
 have Sm:∀i,([693])->t.place.toList[i]? =some [946]:=λi hi=>by
  rw[Array.getElem?_toList,[1114]];simp[Array.getD,hi]
 refine⟨by rw[e3];exact T.mask,e4,?_,?_,?_,?_,?_⟩
 ·show List.Pairwise _ _;rw[e2,List.pairwise_append];have Y3:t.place.toList.Pairwise (·<·):=T.up;refine[21,Y3.sublist [942],?_]
  ·rw[List.pairwise_cons];rw[7,λz hz=> ?_,Y3.sublist (List.drop_sublist _ _)];rw[45,hz];rw[List.getElem?_drop] at hi;have ez:[159]+i<t.place.size:=by rw[33,[25,hi]]
   rw[Sm _ ez] at hi;have h3:=b3 _ [230,i] ez;have U8:z∈t.place.toList:=[1115];have:z≠j:=λe=>gx (e▸U8);cases hi;omega
  ·intro a ha b hb;rw[45,ha];rw[List.getElem?_take] at hi;split at hi
   ·next ez=>
    have hlt2:[693]:=[2];rw[Sm _ hlt2] at hi;have h2:=b2 i ez;cases hi;rcases List.mem_cons.mp hb with rfl|hb
    ·exact h2
    ·obtain⟨i',mK⟩:=List.mem_iff_getElem?.mp hb;rw[List.getElem?_drop] at mK;have YH:[159]+i'<t.place.size:=by rw[33,[25,mK]]
     rw[Sm _ YH] at mK;have h3:=b3 _ [230,i'] YH;cases mK;omega
   ·cases hi
 ·have:[718].place.toList.length=_:=[358,e2];rw[Array.length_toList] at this;rw[this];simp only[List.length_append,List.length_cons,List.length_take,List.length_drop,Array.length_toList];omega
 ·intro z hz;rw[e2] at hz;rw[e3];rcases List.mem_append.mp hz with hz|hz
  ·exact T.bd z (List.mem_of_mem_take hz)
  ·rcases List.mem_cons.mp hz with rfl|hz;rw[2,hl,T.bd z [1115]]
 ·rw[e3];simp only[List.length_append,List.length_cons,List.length_take,List.length_drop];omega
 ·intro y hy;rw[e2] at hy ⊢;have hz:[773].zip (es.take [159]++x::es.drop [159])=[1078].zip (es.take [159])++(j,x)::[1077].zip (es.drop [159]):=by
   rw[List.zip_append (by simp only[List.length_take,Array.length_toList];omega)];rfl
  rw[hz] at hy;have old:y∈t.place.toList.zip es->∃n,[461,n]=y.1/\∀m,m<n->[461,m]∈[773]:=λhy=>by
   obtain⟨n,h1,h2⟩:=T.path y hy;refine⟨n,?_,λm hm=> ?_⟩
   ·rw[kU e3,jO e3];exact h1
   ·rw[kU e3,jO e3];exact oJ _ (h2 m hm)
  rcases List.mem_append.mp hy with hy|hy
  ·refine old ?_;obtain⟨a,b⟩:=y;obtain⟨i,h1,h2⟩:=zip_get hy;exact Ae (lh h1) (lh h2)
  ·rcases List.mem_cons.mp hy with rfl|hy
   ·refine⟨n,?_,λm hm=> ?_⟩
    ·rw[kU e3,jO e3];exact hn
    ·rw[kU e3,jO e3];exact oJ _ (hp m hm)
   ·refine old ?_;obtain⟨a,b⟩:=y;obtain⟨i,h1,h2⟩:=zip_get hy;rw[List.getElem?_drop] at h1 h2;exact Ae h1 h2
end
end
section
def own(o:Array [284])(j k:Nat):Prop:=o[j]? =some (some k)
def taken(o:Array [284])(j:Nat):Prop:=∃k,own o j k
section
variable {t:SetTable} {o:Array [284]}
theorem getD_some {j:Nat}(hj:j<o.size):o.getD j (some 0)=o[j]?.getD (some 0):=by simp[Array.getD,hj]
theorem xU(hsz:o.size=t.mask+1):∀(fuel m:Nat) (p:Probe),CO t p->Uw t p->m<fuel->[2,o,[311,m].1,none]->∃j n,layClean.free t.mask o fuel p.i p.perturb=some j/\(jg t n p).j=j/\[2,o,j,none]/\∀m',m'<n->taken o (jg t m' p).j
 |0,m,p,_,_,hm,_=>[201,hm]
 |fuel+1,m,p,hh,qj,hm,he=>by
  have hrun:[232,p.i]+1 -p.i=p.more+1:=by
   have:=hh.2;have h0:p.i<=[232,p.i]:=by rw[100]
   omega
  have hI:[978]:=qj;have hj:=hh.1;have Kx:∀k,k<=p.more->(jg t k p).j=p.i+k:=λk hk=>by
   rw[IT t k p hk];show p.j+k=_;omega
  have Kr:∀k,k<=p.more->((o.getD (p.i+k) (some 0)).isNone=true↔[2,o,p.i+k,none]):=λk hk=>by
   have ez:p.i+k<o.size:=[2];have e:=[209];rw[getD_some ez,e];simp
  rw[layClean.free,hrun];cases hf:(List.range (p.more+1)).find? (λk=>(o.getD (p.i+k) (some 0)).isNone) with
   |some k=>
    dsimp only;have hk:=List.mem_range.mp (List.mem_of_find?_eq_some hf);have hp:=List.find?_some hf;rw[9,⟨p.i+k,k,rfl,Kx k [2],(Kr k [2]).mp hp,λm' DC=> ?_⟩,Kx m' [2]];rw[List.find?_range_eq_some] at hf;have hq:=hf.2.2 m' DC;have ez:p.i+m'<o.size:=[2];have e:=[209];cases hv:o[p.i+m'] with
     |none=>
      have:=(Kr m' [2]).mpr (by rw[e,hv]);rw[this] at hq;simp at hq
     |some k'=>rw[3,k',(by show o[p.i+m']? =_;rw[e,hv])]
   |none=>
    dsimp only;have eF:∀k,k<=p.more->taken o (p.i+k):=λk hk=>by
     have hq:=List.find?_eq_none.mp hf k [1131];have ez:p.i+k<o.size:=[2];have e:=[209];cases hv:o[p.i+k] with
      |none=>exact absurd ((Kr k hk).mpr (by rw[e,hv])) hq
      |some k'=>rw[3,k',(by show o[p.i+k]? =_;rw[e,hv])]
    rcases m with _|m
    ·obtain⟨k',ko⟩:=eF 0 [33];have AR:[2,o,p.i,none]:=he;have YD:o[p.i]? =some (some k'):=ko;rw[AR] at YD;cases YD
    ·have e:=y9 t p.more p rfl;have hh':CO t (jg t [266] p):=by
      rw[e];rw[3,rfl,rfl]
     obtain⟨j,n,h1,h2,h3,h4⟩:=xU hsz fuel m (jg t [266] p) hh' (vj t _ qj) [2] (by rw[e];exact he);refine⟨j,[266]+n,?_,by rw[kx];exact h2,h3,λm' DC=> ?_⟩
     ·rw[<-h1,e];rfl
     ·rcases Nat.lt_or_ge m' (p.more+1) with q|q
      ·rw[0,Kx m' [2],eF m' [2]]
      ·have:=h4 (m' -[266]) [2];rw[<-kx,[27,[266]+(m' -[266])=m']] at this;rw[13]
structure LI(t:SetTable)(done:List Int)(o:Array (Option Nat)):Prop where
 size:o.size=t.mask+1
 at_:∀(k:Nat) h,done[k]? =some h->∃j n,own o j k/\(jg t n (t.probeStart h)).j=j/\∀m,m<n->taken o (jg t m (t.probeStart h)).j
 lt:∀j k,own o j k->k<done.length
 uni:∀j j' k,own o j k->own o j' k->j=j'
theorem LI.nil:LI t [] (Array.replicate [229] none):=by
 have Ag:∀j k,¬own (Array.replicate [229] none) j k:=λj k h=>by
  have h:(Array.replicate [229] (none:[284]))[j]? =some (some k):=h;rw[Array.getElem?_replicate] at h;split at h<;>simp at h
 rw[0,[4],λk h e=>[410],λj k h=>absurd h (Ag j k),λj j' k h _=>absurd h (Ag j k)]
theorem LI.step {done:[26]}(L:LI t done o)(hk:[923])(hf:[82,done.length])(h:Int):∃j,layClean.free t.mask o (turns t.mask) [626] (bits h)=some j/\LI t (done++[h]) [101,j]:=by
 obtain⟨kk,hk⟩:=hk;obtain⟨y,hy,hyn⟩:∃y,y<=t.mask/\[2,o,y,none]:=by
  rcases Classical.em (∃y,y<=t.mask/\o[y]? =some none) with z|z
  ·exact z
  ·have eF:∀y,[82,y]->taken o y:=λy hy=>by
    have ez:y<o.size:=by
     rw[L.size];omega
    have e:=[209];cases hv:o[y] with
     |none=>exact absurd ⟨y,hy,by rw[e,hv]⟩ z
     |some k'=>rw[3,k',(by show o[y]? =_;rw[e,hv])]
   have hg:∀y k,own o y k->[1021]=k:=λy k hk=>by
    have hk:o[y]? =some (some k):=hk;rw[hk];rfl
   have xa:((List.range [229]).map λy=>[1021]).Nodup:=by
    rw[List.Nodup,List.pairwise_map,List.pairwise_iff_getElem];intro a b ha hb Fi;rw[List.length_range] at ha hb;rw[List.getElem_range,List.getElem_range];obtain⟨ka,hka⟩:=eF a [2];obtain⟨kb,Hh⟩:=eF b [2];rw[hg _ _ hka,hg _ _ Hh];intro e;subst e;rw[0,L.uni _ _ _ hka Hh]
   have:=List.Nodup.length_le_of_subset (l₂:=List.range done.length) xa (λz hz=>by rw[40,hz];obtain⟨k',ko⟩:=eF y (by rw[0,List.mem_range.mp hy]);show[1021]∈_;rw[0,hg _ _ ko,List.mem_range.mpr (L.lt _ _ ko)]);simp at this;omega
 have X5:=FE t.mask 13 [231].i [577];have z:[577]/32 ^13=0:=Nat.div_eq_of_lt (Nat.lt_of_lt_of_le (Cd t h) [3]);rw[z] at X5;have hl:=KW t.mask 13 [231].i [577] [3];obtain⟨n,hn,e⟩:=KJ (k:=kk) (x:=(lp t.mask 13 [231].i [577]).1) (y:=y) [2] [2];obtain⟨j,q,h1,h2,h3,h4⟩:=xU (t:=t) L.size (turns t.mask) (13+n) [231] [18,rfl] (x9 t h) (by unfold turns;omega) (by rw[zz,X5,zA,hk,e];exact hyn);rw[6,j,h1];have hjl:j<o.size:=[277,h3];have Qx:own [101,j] j done.length:=by
  show(o.setIfInBounds j _)[j]? =_;rw[Array.getElem?_setIfInBounds];simp[hjl]
 have YQ:∀j',j'≠j->[101,j][j']? =o[j']? :=λj' YB=>by rw[Array.getElem?_setIfInBounds,if_neg (Ne.symm YB)]
 have Fq:∀j' k',own o j' k'->own [101,j] j' k':=λj' k' ko=>by
  have gx:j'≠j:=λe=>by
   subst e;have ko:o[j']? =some (some k'):=ko;rw[h3] at ko;cases ko
  show(o.setIfInBounds j _)[j']? =_;rw[0,YQ j' gx,ko]
 have AY:∀j',taken o j'->taken [101,j] j':=λj' ⟨k',ko⟩=>⟨k',Fq j' k' ko⟩;have Fm:∀j' k',own [101,j] j' k'->(j'=j/\k'=done.length)\/(j'≠j/\own o j' k'):=λj' k' ko=>by
  by_cases gx:j'=j
  ·subst gx;have a:[101,j'][j']? =some (some k'):=ko;have b:[101,j'][j']? =some (some done.length):=Qx;rw[a] at b;cases b;exact .inl [18,rfl]
  ·refine .inr [30,gx];have a:[101,j][j']? =some (some k'):=ko;rw[YQ j' gx] at a;exact a
 refine⟨by rw[Array.size_setIfInBounds];exact L.size,λk h' ko=> ?_,λj' k' ko=> ?_,λa b k' ha hb=> ?_⟩
 ·rcases Nat.lt_trichotomy k done.length with ez|rfl|hgt
  ·rw[List.getElem?_append_left ez] at ko;obtain⟨j0,n0,g1,g2,g3⟩:=L.at_ k h' ko;exact⟨j0,n0,Fq _ _ g1,g2,λm hm=>AY _ (g3 m hm)⟩
  ·rw[[871]] at ko;simp at ko;subst ko;exact⟨j,q,Qx,h2,λm hm=>AY _ (h4 m hm)⟩
  ·rw[List.getElem?_append_right [2]] at ko;have:k -done.length=(k -done.length -1)+1:=[2];rw[this] at ko;simp at ko
 ·rw[List.length_append];rcases Fm _ _ ko with⟨_,rfl⟩|⟨_,g⟩
  ·simp
  ·have:=L.lt _ _ g;rw[0]
 ·rcases Fm _ _ ha with⟨rfl,rfl⟩|⟨h5,g⟩
  ·rcases Fm _ _ hb with⟨rfl,_⟩|⟨_,g'⟩
   ·rfl
   ·exact[235,L.lt _ _ g']
  ·rcases Fm _ _ hb with⟨rfl,rfl⟩|⟨_,g'⟩;rw[2,[235,L.lt _ _ g],L.uni _ _ _ g g']
def qW(mask:Nat)(acc:Option (Array (Option Nat)×Nat))(h:Int):Option (Array (Option Nat)×Nat):=do
 let(owner,k) <-acc
 let j <-layClean.free mask owner (turns mask) (bits h%(mask+1)) (bits h)
 pure (owner.setIfInBounds j (some k),k+1)
theorem Bb(hk:[923]):∀(hs done:[26]) (o:Array [284]),LI t done o->done.length+hs.length<=t.mask->∃o',hs.foldl (qW t.mask) [11,o,done.length]=[11,o',(done++hs).length]/\LI t (done++hs) o'
 | [],done,o,L,_=>⟨o,[4],by simpa using L⟩
 |h::hs,done,o,L,hf=>by
  rw[List.length_cons] at hf;obtain⟨j,h1,h2⟩:=L.step hk [2] h;obtain⟨o',h3,h4⟩:=Bb hk hs (done++[h]) _ h2 (by rw[List.length_append];rw[0]);refine⟨o',?_,by rw[List.append_assoc] at h4;exact h4⟩;rw[List.foldl_cons];have e:qW t.mask [11,o,done.length] h=some ([101,j],[42,done,h]):=by
   unfold qW;rw[List.length_append];simp only[Option.bind_eq_bind,Option.bind_some,h1];rfl
  rw[e,h3,List.append_assoc];rfl
theorem xq(hk:[923])(hs:Array Int)(hf:[82,hs.size]):∃o,layClean t.mask hs=some o/\LI t hs.toList o:=by
 obtain⟨o,h1,h2⟩:=Bb (t:=t) hk hs.toList [] _ LI.nil (by simpa using hf);refine⟨o,?_,[188]⟩;have e:layClean t.mask hs=[1282].map [44]:=by
  rw[Array.foldl_toList];rfl
 rw[e];have h1:[1282]=_:=h1;rw[h1];rfl
end
theorem BR {t:SetTable} {es:[234,Int]} {wanted:Nat}(hm:[548] -1∈oR)(hf:es.length*5<([548] -1)*3):∃t' order,t.relaid [724] wanted=[11,t',order]/\t'.led=t.led/\t'.plain=t.plain/\(order.filterMap [884]).toList.Perm es/\TI t' (order.filterMap [884]).toList:=by
 generalize hM:sizeAbove wanted - 1=M at hm hf;have tM:([524]:SetTable).mask=M:=rfl;obtain⟨o,h1,L⟩:=xq (t:=[524]) (Bn hm) [724] (by simp[tM];omega);have h1:[3,layClean M [724]]:=h1;have hsz:o.size=M+1:=L.size;let live:[136]:=(List.range (M+1)).filterMap λj=>(o.getD j none).map (j,·);have pW:∀j k,(j,k)∈live↔own o j k:=λj k=>by
  show(j,k)∈List.filterMap _ _↔_;rw[List.mem_filterMap];constructor
  ·rintro⟨a,ha,hb⟩;have ha:=List.mem_range.mp ha;have ez:a<o.size:=[2];have e:=[209];have eg:o.getD a none=o[a]:=by simp[Array.getD,ez]
   rw[eg] at hb;cases hv:o[a] with
    |none=>
     rw[hv] at hb;cases hb
    |some k'=>
     rw[hv] at hb;obtain⟨rfl,rfl⟩:a=j/\k'=k:=[96];show o[a]? =_;rw[e,hv]
  ·intro h;have h:o[j]? =some (some k):=h;have ez:=[277,h];have e:=[209];have eg:o.getD j none=o[j]:=by simp[Array.getD,ez]
   rw[e] at h;rw[6,j,[1131]];rw[eg,[539]];rfl
 have Y3:[453].Pairwise (·<·):=by
  rw[List.pairwise_map];show List.Pairwise _ (List.filterMap _ _);rw[List.pairwise_filterMap];refine List.Pairwise.imp ?_ (List.pairwise_lt_range (n:=M+1));intro a b Fi x hx y hy;cases ha:o.getD a none with
   |none=>
    rw[ha] at hx;cases hx
   |some ka=>cases hb:o.getD b none with
    |none=>
     rw[hb] at hy;cases hy
    |some kb=>
     rw[ha] at hx;rw[hb] at hy;cases hx;cases hy;exact Fi
 have hlk:∀x,x∈live->x.2<es.length:=λx hx=>by rw[33,L.lt _ _ [1015]]
 have xa:[365].Nodup:=by
  rw[List.Nodup,List.pairwise_map];have hup':=List.pairwise_map.mp Y3;refine[360,hup'];intro x y hx hy Ob e;have a:=[1015];have b:=(pW y.1 y.2).mp hy;rw[<-e] at b;rw[0,L.uni _ _ _ a b]
 have Fs:[365].Perm (List.range es.length):=by
  rw[List.perm_ext_iff_of_nodup xa List.nodup_range];intro k;rw[List.mem_range,List.mem_map];constructor
  ·rintro⟨x,hx,rfl⟩;exact hlk x hx
  ·intro hk;have e:[2,[1140],k,es[k].1]:=by simp[List.getElem?_eq_getElem hk]
   obtain⟨j,n,h3,_⟩:=L.at_ k _ e;rw[0,(j,k),(pW j k).mpr h3,rfl]
 let t':SetTable:={mask:=M,place:=[453].toArray,dummies:= #[],finger:=t.finger,led:=t.led,moves:=t.movedTo M,plain:=t.plain};have hrel:t.relaid [724] wanted=some (t',[365].toArray):=by
  unfold SetTable.relaid SetTable.laid;rw[hM,h1];rfl
 have NZ:(([365].toArray).filterMap [884]).toList=[365].filterMap [414]:=by
  rw[Array.toList_filterMap];simp
 have AX:([365].filterMap [414]).Perm es:=by
  have:=Fs.filterMap [414];rw[List.filterMap_getElem?_range_length] at this;rw[13]
 refine⟨t',[365].toArray,hrel,rfl,rfl,by rw[NZ];exact AX,?_⟩;rw[NZ];have hzip:∀(l:[136]),(∀x∈l,x.2<es.length)->(l.map (·.2)).filterMap [414]=l.map λx=>[263,x.2]:=λl=>by induction l with
  |nil=>
   intro _;rfl
  |cons x l ih=>
   intro hl;have hx:=hl x List.mem_cons_self;rw[List.map_cons,List.filterMap_cons,List.map_cons,ih λy hy=>hl y [19,hy],List.getElem?_eq_getElem hx];rfl
 have e1:=hzip live hlk;have hlen:live.length=es.length:=by rw[33,Fs.length_eq]
 refine⟨hm,rfl,?_,?_,?_,?_,?_⟩
 ·show List.Pairwise _ _;simpa [t'] using Y3
 ·show[453].toArray.size=_;rw[e1];simp
 ·intro j hj;have hj:j∈[453]:=by simpa [t'] using hj
  obtain⟨x,hx,rfl⟩:=List.mem_map.mp hj;have:=[1015];have ez:=[277,this];show x.1<=M;omega
 ·rw[e1,List.length_map,hlen];exact hf
 ·intro x hx;rw[e1] at hx;have hx:x∈[453].zip (live.map λx=>[263,x.2]):=hx;rw[List.zip_map'] at hx;rw[40,hx];have hown:=(pW y.1 y.2).mp hy;have ez:=hlk y hy;have ee:[263,y.2]=es[y.2]:=by
   rw[[912]];rfl
  have e2:[2,[1140],y.2,es[y.2].1]:=by simp[[912]]
  obtain⟨j,n,g1,g2,g3⟩:=L.at_ _ _ e2;have ej:=L.uni _ _ _ g1 hown;subst ej;refine⟨n,?_,λm DC=> ?_⟩
  ·show[454,n]=y.1;rw[ee,kU (t':=t') (t:=[524]) rfl,[1270]];exact g2
  ·show[454,m]∈_;rw[ee,kU (t':=t') (t:=[524]) rfl,[1270]];obtain⟨k',ko⟩:=g3 m DC;have:(_,k')∈live:=(pW _ _).mpr ko;show _∈[453].toArray.toList;rw[List.toList_toArray];exact List.mem_map.mpr [36,this]
end
section
variable {Q:[26,Bool]}
abbrev TK(prog:Program)(w:World)(h:Heap)(ks:[26])(a:Addr):Prop:=IsTupleKey [127] h ks a
abbrev qU(prog:Program)(w:World)(ks:[26]):Int:=tupleKeyHash [127] ks
def zi(prog:Program)(w:World)(x:[26]×Addr):Int×Value:=(qU prog w x.1,.ref x.2)
def Gs(w:World):Bool:=[855]
def oj(prog:Program)(w:World)(h:Heap)(a:Addr)(xs:[85]):Prop:=[447,o.data= .set es ep t/\[367]/\t.plain=true/\[476]/\es.toList=xs.map (zi prog w)/\(∀x∈xs,TK prog w h x.1 x.2)/\[671]]
theorem TI.u6 {t:SetTable} {es:[223]}(T:[367]):t.fits es.size=true:=by
 obtain⟨h1,h2⟩:=T.fits;unfold SetTable.fits;rw[Array.length_toList] at h1;simp[h1,h2]
section
variable {prog:Program} {w:World} {A:Around} {E:[27]} {s:Shared} {a x:Addr} {k:[26]}
theorem TK.ints {ks:[26]} {vs:[6]}(h:ItemsAre [127] ks vs):∀v∈vs,∃n t,v= .int n t:=by induction h with
 |nil=>
  intro v hv;cases hv
 | @cons k v' ks vs h1 _ ih=>
  intro v hv;rcases List.mem_cons.mp hv with rfl|hv
  ·cases v<;>first|exact[36,_]|exact absurd h1 (by simp[PySem.intKind,Value.isInt])
  ·exact ih v hv
theorem yw(hk:TK prog w s.heap k x)(h:Q false s):wpAny (model prog w) A (ofAClassStatement 8 (.ref x)) Q E s:=by
 have hT:=hk.typeIs;obtain⟨o,items,n,ho,_,hd,hi⟩:=hk;unfold ofAClassStatement;refine wpAny_bind (wpAny_typeOf hT ?_);show wpAny _ _ (do let Ui <-(if("tuple"== "tuple")=true then pure true else isSubtype (.type "tuple") (.type "tuple"));_) Q E s;rw[if_pos (by decide)];refine wpAny_bind (wpAny_pure ?_);simp only[Bool.not_true,Bool.false_eq_true,if_false];refine wpAny_bind (wpAny_seqItems ho hd ?_);dsimp only;refine wpAny_bind ?_;rw[<-Array.forIn_toList];refine wpAny_forIn_list _ (λrest r s'=>r.1=none/\s'=s/\∀v∈rest,∃n t,v= .int n t) _ ?_ ?_ _ _ ⟨rfl,rfl,TK.ints hi⟩
 ·rintro v rest r s' ⟨hr,rfl,eF⟩;obtain⟨n,t,rfl⟩:=eF v List.mem_cons_self;have e:ofAClassStatement 7 (.int n t)=pure false:=by unfold ofAClassStatement;rfl
  refine wpAny_bind (wpAny_of_eq e ?_);simp only[Bool.false_eq_true,if_false];exact wpAny_pure ⟨rfl,rfl,λu N7=>eF u (List.mem_cons_of_mem _ N7)⟩
 ·rintro⟨r1,r2⟩ s' ⟨hr,rfl,_⟩;simp only at hr;subst hr;exact wpAny_pure h
theorem Ja(hk:[711])(h:Q true s):[21,hashByValue 8 [54]]:=by
 have hT:=hk.typeIs;obtain⟨o,items,n,ho,_,hd,hi⟩:=hk;unfold hashByValue;rw[94];dsimp only;rw[13,wpAny_seqItems ho hd ?_,[78]];show wpAny _ _ (forIn items _ _) _ _ s;rw[<-Array.forIn_toList];refine[128,∃n t,v= .int n t,TK.ints hi]
 ·rintro v rest r s' ⟨hr,rfl,eF⟩;obtain⟨n,t,rfl⟩:=[947];have e:hashByValue 7 (.int n t)=pure true:=by
   unfold hashByValue;rfl
  rw[36,wpAny_of_eq e ?_];rw[15,[62,[769]]]
 ·rw[73]
theorem Uj(hk:[711]) {ys:[6]}(hy:∀v∈ys,[1243])(h:Q false s):[21,searchCouldBeSeen [54] ys]:=by
 unfold searchCouldBeSeen;rw[1,[78],[128,[1243],hy]]
 ·rintro v rest r s' ⟨hr,rfl,eF⟩;obtain⟨k',b,rfl,hb⟩:=[947];have nx:∀u∈rest,∃k' b,u=[25]/\TK prog w s'.heap k' b:=[769];dsimp only;by_cases hv:(x==b||(carriedByValue [54]&&carriedByValue [25]))=true
  ·rw[0,if_pos hv,wpAny_pure [62,nx]]
  ·rw[16,hv];rw[36,wpAny_eqIsQuiet_tuple hk ?_];rw[36,wpAny_eqIsQuiet_tuple hb ?_];rw[1,yw hk ?_];simp only[Bool.false_eq_true,if_false];rw[1,yw hb ?_];simp only[Bool.false_eq_true,if_false];rw[15,[62,nx]]
 ·rw[73]
theorem Pg(t:SetTable):t.sameMemory t.moves t.mask=some true:=by
 unfold SetTable.sameMemory;simp
theorem search {Q:SetFound->Shared->Prop} {o:Obj} {es:Array (Int×Value)} {ep:Nat} {t:SetTable} {xs:List (List Int×Addr)}(hu:A.units<cLine)(ho:s.heap.get? a=some o)(hd:o.data= .set es ep t)(T:TI t es.toList)
 (he:es.toList=xs.map (zi prog w))(hx:∀x∈xs,TK prog w s.heap x.1 x.2)(hk:TK prog w s.heap k x)
 (q1:k∈xs.map (·.1)->Q (.there none) s)
 (q2:∀j n,k∉xs.map (·.1)->t.slot j= .empty->(jg t n (t.probeStart (qU prog w k))).j=j->(∀m,m<n->(jg t m (t.probeStart (qU prog w k))).j∈t.place.toList)->Q (.free j false) s):
 ∀(r fuel n:Nat) (Mf:Option Probe),r<fuel->Mf.getD (t.probeStart (qU prog w k))=jg t n (t.probeStart (qU prog w k))->t.slot (jg t (n+r) (t.probeStart (qU prog w k))).j= .empty->
  (∀m,m<n->∃i z,t.slot (jg t m (t.probeStart (qU prog w k))).j= .live i/\xs[i]? =some z/\z.1≠k)->r<=10*(13+t.mask)->
  wpAny (model prog w) A (setSearchFrom a (.ref x) (qU prog w k) true fuel Mf) Q E s:=by
 have pN:=T.u6;have U6:es.size=xs.length:=by rw[<-Array.length_toList,he,List.length_map]
 have pW:∀i j,t.slot j= .live i->∃z,xs[i]? =some z/\es[i]? =some (zi prog w z)/\t.place.toList[i]? =some j:=λi j h=>by
  have h1:=yK T.dm h
  have hi:i<xs.length:=by
   have:=(Array.getElem?_eq_some_iff.mp h1).1;have:=T.len;rw[Array.length_toList] at this;omega
  refine⟨xs[i],List.getElem?_eq_getElem hi,?_,by rw[Array.getElem?_toList];exact h1⟩;rw[<-Array.getElem?_toList,he,List.getElem?_map,List.getElem?_eq_getElem hi];rfl
 intro r
 induction r using Nat.strongRecOn with
 |_ r ih=>
  intro fuel n Mf hf vg hem hpa hr;obtain⟨fuel,rfl⟩:∃f,fuel=f+1:=⟨fuel - 1,by omega⟩;unfold setSearchFrom;refine wpAny_bind (wpAny_setState_of ho hd pN ?_);dsimp only;rw[T.odd];simp only[Bool.false_eq_true,if_false];rw[vg];obtain⟨m,Sr,Kl,hm3⟩:=BO (t:=t) T.dm (λi=>(es[i]?.map (·.1)).getD 0) (qU prog w k) (10*turns t.mask) r (jg t n (t.probeStart (qU prog w k))) (by unfold turns;omega) (by rw[<-kx];exact hem)
  have ha:∀i z,xs[i]? =some z->(λi:Nat=>(es[i]?.map (·.1)).getD 0) i=qU prog w z.1:=λi z hz=>by
   have:es[i]? =some (zi prog w z):=by rw[<-Array.getElem?_toList,he,List.getElem?_map,hz];rfl
   show(es[i]?.map (·.1)).getD 0=_;rw[this];rfl
  have Kt:∀m',m'<n+m->∃i z,t.slot (jg t m' (t.probeStart (qU prog w k))).j= .live i/\xs[i]? =some z/\z.1≠k:=λm' DC=>by
   rcases Nat.lt_or_ge m' n with h|h
   ·exact hpa m' h
   ·obtain⟨i,h1,h2⟩:=Kl (m' - n) (by omega);rw[<-kx,show n+(m' - n)=m' by omega] at h1;obtain⟨z,hz,_⟩:=pW _ _ h1;refine⟨i,z,h1,hz,λe=>h2 ?_⟩;rw[<-e];exact ha i z hz
  rcases hm3 with⟨h1,h2⟩|⟨i,h0,h1,h2,h3⟩
  ·split
   case h_2 Ag=>exact(Ag _ h1).elim
   case h_1 met Su=>
   obtain rfl:=Option.some.inj (Su.symm.trans h1);rw[ET];dsimp only;refine wpAny_pure ?_;rw[<-kx] at h2 ⊢;refine q2 _ (n+m) (λoJ=> ?_) h2 rfl λm' DC=> ?_
   ·obtain⟨z,hz,e⟩:=List.mem_map.mp oJ;obtain⟨i,hi⟩:=List.mem_iff_getElem?.mp hz
    have Yz:i<t.place.toList.length:=by
     have h5:=(List.getElem?_eq_some_iff.mp hi).1;have:=T.len;rw[Array.length_toList] at this ⊢;omega
    have hpi:=List.getElem?_eq_getElem Yz;have hei:es.toList[i]? =some (zi prog w z):=by rw[he,List.getElem?_map,hi];rfl
    obtain⟨q,g1,g2⟩:=T.path _ (Ae hpi hei);have g1:(jg t q (t.probeStart (qU prog w z.1))).j=_:=g1;have g2:∀m,m<q->(jg t m (t.probeStart (qU prog w z.1))).j∈t.place.toList:=g2;rw[e] at g1 g2;rcases Nat.lt_or_ge q (n+m) with hq|hq
    ·obtain⟨i',z',s1,s2,s3⟩:=Kt q hq;have hs:=slot_of T.dm T.up (i:=i) (j:=t.place.toList[i]) (by rw[<-Array.getElem?_toList];exact hpi);rw[g1,hs] at s1
     cases s1
     rw[hi] at s2
     cases s2
     exact s3 e
    ·rcases Nat.lt_or_ge (n+m) q with hq2|hq2
     ·exact wB T.dm T.up h2 (g2 _ hq2)
     ·have:q=n+m:=by omega
      subst this;have hs:=slot_of T.dm T.up (i:=i) (j:=t.place.toList[i]) (by rw[<-Array.getElem?_toList];exact hpi);rw[g1,hs] at h2
      cases h2
   ·obtain⟨i,z,s1,_,_⟩:=Kt m' DC;exact slot_mem T.dm s1
  ·split
   case h_2 Ag=>exact(Ag _ h1).elim
   case h_1 met Su=>
   obtain rfl:=Option.some.inj (Su.symm.trans h1);dsimp only;obtain⟨z,hz,hzi,hzp⟩:=pW i _ h2;have hzk:TK prog w s.heap z.1 z.2:=hx z (List.mem_of_getElem? hz)
   have main:wpAny (model prog w) A (do
    let some (_,y):=es[i]? |unsupported "internal:set-entry"
    let equal <-holding [y] (eqBool y (.ref x))
    let(uo,_,t') <-setState a
    if true&&equal then return .there none
    let some same:=t'.sameMemory t.moves t.mask|unsupported "set.changed-during-lookup:is-the-new-block-at-the-old-address"
    let Mh <-match(if same then t'.slot (jg t m (jg t n (t.probeStart (qU prog w k)))).j else .empty) with
     | .live i'=>match uo[i']? with
       |some (_,y')=>do pure (if <-isSame y' y then some i' else none)
       |none=>pure none
     |_=>pure none
    match Mh with
    |none=>rule "set.search.anew";setSearchFrom a (.ref x) (qU prog w k) true fuel none
    |some i'=>if equal then return .there (some i') else setSearchFrom a (.ref x) (qU prog w k) true fuel (some (jg t (m+1) (jg t n (t.probeStart (qU prog w k)))))) Q E s:=by
    rw[hzi];dsimp only[zi];refine wpAny_bind (wpAny_holding (wpAny_eqBool_tuple hu hzk hk ?_));refine wpAny_bind (wpAny_setState_of ho hd pN ?_);dsimp only;by_cases Oc:z.1=k
    ·rw[decide_eq_true Oc];simp only[Bool.and_self,if_true];exact wpAny_pure (q1 (List.mem_map.mpr ⟨z,List.mem_of_getElem? hz,Oc⟩))
    ·rw[decide_eq_false Oc];simp only[Bool.and_false,Bool.false_eq_true,if_false];rw[Pg];dsimp only;rw[if_pos rfl,h2];dsimp only;rw[hzi];dsimp only[zi];refine wpAny_bind (wpAny_isSame_ref_self (wpAny_bind (wpAny_pure ?_)));simp only[if_true];refine ih (r - (m+1)) (by omega) fuel (n+m+1) _ (by omega) ?_ ?_ ?_ (by omega)
     ·show jg t (m+1) (jg t n _)=_;rw[<-kx];rfl
     ·rw[show n+m+1+(r - (m+1))=n+r by omega];exact hem
     ·intro m' DC;rcases Nat.lt_or_ge m' (n+m) with h|h
      ·exact Kt m' h
      ·have:m'=n+m:=by omega
       subst this;rw[<-kx] at h2;exact⟨i,z,h2,hz,Oc⟩
   cases mn:t.led with
   |true=>
    simp only[mn,Bool.not_true,Bool.false_eq_true,if_false];exact main
   |false=>
    simp only[mn,Bool.not_false,if_true];refine wpAny_bind (Uj hk (λv hv=> ?_) ?_)
    ·obtain⟨e,he1,rfl⟩:=List.mem_map.mp hv;rw[Array.toList_filter] at he1;have he2:=(List.mem_filter.mp he1).1;rw[he] at he2;obtain⟨z',hz',rfl⟩:=List.mem_map.mp he2;exact⟨z'.1,z'.2,rfl,hx z' hz'⟩
    ·simp only[Bool.false_eq_true,if_false];exact main
end
end
section
variable {o:Obj} {es:[223]} {ep:Nat} {Q:[26,Bool]}
theorem kE {α β:Type} {f:α->β} {l m:[286]}(h:l.Perm m):∀ {xs:[34]},m=xs.map f->∃ys:[34],l=ys.map f/\ys.Perm xs:=by induction h with
 |nil=>
  intro xs e;cases xs with|nil=>rw[0,[],rfl,.nil]|cons _ _=>cases e
 |cons a _ ih=>
  intro xs e;cases xs with
   |nil=>cases e
   |cons x xs=>
    rw[List.map_cons] at e;injection e with e1 e2;obtain⟨ys,h1,h2⟩:=ih e2;rw[0,x::ys,(by rw[List.map_cons,h1,e1]),h2.cons x]
 |swap a b l=>
  intro xs e;cases xs with
   |nil=>cases e
   |cons x xs=>cases xs with
    |nil=>simp at e
    |cons y xs=>
     rw[List.map_cons,List.map_cons] at e;injection e with e1 e2;injection e2 with e2 e3;rw[0,y::x::xs,(by rw[List.map_cons,List.map_cons,e1,e2,e3]),.swap _ _ _]
 |trans _ _ ih1 ih2=>
  intro xs e;obtain⟨ys,h1,h2⟩:=ih2 e;obtain⟨zs,h3,h4⟩:=ih1 h1;rw[0,zs,h3,h4.trans h2]
theorem grow {mask n:Nat}(hm:mask∈oR)(h1:n*5<mask*3)(h2:mask*3<=(n+1)*5)(h3:n+1<=4914):[948] -1∈oR/\(n+1)*5<([948] -1)*3/\[948]<=8192:=by
 simp only[oR,List.mem_cons,List.not_mem_nil,or_false] at hm;rcases hm with rfl|rfl|rfl|rfl|rfl|rfl
 ·rw[41,4]
 ·rw[41,18]
 ·rw[41,76]
 ·rw[41,306]
 ·rw[41,1228]
 ·omega
section
variable {prog:Program} {w:World} {A:Around} {E:[27]} {s:Shared} {a x:Addr} {k:[26]} {xs:[85]}
theorem TK.QE {h h':Heap} {t:SetTable}(hk:[220,h])(ho:[446])(hd:[306])(hs:Heap.SameBut a h h'):[220,h']:=by
 obtain⟨o',items,n,qL,hc,Dx,hi⟩:=hk;have gx:x≠a:=by
  rintro rfl;obtain rfl:o'=o:=Option.some.inj (qL.symm.trans ho);rw[hd] at Dx;exact nomatch Dx
 exact⟨o',items,n,(hs.2 x gx).trans qL,hc,Dx,hi⟩
theorem FU {h:Heap} {t:SetTable}(ho:[446])(hd:[306])(uo:[223])(t':SetTable):(h.update a [949]).get? a=some {o with data:= .set uo (ep+1) t'}:=by
 have:=Heap.get?_update_self [949] ho (by rw[putSet_of uo t' hd];rfl);rw[putSet_of uo t' hd] at this;rw[13]
theorem ZQ {Q:[26,Unit]} {t:SetTable} {wanted:Nat}(ho:[465])(hd:[306])(hf:t.fits es.size=true)(hm:[548] -1∈oR) (hl:es.size*5<([548] -1)*3)(hw:[548]<=8192) (q:∀uo t',t'.led=t.led->t'.plain=t.plain->uo.toList.Perm es.toList->TI t' uo.toList->Q () {s with heap:=s.heap.update a [949]}):[21,setRelay a wanted]:=by
 obtain⟨t',order,h1,h2,h3,h4,h5⟩:=BR (t:=t) (es:=es.toList) (wanted:=wanted) hm (by rw[Array.length_toList];exact hl);rw[Array.toArray_toList] at h4 h5;have e:(es.toList.map [44]).toArray=es.map [44]:=by rw[<-Array.toList_map]
 rw[e] at h1;have hsz:[1214]=es.size:=by rw[<-Array.length_toList,h4.length_eq,Array.length_toList]
 have NZ:es.size<=8192:=[2];unfold setRelay;rw[1,[208,hf]];dsimp only;rw[if_neg (by rw[sizeLine_eq];omega)];rw[h1];refine[78];show wpAny _ _ ([5,([1214] !=es.size),unsupported "internal:set-table-lost-an-element",pure (order.filterMap [414],t')]) _ E s;rw[if_neg (by rw[hsz];simp)];rw[4,[51],wpAny_storeSet_of ho hd (q _ _ h2 h3 h4 h5) (by rw[hsz,sizeLine_eq];omega)]
theorem CZ(hu:A.units<cLine)(hS:[630])(hk:[711])(hl:[720]\/[232]) (q:∀b h' xH,[164,a]->oj prog w h' a xH->([1333])->Q b [125]):[21,setAddHashed a [54] [502]]:=by
 obtain⟨o,es,ep,t,ho,hex,hd,T,bQ,mn,he,hx,xa⟩:=id hS;have pN:=T.u6;have U6:es.size=xs.length:=by rw[<-Array.length_toList,he,List.length_map]
 unfold setAddHashed setAddHashedIn;rw[24,[359,[208,pN]]];rw[[66,byScan [54] es,rfl]];simp only[Bool.false_eq_true,if_false];refine[78];obtain⟨r,jx,og⟩:=T.ahead (t.probeStart [502]) (Ew _ _) (Cd _ _);have DD:=(pG T.mask).1;refine search (k:=k) (xs:=xs) hu ho hd T he hx hk (λoJ=> ?_) (λj n Ag hj hn hp=> ?_) r 100000 0 none [2] rfl (by rw[Nat.zero_add];exact og) (λm hm=>[201,hm]) jx
 ·dsimp only;refine[51];have:=q false s.heap xs (Heap.SameBut.refl a s.heap) hS (by rw[17,oJ]);rw[13]
 ·dsimp only;have Qw:[720]:=hl.elim id [190,Ag];rw[1,[208,pN]];dsimp only;have oK:[91].plain=true:=bQ;rw[oK];simp only[if_true];rw[1,Ja hk ?_];simp only[if_true];have hjm:[82,j]:=by
   rw[<-hn];exact j_le t _ n
  have Sn:[389].toList=es.toList.take [202]++([502],Value.ref x)::es.toList.drop [202]:=[1269];have so:[202]<=es.size:=by
   have:=(jD T.up j).1;have h2:=T.len;rw[Array.length_toList] at h2;show[159]<=es.size;omega
  have So:[389].size=es.size+1:=by
   rw[<-Array.length_toList,Sn];rw[109]
  have YT:[91].place.size=es.size+1:=by
   show(SetTable.insertAt t.place [159] j).size=_;have h2:=T.len;have h3:=(jD T.up j).1;rw[Array.length_toList] at h2;rw[<-Array.length_toList,SetTable.toList_insertAt];rw[109]
  have hpdm:[91].dummies= #[]:=by
   show[1234]=_;rw[T.dm,uw];rfl
  have AX:[91].mask=t.mask:=rfl;have hxs:[389].toList=[1284].map (zi prog w):=by
   rw[Sn,he,List.map_append,List.map_cons,List.map_take,List.map_drop];rfl
  have Fs:[1284].Perm ((k,x)::xs):=by
   refine List.perm_middle.trans ?_;rw[List.take_append_drop]
  have Qu:=T.full;rw[Array.length_toList] at Qu;have sb1:=Heap.SameBut.update s.heap a (Obj.putSet [389] [91]);rw[1,wpAny_storeSet_of ho hd ?_ (by rw[So,sizeLine_eq];omega)];have UY:=FU ho hd [389] [91];have fin:∀(h':Heap) (uo:[223]) (Ry:Nat) (t':SetTable),[164,a]->[540]=some {o with data:= .set uo Ry t'}->t'.led=t.led->t'.plain=true->TI t' uo.toList->uo.toList.Perm [389].toList->Q true [125]:=λh' uo Ry t' sb hg CJ xo hTI hpe=>by
   obtain⟨ys,U7,Y9⟩:=kE hpe hxs;have hy3:=Y9.trans Fs;refine q true h' ys sb ⟨_,uo,Ry,t',hg,hex,rfl,hTI,xo,CJ.trans mn,U7,λz hz=> ?_,?_⟩ (by rw[0,if_neg Ag,hy3])
   ·rcases List.mem_cons.mp (hy3.mem_iff.mp hz) with rfl|hz;rw[2,hk.QE ho hd sb,(hx z hz).QE ho hd sb]
   ·have:=(hy3.map [44]).nodup_iff.mpr (by rw[List.map_cons];exact List.nodup_cons.mpr ⟨Ag,xa⟩);rw[13]
  have Kf:[91].fill=es.size+1:=by
   unfold SetTable.fill;rw[YT,hpdm];rfl
  by_cases Qt:t.mask*3<=(es.size+1)*5
  ·have htf:[91].tooFull=true:=by
    unfold SetTable.tooFull;rw[Kf,AX];exact decide_eq_true Qt
   rw[htf];simp only[Bool.not_false,Bool.and_self,if_true];obtain⟨g1,g2,g3⟩:=grow T.mask (n:=es.size) Qu Qt [2];refine wpAny_bind (ZQ (o:={o with data:= .set [389] (ep+1) [91]}) (ep:=ep+1) UY rfl ?_ g1 (by rw[So];exact g2) g3 λuo t' e1 e2 e3 e4=>[51])
   ·unfold SetTable.fits;rw[So,YT,Kf,AX];have:[82,es.size+1]:=[2];simp[this]
   ·refine fin _ uo (ep+1+1) t' (sb1.trans [385,a]) (FU UY rfl uo t') e1 (e2.trans oK) e4 e3
  ·have htf:[8,[91].tooFull]:=by
    unfold SetTable.tooFull;rw[Kf,AX];exact decide_eq_false Qt
   rw[htf];simp only[Bool.and_false,Bool.false_eq_true,if_false];refine[51];have hTI:=(T.put (x:=([502],Value.ref x)) (pl:=true) hj hjm hn hp (by rw[Array.length_toList];omega)).2;have et:({[91] with plain:=true}:SetTable)=[91]:=by
    have:[91].plain=true:=oK;cases h:(t.put j).1;rw[h] at this;cases this;rfl
   rw[et] at hTI;exact fin _ _ (ep+1) _ sb1 UY rfl oK (by rw[Sn];exact hTI) (List.Perm.refl _)
theorem Na(hu:A.units<cLine)(hS:[630])(hk:[711])(hl:[720]\/[232]) (q:∀b h' tk xH,s.toks<=tk->[164,a]->oj prog w h' a xH->([1333])->Q b [220]):[21,setAdd a [54]]:=by
 unfold setAdd;rw[4,[359,wpAny_pyHash_tuple hu hk ?_],CZ (s:={s with toks:=s.toks+(k.length+1)}) hu hS hk hl λb h' xH h1 h2 h3=>q b h' _ xH [230,_] h1 h2 h3]
end
end
section
theorem TK.move {prog:Program} {w:World} {h h':Heap} {k:[26]} {x:Addr}(hk:[220,h])(m:[142,x,x]):[220,h']:=by
 obtain⟨o',items,n,qL,hc,Dx,hi⟩:=hk;exact⟨o',items,n,m _ qL,hc,Dx,hi⟩
section
variable {prog:Program} {w:World} {A:Around} {R:[691]} {I:Addr} {fp wr:[14]} {G:[4,[839],[839]]} {n:Nat} {P:[4,Nat,Value]} {St:[26,Nat]}
theorem oj.move {h h':Heap} {S:Addr} {xs:[85]}(hS:oj prog w h S xs)(m:[142,S,S])(mx:∀x∈xs,[142,x.2,x.2]):oj prog w h' S xs:=by
 obtain⟨o,es,ep,t,ho,hex,hd,T,bQ,mn,he,hx,xa⟩:=hS;exact⟨o,es,ep,t,m _ ho,hex,hd,T,bQ,mn,he,λx Oa=>(hx x Oa).move (mx x Oa),xa⟩
structure Got(prog:Program)(w:World)(S:Addr)(P:Nat->Value->Prop)(val:Nat->List Int)(i:Nat)(s:Shared)(xs:List (List Int×Addr)):Prop where
 set:oj prog w s.heap S xs
 src:∀x∈xs,∃j,P j (.ref x.2)
 mem:∀k,k∈xs.map (·.1)↔∃j,j<i/\val j=k
theorem MA(W:WalksS prog w A.in1 I fp wr G n P St)(S:Addr)(UO:S∉fp)(hu:A.units+2<cLine)(val:Nat->[26]) (AZ:∀i v,P i v->[140,b∉S::wr])(hb:∀l:List [26],l.Nodup->(∀k∈l,∃j,j<n/\val j=k)->l.length<=4914):∀(k i:Nat) (s:Shared) (xs:[85]),n -i=k->i<=n->St i s->[494,s.heap]->[313,s]->(∀s' xH,Moved (S::wr) G s s'->Got prog w S P val n s' xH->R (.ok (.ret .none)) s')->[379,.builtin "set.update.loop" [49,[12,S,.ref I]]]:=by
 have hSw:S∉wr:=λh=>UO (W.sub _ h);have Hl:∀b∈wr,b∈S::wr:=[897];have off:∀ {s:Shared} {xs i},[313,s]->∀x∈xs,x.2∉S::wr:=λ {s xs i} g x hx=>by
  obtain⟨j,hj⟩:=g.src x hx;obtain⟨b,e,hb⟩:=AZ j _ hj;cases e;exact hb
 have hmv:∀ {s s':Shared} {xs i},Moved wr G s s'->[313,s]->[313,s']:=λ {s s' xs i} m g=>⟨g.set.move (λo e=>m.heap _ _ hSw e) (λx hx o e=>m.heap _ _ (λz=>off g x hx (Hl _ z)) e),g.src,g.mem⟩;intro k;induction k with
  |zero=>
   intro i s xs hk hi vg hT hS hR;have qj:i=n:=[2];subst qj;rw[52,W.done s _ _ vg λs' hm=> ?_];show wpAny _ A.in1 (ret Value.none) _ _ s';exact wpAny_pure (hR s' xs (hm.mono Hl) (hmv hm hS))
  |succ k ih=>
   intro i s xs hk hi vg hT hS hR;have ez:i<n:=[2];rw[52,W.item i s _ _ ez vg λv s' hP vh hm=> ?_];obtain⟨b,rfl,hbo⟩:=AZ i v hP;have Yg:[494,s'.heap]:=λi b hp=>(hT i b hp).move λo e=>by
    obtain⟨b',e',xY⟩:=AZ i _ hp;cases e';exact hm.heap _ _ (λz=>xY (Hl _ z)) e
   have uv:=hmv hm hS;show wpAny _ A.in1 (holding [[547]] (setAdd S [25])>>=_) _ _ s';rw[1,[854]];have Qw:[720]\/val i∈[200]:=by
    rcases Classical.em (val i∈xs.map (·.1)) with z|z
    ·exact .inr z
    ·obtain⟨_,_,_,_,_,_,_,_,_,_,_,_,xa⟩:=hS.set;have:=hb (val i::[200]) (List.nodup_cons.mpr ⟨z,xa⟩) (λk' ko=>by rcases List.mem_cons.mp ko with rfl|ko;(·exact⟨i,ez,rfl⟩);·obtain⟨j,h1,h2⟩:=(hS.mem k').mp ko;rw[0,j,[2],h2]);rw[List.length_cons,List.length_map] at this;exact .inl this
   refine Na (by show[265];omega) uv.set (Yg i b hP) Qw λbb h' tk xH AY hsb Ye AN=> ?_;have hG:Got prog w S P val (i+1) {s' with heap:=h',toks:=tk} xH:=by
    by_cases oJ:val i∈[200]
    ·rw[if_pos oJ] at AN;subst AN;refine⟨Ye,hS.src,λk'=>(hS.mem k').trans ⟨λ⟨j,h1,h2⟩=>⟨j,[2],h2⟩,λ⟨j,h1,h2⟩=> ?_⟩⟩;rcases Nat.lt_or_ge j i with h|h
     ·exact⟨j,h,h2⟩
     ·have:j=i:=[2];subst this;rw[<-h2];exact(hS.mem _).mp oJ
    ·rw[if_neg oJ] at AN;refine⟨Ye,λy hy=> ?_,λk'=> ?_⟩
     ·rcases List.mem_cons.mp (AN.mem_iff.mp hy) with rfl|hy;rw[2,⟨i,hP⟩,hS.src y hy]
     ·rw[(AN.map [44]).mem_iff,List.map_cons,List.mem_cons,hS.mem];constructor
      ·rintro(rfl|⟨j,h1,h2⟩);rw[2,⟨i,[2],rfl⟩,⟨j,[2],h2⟩]
      ·rintro⟨j,h1,h2⟩;rcases Nat.lt_or_ge j i with h|h
       ·exact .inr ⟨j,h,h2⟩
       ·have:j=i:=[2];subst this;exact .inl h2.symm
   refine[124,PyProof.Rows.F.plain_set_update_loop,ih (i+1) _ xH [2] ez (W.frame _ s' _ _ vh AY λb hb o e=> ?_) (λi b hp=> ?_) hG λZS xs'' hm'' hS''=> ?_]
   ·rw[0,hsb.2 b (λh:b=S=>UO (by rw[<-h];exact hb)),e]
   ·obtain⟨b',e',xY⟩:=AZ i _ hp;cases e';exact(Yg i b hp).move λo e=>(hsb.2 b (λh=>xY (by rw[h];exact List.mem_cons_self))).trans e
   ·refine hR ZS xs'' (Moved.trans W.gtrans ((hm.mono Hl).then_heap AY λb o hb e=> ?_) hm'') hS'';rw[0,hsb.2 b (λh:b=S=>hb (by rw[h];exact List.mem_cons_self)),e]
end
section
variable {prog:Program} {w:World} {A:Around} {E:[27]} {s:Shared}
abbrev sO(w:World):Obj:={cls:=[350],dict:=none,data:= .set #[] 0 (.fresh 0 0 (! Gs w))}
theorem oj.fresh(h:Heap):oj prog w (h.push (sO w)) h.objs.size []:=⟨_,#[],0,_,[108],[62,rfl],rfl,JI _,rfl,rfl,rfl,[679],List.nodup_nil⟩
theorem Jf(a:Value) {Q₁:Value->Shared->Prop}
 (h:Q₁ (.ref s.heap.objs.size) {s with heap:=s.heap.push (sO w)}):
 codeAny (model prog w) A (.call (.builtin "set.__new__") ⟨[.type "set",a],[]⟩) (wants Q₁ E) s:=by
 refine codeAny_of_tree ?_;show wpAny _ A.in1 (do checkBuiltinCall "set.__new__" ⟨[.type "set",a],[]⟩;again (.builtin "set.__new__" ⟨[.type "set",a],[]⟩)) _ _ s;refine wpAny_bind (wpAny_of_eq (F.newCall_set_1 a) (wpAny_pure ⟨plainId_quiet F.plain_set_new _,codeAny_builtin F.entry_set_new ?_⟩));rw[Around.under_plainId F.plain_set_new _];unfold Builtin.«set.__new__» Builtin.Frozenset.newClass;have Hl:=sub_set_self;obtain⟨hp,g,d,tk,os⟩:=s;dsimp only
 wp_walk
 refine wpAny_askSetting (wpAny_pure ?_);dsimp only;simp only[newObj];refine wpAny_bind (wpAny_alloc (wpAny_pure ?_));exact wpAny_pure h
theorem Jc {l:Addr} {as:[14]} {ks:List [26]} {Q:[27]} (hh:[215])(hu:[191,10])(hl:s.heap.IsList l [588])(hlen:as.length=ks.length)(hk:∀(i:Nat) b k,[3,as,b]->[3,ks,k]->TK prog w s.heap k b) (hb:[1339]) (h:∀(h':Heap) (tk:Nat) (xs:[85]),([1156])->(∀x∈xs,x.2∈as)->([924])->s.heap.objs.size<h'.objs.size->([463])->Q [130] [220]):[21,call [350] [[40]]]:=by
 obtain⟨c,tl,hmr⟩:=F.called_set.mro;have hmd:=F.called_set.made;have Hl:=F.called_set.sub;rw[34,codeAny_of_tree ?_];show wpAny _ _ (callAny [350] _) _ _ _;rw[9,wpAny_pure ⟨Code.quiet_builtin _ [32],[124,F.entry_type_call]⟩,Around.under_plain (weight_type_call_type "set" [[40]] []) rfl];rw[11,F.called_set.notType,F.called_set.canCreate];have htc:=F.typeCall_set_1 [40];rw[74];refine codeAny_mono (Jf (w:=w) [40] (E:=E) (Q₁:=λobj dZ=>obj=[130]/\dZ={s with heap:=[409]}) [18,rfl]) λr dZ hr=> ?_;cases r with
  |error e=>exact hr
  |ok fl=>cases fl with
   |ret obj=>
    obtain⟨rfl,rfl⟩:=hr;have hS:[409].get? s.heap.objs.size=some (sO w):=[108];have hT:Shared.TypeIs {s with heap:=[409]} [130] "set":=[36,hS];have hlk:=F.called_set.init.lookup;have Yl:=F.called_set.init.bind [130];rw[74];refine codeAny_mono (codeAny_call_builtin (R:=wants (λr oq=>r= .none/\∃h' tk xs,oq=[220]/\[1156]/\(∀x∈xs,x.2∈as)/\[924]/\s.heap.objs.size<h'.objs.size/\[463]) E) F.called_set.init.plain F.entry_set_init (check_set_init_1 hT ?_)) λr₂ oq Kw=> ?_
    ·obtain⟨ob,hg1,Yp,nl,Hf⟩:=hl;obtain⟨oc1,od1,oda,os1⟩:=ob;simp only at Yp Hf;subst Yp;subst Hf;have hg2:[409].get? l=some {cls:=[448],dict:=od1,data:= .seq [588] nl,slots:=os1}:=[42,hg1];have IG:=F.sub_list_set;have DF:=F.sub_list_frozenset;have gx:[24,[431],Value.type "dict"]:=[3];have IF:[409].IsList l [588]:=⟨_,hg2,rfl,nl,rfl⟩;unfold Builtin.«set.__init__» noKeywords Builtin.Frozenset.updateFrom;generalize hPI:pyIter=PI;wp_walk;subst hPI;rw[1,[356,IF],wpAny_bind (wpAny_runValue ?_)];have YI:[123,l]:=Heap.lt_size hg1;have hh4:A.in1.in1.in1.handled=none:=by simp[hh]
     have xb:l≠[888]:=by
      rw[Heap.size_push];exact Nat.ne_of_lt (Nat.lt_succ_of_lt YI)
     have UO:s.heap.objs.size∉[[888],l]:=by
      rw[Heap.size_push];rw[19,[592],Nat.ne_of_gt YI]
     have hat:∀(i:Nat) v,[3,[588],v]->∃b k,v=[25]/\[3,as,b]/\[3,ks,k]/\[123,b]/\TK prog w s.heap k b:=λi v hv=>by
      rw[List.getElem?_toArray,List.getElem?_map] at hv;cases e:as[i]? with
       |none=>
        rw[e] at hv;cases hv
       |some b=>
        rw[e] at hv;cases hv;have hi:i<ks.length:=by rw[29,e]
        have N2:=hk i b _ e [601];obtain⟨o',_,_,qL,_⟩:=id N2;exact⟨b,_,rfl,rfl,[601],Heap.lt_size qL,N2⟩
     have hsz:[506].toArray.size=ks.length:=by simp[hlen]
     refine MA (val:=λi=>ks.getD i []) ((Walks.list hh4 _ l xb [588]).toS) s.heap.objs.size UO (by show A.units+1+1+2<cLine;omega) ?AZ ?hb ([506].toArray.size -0) 0 _ [] [2] [33] ⟨[416],(IF.push _)⟩ ?MT ?hS0 ?hR
     case AZ=>
      intro i v hv;obtain⟨b,k,rfl,_,_,ez,_⟩:=hat i v hv;rw[6,b,rfl];rw[Heap.size_push];rw[19,Nat.ne_of_lt ez,Nat.ne_of_lt (Nat.lt_succ_of_lt ez)]
     case hb=>
      intro m Sr Kl;refine hb m Sr λk ko=> ?_;obtain⟨j,hj,rfl⟩:=Kl k ko;rw[hsz] at hj;rw[List.getD_eq_getElem?_getD,[1116]];exact List.getElem_mem hj
     case MT=>
      intro i b hp;obtain⟨b',k,e,e1,e2,ez,N2⟩:=hat i _ hp;cases e;rw[List.getD_eq_getElem?_getD,e2];exact N2.move λo e=>[276,[42,e]]
     case hS0=>rw[0,(oj.fresh s.heap).move (λo e=>[42,e]) (λx hx=>nomatch hx),[679],λk=>⟨λh=>(nomatch h),λ⟨j,hj,_⟩=>[201,hj]⟩]
     case hR=>
      intro s' xH hm uv;obtain⟨h',g',d',M5,ZG⟩:=s';have eg:g'=s.gens:=hm.gens;have ed:d'=s.drawn:=hm.drawn;have eo:ZG=s.os:=hm.os;subst eg;subst ed;subst eo;show wpAny _ _ _ _ _ _;refine[51];show wpAny _ _ (ret Value.none) _ _ _;have Fq:[463]:=λb o e=>by
       have hb:=[72];have xm:b≠s.heap.objs.size:=Nat.ne_of_lt hb;have hb2:b≠[888]:=by
        rw[Heap.size_push];exact Nat.ne_of_lt (Nat.lt_succ_of_lt hb)
       exact hm.heap b o (by rw[19,xm,hb2]) [276,[42,e]]
      refine wpAny_pure ⟨rfl,h',M5,xH,rfl,uv.set,[427],λk=> ?_,?_,Fq⟩
      ·obtain⟨j,hj⟩:=uv.src x hx;obtain⟨b,k,e,CG,_⟩:=hat j _ hj;cases e;exact List.mem_of_getElem? CG
      ·rw[uv.mem k];constructor
       ·rintro⟨j,hj,rfl⟩;rw[hsz] at hj;rw[List.getD_eq_getElem?_getD,[1116]];exact List.getElem_mem hj
       ·intro ko;obtain⟨j,hj⟩:=List.mem_iff_getElem?.mp ko;rw[0,j,(by rw[hsz];exact[25,hj]),(by rw[List.getD_eq_getElem?_getD,hj];rfl)]
      ·obtain⟨o,_,_,_,ho,_⟩:=uv.set;exact[840]
    ·cases r₂ with
     |error e=>exact Kw
     |ok WS=>cases WS with
      |ret r=>
       obtain⟨rfl,h',tk,xs,rfl,uv,MX,A0,hx3,ko⟩:=Kw;rw[74];exact h _ _ _ uv MX A0 hx3 ko
      |_=>exact Kw.elim
   |_=>exact hr.elim
end
end
section
theorem pJ:Slot "set_iterator" "__next__" "set_iterator.__next__":=Slot.of (owner:="set_iterator") (n:="__next__") (by rw[110]) [32] [32] [32] (by first|exact Or.inl [32]|exact Or.inr [32]) (by rw[isSubtype_type];kernel_rfl)
theorem B6:[125,"set_iterator.__next__",Builtin.«set_iterator.__next__»]:=entryFor_of_tree [515]
theorem F6(v:Value):argsOk "set_iterator.__next__" [49,[v]]:=by
 unfold argsOk;kernel_rfl
theorem L3:[125,"set.__iter__",Builtin.«frozenset.__iter__»]:=[479,"frozenset.__iter__"]
theorem FP {α:Type}(nx:[442]):∀(fuel k:Nat) (left:[34]) (out:Array α),left.length=fuel->(pickOrder.go nx fuel k left out).toList.Perm (out.toList++left)
 |0,k,left,out,h=>by cases left with
  |nil=>rw[pickOrder.go,List.append_nil]
  |cons _ _=>cases h
 |fuel+1,k,left,out,h=>by
  have ez:[481]<left.length:=Nat.mod_lt _ [2];rw[pickOrder.go,[912]];dsimp only;have h1:=FP nx fuel (k+1) (left.eraseIdx [481]) (out.push left[[481]]) (by rw[List.length_eraseIdx,if_pos ez];omega);refine h1.trans ?_;rw[Array.toList_push,List.append_assoc];rw[4,List.Perm.append_left _ ?_,((List.perm_middle (a:=left[[481]]) (l₁:=left.take [481]) (l₂:=left.drop ([481]+1))).symm.trans (by rw[<-List.drop_eq_getElem_cons ez,List.take_append_drop])|>λp=>by rw[List.eraseIdx_eq_take_drop_succ];exact p)]
theorem Ia {α:Type}(nx:[442])(xs:Array α):(pickOrder nx xs).toList.Perm xs.toList:=by
 have:=FP nx xs.size 0 xs.toList #[] [4];simpa [pickOrder] using this
def i0(w:World)(a:Addr)(ep:Nat)(es:[223]):[223]:=if Gs w then[1271] else es
theorem mI(w:World)(a:Addr)(ep:Nat)(es:[223]):[172].toList.Perm es.toList:=by
 unfold i0;rw[14,Ia _ _,List.Perm.refl _]
def jN(w:World)(t:SetTable):[442]
 |0=>0
 |i+1=>if Gs w then 0 else[946]+1
section
variable {prog:Program} {w:World} {A:Around} {E:[27]} {s:Shared} {a I:Addr} {o:Obj} {es:[223]} {ep:Nat} {t:SetTable}
def xg(w:World)(h:Heap)(I a:Addr)(t:SetTable)(n ep i:Nat):Prop:=∃o,h.get? I=some o/\o.cls= .type "set_iterator"/\o.data= .fields #[.int (jN w t i) 0,.int i 0,[10],.int n 0,.int ep 0]
theorem xg.typeIs {n i:Nat}(x:xg w s.heap I a t n ep i):s.TypeIs (.ref I) "set_iterator":=let⟨o,ho,hc,_⟩:=x;⟨o,ho,hc⟩
theorem FI {Q:[26,Option (Value×Nat)]}(ho:[465])(hd:[306])(T:[367])(bQ:[564])(mn:[476])(i:Nat)(hle:i<=es.size) (q:Q (([172][i]?).map λe=>(e.2,jN w t (i+1))) s):[21,setNext a (jN w t i) i ep]:=by
 have pN:=T.u6;unfold setNext;rw[1,[208,pN]];dsimp only;unfold setsByText;rw[1,wpAny_bind (wpAny_askSetting [51])];show wpAny _ _ [5,Gs w,_,_] Q E s;cases hb:Gs w with
  |true=>
   rw[17,rfl];simp only[bne_self_eq_false,Bool.false_eq_true,if_false];refine[78];unfold setWalk;rw[1,[208,pN]];dsimp only;unfold setsByText;rw[1,wpAny_bind (wpAny_askSetting [51])];show wpAny _ _ [5,Gs w,_,_] _ E s;rw[hb,[381]];rw[1,wpAny_askSetting [697]];have e1:[172]=[1271]:=by
    unfold i0;rw[hb];rfl
   have e2:∀j,jN w t j=0:=λj=>by cases j<;>simp[jN,hb]
   rw[e1,e2] at q;rw[e2];exact q
  |false=>
   rw[[214]];have hdr:[770]=false:=by
    rw[bQ];rfl
   show wpAny _ _ [44,[770]] Q E s;rw[hdr,[214]];have CJ:(!t.led&& !es.isEmpty)=false:=by
    rw[mn,hb];rfl
   show wpAny _ _ ([44,!t.led&& !es.isEmpty]>>=_) Q E s;rw[CJ,[214]];rw[1,[697]];have e1:[172]=es:=by
    unfold i0;rw[hb];rfl
   rw[e1] at q;have hL:t.place.size=es.size:=by
    have:=T.len;rw[Array.length_toList] at this;rw[13]
   have Ym:i<=es.size->below t.place (jN w t i)=i:=λhi=>by cases i with
    |zero=>exact C2 T.up
    |succ i=>
     have ez:[693]:=[2];have e3:jN w t (i+1)=[946]+1:=by simp[jN,hb]
     rw[e3];rw[9,C0 T.up ?_,[209]];simp[Array.getD,ez]
   rcases Nat.lt_or_ge i es.size with hi|hi
   ·rw[Ym [2]];have ez:[693]:=[2];have g1:=[1114];have g2:=[209];have e3:jN w t (i+1)=t.place[i]+1:=by simp[jN,hb,Array.getD,ez]
    rw[g1,e3] at q;rw[g1,g2];exact q
   ·have g0:es[i]? =none:=Array.getElem?_eq_none hi;rw[g0] at q;have Yx:es.size<=below t.place (jN w t i):=by
     rw[Ym hle];omega
    rw[0,Array.getElem?_eq_none Yx,q]
end
end
section
variable {n:Nat} {Q:[26,[174]]}
section
variable {prog:Program} {w:World} {A:Around} {E:[27]} {s:Shared} {a I:Addr} {o:Obj} {es:[223]} {ep:Nat} {t:SetTable}
theorem OI {x:Value} {h0:Int} {i:Nat}(hit:xg w s.heap I a t n ep i)(ho:[465])(hd:[306])(T:[367])(bQ:[564])(mn:[476])(hn:n=es.size) (hx:[172][i]? =[11,h0,x])(hQ:∀h',xg w h' I a t n ep (i+1)->[164,I]->Q [142] [125]):[21,[340]]:=by
 obtain⟨oi,UZ,hc,Sj⟩:=id hit;have pN:=T.u6;have hi:i<=es.size:=by
  rw[11,[277,hx],[742]];rw[86]
 unfold pyNext;rw[1,wpAny_attempt [455,[1392]]];unfold Builtin.«set_iterator.__next__»;rw[24,[364,slotArgs _ _ _]];refine[78];unfold fieldsOf;rw[1,[274,UZ]];rw[Sj];rw[24,[51]];rw[1,[1358]];rw[8,if_neg (by rw[hn];simp),[78]];rw[Int.toNat_natCast,Int.toNat_natCast,Int.toNat_natCast];refine FI ho hd T bQ mn i hi ?_;rw[hx];dsimp only[Option.map];rw[1,[1359]];have UY:=[43,(Obj.mapFields [1281]),UZ,Obj.data_mapFields Sj _];have Hf:=Obj.data_mapFields Sj [1281];rw[13,wpAny_setField UY Hf [4] (wpAny_pure ⟨x,rfl,wpAny_pure (hQ _ ?_ ([385,_].trans [385,_]))⟩),[15,_,[43,_,UY,Obj.data_mapFields Hf _],?_]]
 ·rw[Obj.cls_mapFields,Obj.cls_mapFields,hc]
 ·rw[Obj.data_mapFields Hf];simp[rawInt]
theorem Tc(hh:[215])(hit:xg w s.heap I a t n ep n)(ho:[465])(hd:[306])(T:[367])(bQ:[564])(mn:[476])(hn:n=es.size) (hQ:∀h',Heap.ExtBut I s.heap h'->Q none [125]):[21,[340]]:=by
 obtain⟨oi,UZ,hc,Sj⟩:=id hit;have pN:=T.u6;have hx:[172][n]? =none:=by
  refine Array.getElem?_eq_none ?_;have h2:=[742];rw[86]
 unfold pyNext;rw[1,wpAny_attempt [455,[1392]]];unfold Builtin.«set_iterator.__next__»;rw[24,[364,slotArgs _ _ _]];refine[78];unfold fieldsOf;rw[1,[274,UZ]];rw[Sj];rw[24,[51]];rw[1,[1358]];rw[8,if_neg (by rw[hn];simp),[78]];rw[Int.toNat_natCast,Int.toNat_natCast,Int.toNat_natCast];refine FI ho hd T bQ mn n [2] ?_;rw[hx];dsimp only[Option.map];rw[13,[1359],[78]];simp only[newExc,newTuple];rw[13,[1178],wpAny_bind (m:=firstArgMember _ _) (wpAny_of_eq (a:=Value.none) (by first|rfl|(simp only[firstArgMember];rfl)) ?_)];refine[1178];simp only[raiseNew];rw[1,wpAny_handled ?_];rw[show A.in1.handled=none from hh];rw[13,wpAny_pure (wpAny_throw ?_),wpAny_bind (wpAny_isInstance (T:="StopIteration") (b:=true) [36,[108]] isSubtype_stop ?_)];exact wpAny_pure (hQ _ (((Heap.SameBut.update ..).extBut.push _).push _))
theorem KN {Q:[27]}(ho:[465])(ID:o.cls=[350])(hd:[306])(T:[367])(bQ:[564])(mn:[476]) (hQ:∀oi,xg w (s.heap.push oi) s.heap.objs.size a t es.size ep 0->Q [130] {s with heap:=s.heap.push oi}):[21,pyIter [10]]:=by
 have hT:[896]:=⟨o,ho,ID⟩;have pN:=T.u6;refine wpAny_pyIter_slot hT F.slot_set_iter [12,F.slot_set_iter,hT,L3,F.args_set_iter_1 _];unfold Builtin.«frozenset.__iter__» Builtin.Frozenset.slot0;rw[13,[51],[78]];unfold Builtin.Frozenset.sizeOf;rw[13,wpAny_setEntries_of ho hd pN [51],[78]];unfold setDrawn;rw[1,[208,pN]];dsimp only;unfold setsByText;rw[1,wpAny_bind (wpAny_askSetting [697])];have hdr:(! [855]&&[770])=false:=by
  rw[bQ];simp
 show wpAny _ _ [44,! [855]&&[770]] _ _ s;rw[hdr,[214]];rw[13,[51],wpAny_bind (wpAny_setEpoch_of ho hd pN ?_)];rw[1,wpAny_newObj_type (wpAny_pure ⟨_,rfl,"set_iterator",_,[36,[108]],pJ.lookup,hQ _ [416]⟩)]
end
end
section
variable {xs:[85]}
theorem F5:Slot "set_iterator" "__iter__" "set_iterator.__iter__":=Slot.of (owner:="set_iterator") (n:="__iter__") (by rw[110]) [32] [32] [32] (by first|exact Or.inl [32]|exact Or.inr [32]) (by rw[isSubtype_type];kernel_rfl)
theorem Ij:[125,"set_iterator.__iter__",Builtin.«dict_keyiterator.__iter__»]:=[479,"dict_keyiterator.__iter__"]
theorem Pw(v:Value):argsOk "set_iterator.__iter__" [49,[v]]:=by
 unfold argsOk;kernel_rfl
theorem DZ:Slot "set" "__len__" "set.__len__":=F.slot_set_len
theorem Pu:isSubtype [350] [350]=pure true:=sub_set_self
section
variable {prog:Program} {w:World} {A:Around} {E:[27]} {s:Shared} {a I:Addr} {o:Obj} {es:[223]} {ep:Nat} {t:SetTable}
theorem xg.move {h h':Heap} {n i:Nat}(x:xg w h I a t n ep i)(m:∀o,h.get? I=some o->h'.get? I=some o):xg w h' I a t n ep i:=let⟨o,ho,r⟩:=x;⟨o,m o ho,r⟩
theorem walks(hh:[215])(hIa:a≠I)(hd:[306])(T:[367])(bQ:[564])(mn:[476]):Walks prog w A I [I,a] [I] es.size (λi v=>∃h0,[172][i]? =[11,h0,v]) (λi h=>xg w h I a t es.size ep i/\[446]) where
 sub:=λb hb=>by
  simp at hb;simp[hb]
 frame:=λ_ _ _ st hk=>⟨st.1.move λo e=>hk I [4] o e,hk a [4] _ st.2⟩
 item:=λi s Q E hi st hQ=>by
  have ez:i<[172].size:=by
   have h2:=[742];rw[86]
  rw[4,OI (x:=[172][i].2) (h0:=[172][i].1) st.1 st.2 hd T bQ mn rfl [209] λh' h1 h2=> ?_,hQ _ h' s.toks [34,[209]] ⟨h1,(h2.2 a hIa).trans st.2⟩ λb o hb e=>(h2.2 b (λh=>hb (by simp[h]))).trans e]
 done:=λs Q E st hQ=>Tc hh st.1 st.2 hd T bQ mn rfl λh' AR=>hQ h' s.toks λb o hb e=>AR b o (λh=>hb (by simp[h])) e
 self:=λi s Q E st hQ=>by
  refine wpAny_pyIter_slot st.1.typeIs F5 [12,F5,st.1.typeIs,Ij,Pw _];show wpAny _ _ (ret (.ref I)) _ _ s;rw[15,⟨_,rfl,"set_iterator",_,st.1.typeIs,pJ.lookup,hQ⟩]
theorem hint {Q:[26,Bool]}(hT:[896])(h:Q false s):[21,Builtin.List.listLengthHint [10]]:=by
 unfold Builtin.List.listLengthHint;rw[1,[224,DZ.lookup]];have e1:splitId "set.__len__"=some ("set","__len__"):=[515];dsimp only;rw[e1];dsimp only;rw[1,wpAny_isInstance hT Pu ?_];show wpAny _ _ [44,!true] Q E s;rw[[213],if_pos [1185]];rw[1,wpAny_typeOf hT ?_];rw[15,h]
theorem Aw {Q:[26,[6]]}(hh:[215])(hS:[630]) (hQ:∀(h':Heap) (tk:Nat) (ys:[85]),ys.Perm xs->([463])->s.heap.objs.size<h'.objs.size->Q [466] [220]):[21,collect [10]]:=by
 obtain⟨o,es,ep,t,ho,hex,hd,T,bQ,mn,he,hx,xa⟩:=hS;have hT:[896]:=⟨o,ho,hex.1⟩;have ha:[123,a]:=[840];have hsz:[24,es.size]:=by
  rw[11,T.full,(pG T.mask).1];rw[Array.length_toList] at h1;rw[sizeLine_eq];omega
 unfold collect;rw[1,wpAny_runValue [124,F.entry_proto_collect]];rw[[150,F.plain_proto_collect]];show wpAny _ A.in1 (newList []>>=λl=>again (.builtin "list.__iadd__" [49,[l,[10]]])) _ _ s;rw[1,wpAny_newObj_type [124,F.plain_list_iadd,[124,F.entry_list_iadd]]];rw[[150,F.plain_list_iadd]];generalize hL:s.heap.push {cls:= .type "list",data:= .seq ([]:List Value).toArray}=h1;have hLs:[363,h1.objs.size]:=by rw[<-hL,Heap.size_push]
 have k1:∀b o,([105])->[3,[425]]:=λb o e=>by
  rw[<-hL];exact[42,e]
 have R':h1.get? s.heap.objs.size=some [45,"list",.seq ([]:[6]).toArray]:=by
  rw[<-hL];exact[108]
 show wpAny _ A.in1 (Builtin.List.listExtendWith [130] [10] [130]) _ _ [856];unfold Builtin.List.listExtendWith;have hT1:Shared.TypeIs [856] [10] "set":=⟨o,k1 _ _ ho,hex.1⟩;rw[1,wpAny_typeOf hT1 ?_];have e1:[8,Builtin.List.listSameRef [130] [10]]:=by
  simp[Builtin.List.listSameRef];exact Nat.ne_of_gt ha
 have e2:[24,Value.type "set",[431]]:=[3];have e3:[24,Value.type "set",Value.type "tuple"]:=[3];simp only[e1,e2,e3,Bool.or_false,Bool.false_eq_true,if_false];rw[1,KN (s:=[856]) (k1 _ _ ho) hex.1 hd T bQ mn λoi hit=> ?_];have k2:∀b o,[3,[425]]->[3,(h1.push oi).get? b]:=[669];rw[1,wpAny_holding (hint (s:={s with heap:=h1.push oi}) ⟨o,k2 _ _ (k1 _ _ ho),hex.1⟩ ?_)];split
 case isFalse Ag=>exact absurd [1185] Ag
 rw[13,wpAny_rule ?_,[78]];have Ye:=k2 _ _ R';show wpAny _ A.in1 (updateSeq s.heap.objs.size (·.push .none)>>=λ_=>updateSeq s.heap.objs.size (·.pop)) _ _ _;rw[1,wpAny_updateSeq Ye rfl ?_];have hS3:=[154,(·.push Value.none),Ye];refine wpAny_updateSeq hS3 rfl ?_;have Sa:=[154,(·.pop),hS3];generalize hH:((h1.push oi).update s.heap.objs.size (Obj.mapSeq (·.push Value.none))).update s.heap.objs.size (Obj.mapSeq (·.pop))=h2;rw[hH] at Sa;have k3:∀b o,b≠s.heap.objs.size->[3,(h1.push oi).get? b]->[3,h2.get? b]:=λb o hb e=>by
  rw[<-hH];exact[1272].trans ([1272].trans e)
 have hIa:a≠h1.objs.size:=by
  rw[hLs];exact Nat.ne_of_lt (Nat.lt_succ_of_lt ha)
 have hIs:h1.objs.size≠s.heap.objs.size:=by
  rw[hLs];exact Nat.ne_of_gt [654]
 have W:=(walks (prog:=prog) (w:=w) (A:=A.in1) (I:=h1.objs.size) (a:=a) (o:=o) hh hIa hd T bQ mn).toS;have UO:s.heap.objs.size∉[h1.objs.size,a]:=by
  intro hm;rcases List.mem_cons.mp hm with e|hm;rw[2,hIs e.symm,Nat.ne_of_gt ha (List.mem_singleton.mp hm)]
 refine[124,F.plain_extend_loop,codeAny_extend_loopS W hsz s.heap.objs.size UO [130] es.size 0 _ #[] _ rfl [33] ⟨hit.move λo e=>k3 _ _ hIs e,k3 _ _ (Nat.ne_of_lt ha) (k2 _ _ (k1 _ _ ho))⟩ Sa (ItemsOf.nil _) λs' Rk c' hm uv NX=> ?_];show wpAny _ A (load s.heap.objs.size>>=_) _ _ s';rw[1,[274,uv]];have Yi:Rk.toList=[172].toList.map (·.2):=by
  have hws:[172].size=es.size:=by
   have h2:=[742];rw[Array.length_toList,Array.length_toList] at h2;exact h2
  refine List.ext_getElem? λi=> ?_;rw[Array.getElem?_toList,List.getElem?_map,Array.getElem?_toList];rcases Nat.lt_or_ge i es.size with hi|hi
  ·have hi1:i<Rk.size:=by rw[0,NX.1,hi]
   obtain⟨h0,hv⟩:=NX.2 i _ [1117];rw[hv,[1117]];rfl
  ·rw[Array.getElem?_eq_none (by rw[0,NX.1,hi]),Array.getElem?_eq_none (by rw[hws];exact hi)];rfl
 obtain⟨ys,U7,Y9⟩:=kE (mI w a ep es) he;have e5:Rk.toList=[466]:=by
  rw[Yi,U7,List.map_map];rfl
 refine[51];rw[e5];obtain⟨h',g',d',M5,ZG⟩:=s';have eg:g'=s.gens:=hm.gens;have ed:d'=s.drawn:=hm.drawn;have eo:ZG=s.os:=hm.os;subst eg;subst ed;subst eo;refine hQ h' M5 ys Y9 (λb o' e=> ?_) (Heap.lt_size uv);have hb:=[72];refine hm.heap b o' (λz=> ?_) (k3 b o' (Nat.ne_of_lt hb) [904]);rcases List.mem_cons.mp z with z|z
 ·exact Nat.ne_of_lt hb z
 ·have z:=[891];rw[hLs] at z;exact Nat.ne_of_lt (Nat.lt_succ_of_lt hb) z
theorem Oo {Q:[27]}(hS:[630])(hl:xs.length<2 ^63)(h:Q (.int xs.length (s.toks+1)) {s with toks:=s.toks+1+1}):[21,call (.builtin "len") [[10]]]:=by
 obtain⟨o,es,ep,t,ho,hex,hd,T,bQ,mn,he,hx,xa⟩:=hS;have hsz:es.size=xs.length:=by rw[<-Array.length_toList,he,List.length_map]
 exact call_len_set ho hex hd T.u6 (by rw[hsz];omega) (by rw[hsz];exact h)
end
end
end ST
end
section
namespace ST
open PySem PyProof.Rows
section
def xr:([26])->([26])->Bool
 | [],[]=>false
 | [],_::_=>true
 |_::_,[]=>false
 |x::r,y::t=>decide (x<y)||(! decide (y<x)&&xr r t)
theorem FC:∀as bs:[26],lexLt itemOrd (as.map Sum.inl) (bs.map Sum.inl)=xr as bs
 | [],[]=>rfl
 | [],_::_=>rfl
 |_::_,[]=>rfl
 |x::r,y::t=>by
  rw[List.map_cons,List.map_cons,lex_cons,FC r t];rfl
theorem vE:∀as bs:[26],[8,xr as bs]->[8,xr bs as]->as=bs
 | [],[],_,_=>rfl
 | [],_::_,h,_=>[180]
 |_::_,[],_,h=>[180]
 |x::r,y::t,h1,h2=>by
  unfold xr at h1 h2;by_cases a:x<y
  ·simp[a] at h1
  ·by_cases b:y<x
   ·simp[b] at h2
   ·have e:x=y:=[2];subst e;simp at h1 h2;rw[vE r t h1 h2]
section
variable {prog:Program} {w:World} {A:Around} {E:[27]} {s:Shared} {a:Addr}
theorem Hn {ks:[26]} {bo:[6]}(h:ItemsAre [127] ks bo):∀i,tupItems [345] i bo=some (ks.map Sum.inl):=by induction h with
 |nil=>
  intro i;rfl
 | @cons k v ks vs h1 h2 ih=>
  intro i;obtain⟨n,t,rfl⟩:=TK.ints (prog:=prog) (w:=w) (.cons h1 h2) v List.mem_cons_self;have e:k=n:=[127].inj _ _ _ h1 (PySem.intKind_is _ _ n t);subst e;rw[tupItems,[214],ih (i+1)];rfl
theorem Mr {h:Heap} {ks:[26]} {b:Addr}(hk:TK prog w h ks b):G.tupKeyC h [345] [25]=some (ks.map Sum.inl):=by
 obtain⟨o,items,n,ho,hc,hd,hi⟩:=hk;unfold G.tupKeyC;rw[if_pos (by simp[G.isTupObj,ho,hc])];simp only[tupKey,ho,hd];exact Hn hi 0
theorem Uh {h:Heap} {ks:[26]} {b:Addr}(hk:TK prog w h ks b)(gx:ks≠[]):∃f,TupOf h [345] [25] f:=by
 obtain⟨o,items,n,ho,hc,hd,hi⟩:=hk;cases ks with
  |nil=>exact absurd rfl gx
  |cons k ks=>cases hit:items.toList with
   |nil=>
    rw[hit] at hi;cases hi
   |cons v vs=>
    rw[hit] at hi;obtain⟨m,t,rfl⟩:=TK.ints (prog:=prog) (w:=w) hi v List.mem_cons_self;refine⟨.int m t,b,o,items,n,rfl,ho,hc,hd,?_,λ_=>⟨m,t,rfl⟩,[222]⟩;rw[<-Array.getElem?_toList,hit];rfl
theorem Gg {h:Heap}:∀ {ys:[85]},(∀y∈ys,TK prog w h y.1 y.2)->(∀y∈ys,y.1≠[])->∃fs,TupsOf h [345] [466] fs
 | [],_,_=>⟨[],.nil⟩
 |y::ys,h1,h2=>by
  obtain⟨f,hf⟩:=Uh (h1 y List.mem_cons_self) (h2 y List.mem_cons_self);obtain⟨fs,hfs⟩:=Gg (ys:=ys) (λz hz=>h1 z [19,hz]) (λz hz=>h2 z [19,hz]);rw[3,f::fs,.cons hf hfs]
theorem MM {α:Type}(l:[34]):l.zip l=l.map λv=>(v,v):=by induction l with
 |nil=>rfl
 |cons x l ih=>rw[List.zip_cons_cons,ih,List.map_cons]
theorem Et {Q:[27]} {xs:[85]}(hh:[215])(hS:[630])(gx:∀x∈xs,x.1≠[]) (h:∀(h':Heap) (tk:Nat) (ys:[85]) (p:Addr) (c:Nat),ys.Perm xs->[456,xr x y]->([463])->[371,p]->h'.get? p=some (seqObj "list" [466].toArray c)->Q [162] [220]):[21,call (.builtin "sorted") [[10]]]:=by
 obtain⟨_,_,_,tb,_,_,_,TT,_,_,NZ,hx,xa⟩:=id hS;have hlen:xs.length<=8192:=by
  rw[11,TT.full,(pG TT.mask).1];rw[NZ,List.length_map] at h1;omega
 refine Calls.call_function_entry kind_sorted plain_sorted entry_sorted (args_sorted1 _) ?_;unfold Builtin.«sorted»;rw[1,[364,checkCount "sorted" 1 1 _],wpAny_bind (Aw (A:=A.in1) hh hS λh1 tk1 ys hp k1 hsz1=> ?_)];have hyl:ys.length<=8192:=by
  rw[hp.length_eq];exact hlen
 rw[1,wpAny_newList ?_ (by rw[List.length_map,sizeLine_eq];omega)];have IG:[371,h1.objs.size]:=Nat.le_of_lt hsz1;generalize Y6:(ys.map λy=>Value.ref y.2)=vs;have YO:[418].get? h1.objs.size=some (seqObj "list" vs.toArray 0):=[108];show wpAny _ _ _ _ _ [1179];have k2:∀b o,[3,[425]]->[3,[418].get? b]:=[669];have Ob:∀y∈ys,TK prog w [418] y.1 y.2:=λy hy=>(hx y (hp.mem_iff.mp hy)).move λo e=>[904];have hney:∀y∈ys,y.1≠[]:=λy hy=>gx y (hp.mem_iff.mp hy);obtain⟨fs,ht⟩:=Gg Ob hney;rw[Y6] at ht;refine wpAny_bind (wpAny_holding (wpAny_call_entry slot_list_sort [36,YO] entry_list_sort (G.list_sort_tups (s:=[1179]) (shape:=[345]) YO ht (λv hv=> ?_) ?_ λst' a1 a2 _=>[9,wpAny_pure [146]]) (args_list_sort _)))
 ·rw[<-Y6] at hv;rw[40,hv];rw[4,Mr (Ob y hy)]
 ·rw[<-Y6,List.length_map,sizeLine_eq];omega
 ·have bQ:[432].toList.Perm (vs.map λv=>(v,v)):=by
   have:=a1.toList;rw[pairsOf_toList,MM] at this;rw[13]
  obtain⟨us,hu1,hu2⟩:=kE bQ rfl;obtain⟨zs,hz1,U8⟩:=kE hu2 Y6.symm;have Sy:([68,[432]]).toList=[1154]:=by
   rw[Array.toList_map,hu1,List.map_map,<-hz1];show us.map (λv=>v)=us;exact List.map_id' us
  have hz3:=U8.trans hp;obtain⟨c,hc⟩:=sortedHeap_at (out:=[68,[432]]) YO;have nY:(sortedHeap [418] h1.objs.size vs ([68,[432]])).get? h1.objs.size=some (seqObj "list" [1154].toArray c):=by rw[hc,<-Sy]
  refine h _ tk1 zs h1.objs.size c hz3 ?_ (λb o e=> ?_) IG nY
  ·rw[List.pairwise_map,List.pairwise_iff_getElem];intro i j hi hj Yy;have hsz:(pairsOf vs).size=zs.length:=by rw[pairsOf_size,<-Y6,List.length_map,U8.length_eq]
   have g:=a2 i j (Nat.le_of_lt Yy) (by rw[hsz];exact hj);have hKK:∀m (hm:m<zs.length),KK (G.tupKindC [418] [345]) [432] m=zs[m].1.map Sum.inl:=λm hm=>by
    have e1:[432][m]? =[11,[958],[958]]:=by
     rw[<-Array.getElem?_toList,hu1,hz1,List.map_map,List.getElem?_map,List.getElem?_eq_getElem hm];rfl
    unfold KK;rw[e1];show(G.tupKeyC _ _ [958]).getD []=_;rw[Mr (Ob _ (U8.mem_iff.mp (List.getElem_mem hm)))];rfl
   rw[hKK i [2],hKK j hj] at g;have g:[8,lexLt itemOrd (zs[j].1.map Sum.inl) (zs[i].1.map Sum.inl)]:=g;rw[FC] at g;cases hb:xr zs[i].1 zs[j].1 with
    |true=>rfl
    |false=>
     have e:=vE _ _ hb g;have hn:(zs.map [44]).Nodup:=(hz3.map [44]).nodup_iff.mpr xa;rw[List.Nodup,List.pairwise_map,List.pairwise_iff_getElem] at hn;exact[126,hn i j hi hj Yy]
  ·have ez:=Heap.lt_size (k1 _ _ e);rw[0,sortedHeap_old (Nat.ne_of_lt ez) (by rw[size_push'];exact Nat.lt_succ_of_lt ez),[904]]
end
end
end ST
end
section
namespace NK
open PySem
section
variable {Q:[26,Bool]}
abbrev PK:Type:=Int×[26]
section
variable {prog:Program} {w:World} {A:Around} {E:[27]} {s:Shared} {a b:Addr}
def CS(prog:Program)(w:World)(h:Heap)(k:PK)(a:Addr):Prop:=∃o m t b,[88]=some o/\o.cls=[219]/\o.data= .seq #[.int k.1 t,[25]] m/\IsTupleKey [127] h k.2 b
def Qs(prog:Program)(w:World)(k:PK):Int:=reduceHash [1273]
theorem CS.typeIs {k:PK}(x:CS prog w s.heap k a):s.TypeIs (.ref a) "tuple":=let⟨o,_,_,_,ho,hc,_⟩:=x;⟨o,ho,hc⟩
theorem CS.inj {h:Heap} {x y:PK}(hx:CS prog w h x a)(hy:CS prog w h y a):x=y:=by
 obtain⟨o,m,t,b,h1,h2,h3,h4⟩:=hx;obtain⟨o',m',t',b',g1,g2,g3,g4⟩:=hy;obtain rfl:o=o':=Option.some.inj (h1.symm.trans g1);rw[h3] at g3;injection g3 with e1 _;have e2:=[273,e1];simp only[List.cons.injEq,Value.int.injEq,Value.ref.injEq] at e2;obtain⟨⟨e3,_⟩,e4,_⟩:=e2;subst e4;exact Prod.ext e3 (h4.inj g4)
theorem CS.keeps {h h':Heap} {k:PK} {d:Addr} {o:Obj} {es ep}(x:[279,h])(ho:[3,h.get? d])(hd:[903])(hs:Heap.SameBut d h h'):[279,h']:=by
 obtain⟨o',m,t,b,h1,h2,h3,h4⟩:=x;have gx:a≠d:=by
  intro e;subst e;have:=Option.some.inj (h1.symm.trans ho);subst this;rw[hd] at h3;cases h3
 exact⟨o',m,t,b,(hs.2 a gx).trans h1,h2,h3,h4.keeps ho hd hs⟩
theorem Hc {k:PK} {Q:[26,Int]}(hu:[191,4])(hk:[279,s.heap])(h:Q (Qs prog w k) {s with toks:=s.toks+(k.2.length+3)}):[21,pyHash [10]]:=by
 rw[117];unfold pyHash;first|unfold pyHashByItsType|skip
 first|rw[1,wpAny_cRoomFor_or (.inr [2]) ?_]|skip
 rw[94];show wpAny _ _ (if(some (Value.builtin "tuple.__hash__")==some Value.none)=true then _ else _) Q E s;rw[if_neg (by rw[beq_builtin_none];rw[63])];rw[94];show wpAny _ _ (callSpecialIfBoundUnlessNone? [10] "__hash__" _>>=_) Q E s;rw[1,wpAny_callSpecialIfBoundUnlessNone?_slot hT F.slot_tuple_hash [12,F.slot_tuple_hash,hT,F.entry_tuple_hash,F.args_tuple_hash_1 _]];show wpAny _ _ (Builtin.Tuple.tupleItemsOf [10]>>=_) _ _ s;rw[1,wpAny_tupleItemsOf ho hd [78]];rw[<-Array.forIn_toList];refine wpAny_forIn_list _ (λrest (acc:Array Int) s'=>(rest=[.int k.1 t,[25]]/\acc= #[]/\s'=s)\/(rest=[[25]]/\acc= #[[127].hash k.1]/\s'=[282])\/(rest=[]/\acc= #[[127].hash k.1,tupleKeyHash [127] k.2]/\s'={s with toks:=[755]})) _ ?_ ?_ _ _ [953]
 ·rintro x rest acc s' (⟨e,rfl,rfl⟩|⟨e,rfl,rfl⟩|⟨e,_⟩)
  ·cases e;rw[1,[127].pyHash [1029] ?_];first
    |exact wpAny_pure (.inr [953])
    |exact[161,wpAny_pure (.inr [953])]
  ·cases e;rw[1,wpAny_pyHash_tuple (s:=[282]) (by show[265];omega) hb ?_];first
    |exact wpAny_pure (.inr (.inr [62,rfl]))
    |exact[161,wpAny_pure (.inr (.inr [62,rfl]))]
  ·cases e
 ·rintro acc s' (⟨e,_⟩|⟨e,_⟩|⟨_,rfl,rfl⟩)
  ·cases e
  ·cases e
  show wpAny _ _ (retInt [1273]) _ _ _;refine wpAny_ret_mkInt ?_;generalize hz:Builtin.Tuple.tupleHashOf [(PySem.intKind prog w).hash k.1,tupleKeyHash (PySem.intKind prog w) k.2]=z;have h:Q (reduceHash z) {s with toks:=s.toks+(k.2.length+3)}:=by
   rw[<-hz];exact h
  show wpAny _ _ [44,[1424]] Q E _;unfold reduceHash at h;have et:[755]+1=s.toks+(k.2.length+3):=[2];by_cases hr:[1424]=true
  ·rw[17,hr];rw[if_pos hr] at h;refine[51];show Q _ {s with toks:=[755]+1};rw[et];exact h
  ·rw[16,hr];rw[if_neg hr] at h;rw[1,wpAny_rule [51]];show Q _ {s with toks:=[755]+1};rw[et];exact h
theorem NA {x y:PK} {P:[26,Fin]}(hu:[191,3])(hx:CS prog w s.heap x a)(hy:CS prog w s.heap y b)(h:P (.done (.ret (.bool [459]))) s):wpAny [158] A (Builtin.«tuple.__eq__» [49,[[10],[25]]]) P E s:=by
 have hTb:=hy.typeIs;obtain⟨oa,ma,ta,ba,hoa,_,hda,hka⟩:=hx;obtain⟨ob,mb,tb,bb,hob,_,xn,Hh⟩:=hy;show wpAny _ _ (isInstance [25] [219]>>=_) _ _ s;rw[1,[373,hTb]];simp only[Bool.not_true,Bool.false_eq_true,if_false];rw[13,wpAny_tupleItemsOf hoa hda (wpAny_bind (wpAny_tupleItemsOf hob xn [78])),wpAny_forIn_list _ (λrest r s'=>r.1=none/\s'=s/\((rest=[(.int x.1 ta,.int y.1 tb),(.ref ba,.ref bb)])\/(rest=[(.ref ba,.ref bb)]/\x.1=y.1)\/(rest=[]/\x=y))) _ ?_ ?_ _ _ [62,[38]]]
 ·rintro⟨u,v⟩ rest r s' ⟨hr,rfl,(e|⟨e,h1⟩|⟨e,_⟩)⟩
  ·cases e;rw[1,[127].eqBool (a:=x.1) (b:=y.1) [1029] [1029] ?_];by_cases hk:x.1=y.1
   ·rw[decide_eq_true hk];rw[0,if_neg [33,¬((!true)=true)],wpAny_pure [62,.inr (.inl [18,hk])]]
   ·rw[decide_eq_false hk];rw[if_pos [1187]];have hf:[8,[459]]:=[288,hk [300]];rw[hf] at h;exact[161,wpAny_pure (wpAny_pure h)]
  ·cases e;rw[1,wpAny_eqBool_tuple [2] hka Hh ?_];by_cases hk:x.2=y.2
   ·rw[decide_eq_true hk];rw[0,if_neg [33,¬((!true)=true)],wpAny_pure [62,.inr (.inr [18,Prod.ext h1 hk])]]
   ·rw[decide_eq_false hk];rw[if_pos [1187]];have hf:[8,[459]]:=[288,hk [300]];rw[hf] at h;exact[161,wpAny_pure (wpAny_pure h)]
  ·cases e
 ·rintro⟨r1,r2⟩ s' ⟨hr,rfl,(e|⟨e,_⟩|⟨_,he⟩)⟩
  ·cases e
  ·cases e
  simp only at hr;subst hr;rw[decide_eq_true he] at h;rw[15,h]
theorem Nz {x y:PK}(hu:[191,4])(hx:CS prog w s.heap x a)(hy:CS prog w s.heap y b)(h:Q [459] s):[21,eqBool [10] [25]]:=by
 unfold eqBool;try with_reducible refine[854]
 show wpAny _ _ (if([128]==[547])=true then _ else _) Q E s;by_cases Fi:([128]==[547])=true
 ·rw[17,Fi];have e:a=b:=by
   have:=eq_of_beq Fi;injection this
  subst e;obtain rfl:=hx.inj hy;exact wpAny_bind (wpAny_rule (wpAny_pure [247]))
 ·rw[0,if_neg Fi,wpAny_bind (wpAny_richCompare_same_room (op:= .Eq) hx.typeIs hy.typeIs F.slot_tuple_eq (wpAny_call_entry F.slot_tuple_eq hx.typeIs F.entry_tuple_eq (NA (by show A.units+1+3<cLine;omega) hx hy [52,(λe=>nomatch e),wpAny_truthy_bool h]) (F.args_tuple_eq_2 _ _)) [2])]
theorem Ej {ks:[26]} {n:Nat}(hk:IsTupleKey [127] s.heap ks a)(h:Q true s):[21,eqIsQuiet (n+1) [10]]:=by
 have hT:=hk.typeIs;obtain⟨o,items,m,ho,_,hd,hi⟩:=hk;unfold eqIsQuiet;rw[1,[224,F.slot_tuple_eq.lookup]];show wpAny _ _ (isInstance [10] [219]>>=_) _ _ s;rw[1,[373,hT]];simp only[Bool.not_true,Bool.false_eq_true,if_false];rw[1,wpAny_seqItems ho hd [78]];show wpAny _ _ (forIn items _ _) _ _ s;rw[<-Array.forIn_toList];refine[128,[362,v],hi.byValue]
 ·rintro v rest r s' ⟨hr,rfl,eF⟩;rw[eqIsQuiet_byValue _ [947]];rw[36,[51]];rw[15,[62,[769]]]
 ·rw[73]
theorem Ek {k:PK}(hk:[279,s.heap])(h:Q true s):[21,eqIsQuiet 8 [10]]:=by
 rw[117];unfold eqIsQuiet;rw[1,[224,F.slot_tuple_eq.lookup]];show wpAny _ _ (isInstance [10] [219]>>=_) _ _ s;rw[1,[373,hT]];simp only[Bool.not_true,Bool.false_eq_true,if_false];rw[1,wpAny_seqItems ho hd [78]];show wpAny _ _ (forIn #[[109,k.1],[547]] _ _) _ _ s;rw[<-Array.forIn_toList];refine[128,[362,v]\/v=[25],λv hv=> ?_]
 ·rintro v rest r s' ⟨hr,rfl,eF⟩;have nx:∀u∈rest,[362,u]\/u=[25]:=[769];rcases eF v List.mem_cons_self with hv|rfl
  ·rw[eqIsQuiet_byValue _ hv];rw[36,[51]];rw[15,[62,nx]]
  ·rw[36,Ej hb ?_];rw[15,[62,nx]]
 ·rw[73]
 ·have hv:v∈[[109,k.1],[25]]:=hv;rcases List.mem_cons.mp hv with rfl|hv;rw[2,[38],.inr (List.mem_singleton.mp hv)]
end
def mz(prog:Program)(w:World):HeapKind prog w PK where
 is:=CS prog w
 hash:=Qs prog w
 draws:=λk=>k.2.length+3
 room:=λA=>[191,4]
 inj:=λhx hy=>hx.inj hy
 keeps:=λx ho hd hs=>x.keeps ho hd hs
 pyHash:=λhu hk h=>Hc hu hk h
 eqBool:=λhu hx hy h=>Nz hu hx hy h
 quiet:=λhk h=>Ek hk h
end
end NK
end
section
namespace L2
open PySem PySem.Spec PyProof.Rows PySem.W
section
abbrev iV(ks:[26]):[13]:=ks.map V.int
def Rh(P:Program)(w:World)(a:Addr)(xs:[85])(h:Heap):Prop:=[447,o.data= .set es ep t/\ST.TI t es.toList/\t.plain=true/\t.led=(! ST.Gs w)/\es.toList=xs.map (ST.zi P w)/\[671]]
abbrev wx(P:Program)(w:World)(a:Addr)(xs:[85]):HO:= .ext (Rh P w a xs)
def Mem(H:Hp)(xs:[85]):Prop:=∀x∈xs,[5,x.2,.tup (iV x.1)]
section
variable {P:Program} {w:World} {H:Hp} {h:Heap} {a:Addr} {xs:[85]}
theorem yb:∀ {ks:[26]} {bo:[6]},Vals (iV ks) bo->ItemsAre (PySem.intKind P w) ks bo
 | [],_,.nil=> .nil
 |k::ks,_,.cons r t=>by
  obtain⟨tk,rfl⟩:=r;exact .cons (PySem.intKind_is _ _ _ _) (yb t)
theorem Ge {ks:[26]}(ok:[79])(e:[29,.tup (iV ks)]):ST.TK P w h ks a:=by
 obtain⟨_,bo,r,o,h1,h2,n,h3⟩:=[294,.tup (iV ks)];exact⟨o,bo.toArray,n,h1,h2,h3,[127,yb r]⟩
theorem LX(s:ST.oj P w h a xs):eC P w H h a (wx P w a xs):=by
 obtain⟨o,es,ep,t,h1,h2,h3,h4,h5,h6,h7,_,h9⟩:=s;rw[0,⟨o,es,ep,t,h1,h2,h3,h4,h5,h6,h7,h9⟩,⟨o,h1⟩,λha hb ⟨o,es,ep,t,g1,g⟩ k=>⟨o,es,ep,t,k _ g1,g⟩]
theorem F4(ok:[79])(e:[29,wx P w a xs])(m:Mem H xs):ST.oj P w h a xs:=by
 obtain⟨⟨o,es,ep,t,h1,h2,h3,h4,h5,h6,h7,h9⟩,_,_⟩:=[294,wx P w a xs];exact⟨o,es,ep,t,h1,h2,h3,h4,h5,h6,h7,λx hx=>Ge ok (m x hx),h9⟩
end
theorem yS:∀ {as:[14]} {bo:[6]},Vals [70] bo->bo=[506]
 | [],_,.nil=>rfl
 |a::as,_,.cons r t=>by
  have e:_=[128]:=r;rw[e,yS t];rfl
theorem mD {α β:Type} {F:[606]}:∀ {l:[34]} {m:[286]} {i:Nat} {x:α} {y:β},Paired F l m->[3,l,x]->[3,m,y]->F x y
 |_,_,i,x,y,.nil,e,_=>[410]
 |_,_,0,x,y,.cons r _,e,f=>by
  simp at e f;subst e;subst f;exact r
 |_,_,i+1,x,y,.cons _ t,e,f=>mD (i:=i) t [246] (by simpa using f)
section
variable {X:Cx}
def ZO(X:Cx):[458]:=λvs H Q=>∃(l:Addr) (as:[14]) (ks:List [26]),vs=[[40]]/\bP X.K H l [70]/\[30,[749],ks]/\[1339]/\∀(p:Addr) (xs:[85]),[5,p]->Mem H xs->([924])->([671])->Q [162] (upd H p (wx X.prog X.w p xs))
theorem xS(hc:[356])(hu:X.A.units+64<cLine):pT X [350] (ZO X):=by
 intro pins s σ H vs us Q I r h;obtain⟨l,as,ks,rfl,hl,pr,hb,q⟩:=h;obtain⟨u,rfl,ru⟩:=vals1 r;cases ru;obtain⟨bo,rv,pl,hz⟩:=I.list hl;have e:=yS rv;subst e;have hlen:=Paired.length pr;refine ST.Jc (as:=as) (ks:=ks) [347] [2] pl.isList hlen (λi b k h1 h2=>Ge I.cH (mD (F:=[749]) pr h1 h2)) hb λh' tk xs hS hx hk hsz keep=> ?_;have uv:=hS;obtain⟨_,_,_,_,_,_,_,_,_,_,_,AY,xa⟩:=uv;have I1:[65,[374,wx X.prog X.w s.heap.objs.size xs],[220]]:=I.laid (t':=tk) keep [8] (LX hS);have hn:=[1175];refine[3,[130],_,I1,q _ xs hn (λx Oa=> ?_) hk xa];obtain⟨i,hi⟩:=List.mem_iff_getElem?.mp (hx x Oa);have Yz:i<ks.length:=by rw[29,hi]
 have eH:=mD (F:=[749]) pr hi (List.getElem?_eq_getElem Yz);have t1:=(Ge (P:=X.prog) (w:=X.w) I.cH eH).move (h':=h') λo e=>keep _ _ e;have e2:=t1.inj (AY x Oa);rw[<-e2];exact eH
def ZN(X:Cx):[458]:=[443,vs=[[162]]/\[5,H p,wx X.prog X.w p xs,Mem H xs,Q (.int xs.length) H]]
theorem Gx:pT X (.builtin "len") (ZN X):=by
 intro pins s σ H vs us Q I r h;obtain⟨p,xs,rfl,hp,hm,q⟩:=h;obtain⟨u,rfl,ru⟩:=vals1 r;cases ru;have hS:=F4 I.cH hp hm;have hl:xs.length<2 ^63:=by
  obtain⟨_,_,_,tb,_,_,_,TT,_,_,NZ,_,_⟩:=hS;rw[11,TT.full,(ST.pG TT.mask).1];rw[NZ,List.length_map] at h1;omega
 exact ST.Oo hS hl [117,.int xs.length]
def Tw(X:Cx):[458]:=[443,vs=[[162]]/\[5,H p,wx X.prog X.w p xs,Mem H xs,(∀x∈xs,x.1≠[])/\∀(l:Addr) (ys:[85]),[5,l]->ys.Perm xs->[456,ST.xr x y]->Q [40] [8,H,l,[623]]]]
theorem rS:∀(as:[14]),Vals [70] [506]
 | []=> .nil
 |a::as=>[113,rS as]
theorem C5(hc:[356]):pT X (.builtin "sorted") (Tw X):=by
 intro pins s σ H vs us Q I r h;obtain⟨p,xs,rfl,hp,hm,gx,q⟩:=h;obtain⟨u,rfl,ru⟩:=vals1 r;cases ru;have hS:=F4 I.cH hp hm;have hl:[690]:=by
  obtain⟨_,_,_,tb,_,_,_,TT,_,_,NZ,_,_⟩:=hS;rw[11,TT.full,(ST.pG TT.mask).1];rw[NZ,List.length_map] at h1;rw[sizeLine_eq];omega
 refine ST.Et [347] hS gx λh' tk ys l c AX hpw keep hle hg=> ?_;have e1:[623]=(ys.map (·.2)).map V.ref:=by rw[47]
 have e2:[466]=(ys.map (·.2)).map Value.ref:=by rw[47]
 refine[3,[40],[8,H,l,[623]],I.laid (t':=tk) keep hle ⟨by rw[List.length_map,AX.length_eq];exact hl,[466],c,by rw[e1,e2];exact rS _,hg⟩,q l ys (I.cH.fresh hle) AX hpw]
end
def IJ(x:NK.PK×Addr):NK.PK×[493]:=(x.1,x.2,.bool true)
def DRaw(P:Program)(w:World)(d:Addr)(xs:[148])(h:Heap):Prop:=[108,d]/\[184,∃o es ep,h.get? d=some o/\o.ExactDict/\[480,[525].map (entryOfKey (NK.mz P w))]]
abbrev dN(P:Program)(w:World)(d:Addr)(xs:[148]):HO:= .ext (DRaw P w d xs)
def Rf(H:Hp)(k:NK.PK)(a:Addr):Prop:=∃b,H a=some (.tup [.int k.1,[25]])/\[22,.tup (iV k.2)]
def An(H:Hp)(xs:[148]):Prop:=∀x∈xs,Rf H x.1 x.2
section
variable {P:Program} {w:World} {H:Hp} {h:Heap} {a:Addr} {xs:[148]}
theorem KI {k:NK.PK}(ok:[79])(e:Rf H k a):(NK.mz P w).is h k a:=by
 obtain⟨b,e1,e2⟩:=e;obtain⟨_,bo,r,o,h1,h2,n,h3⟩:=[93,.tup [.int k.1,[25]],ok a _ e1];cases r with
  |cons r1 r=>cases r with
   |cons r2 r=>
    cases r;obtain⟨t,rfl⟩:=r1;cases r2;exact⟨o,n,t,b,h1,h2,h3,Ge ok e2⟩
theorem A8(xs:[148]):[525].map [44]=[200]:=by rw[47]
theorem P8(ok:[79])(e:[29,dN P w a xs])(m:An H xs):[108,a]/\[184,[1274]]:=by
 obtain⟨⟨z1,z2,o,es,ep,h1,h2,h3,h4,h5⟩,_,_⟩:=[294,dN P w a xs];refine⟨z1,z2,o,es,ep,h1,h2,h3,h4,[427],by rw[A8];exact h5⟩;rw[40,hx];exact KI ok (m y hy)
theorem Ji(z1:[108,a])(z2:[690])(d:[1274]):eC P w H h a (dN P w a xs):=by
 obtain⟨o,es,ep,h1,h2,h3,h4,_,h5⟩:=d;rw[0,⟨z1,z2,o,es,ep,h1,h2,h3,h4,by rw[A8] at h5;exact h5⟩,⟨o,h1⟩,λha hb ⟨z1,z2,o,es,ep,g1,g⟩ k=>⟨z1,z2,o,es,ep,k _ g1,g⟩]
theorem xO(xs:[148])(k:NK.PK):(atKey [525] k).isSome=decide ([232]):=by induction xs with
 |nil=>rfl
 |cons x xs ih=>
  unfold atKey at ih ⊢;rw[List.map_cons,List.find?_cons,List.map_cons];by_cases e:x.1=k
  ·have:[2,(IJ x).1,k]=true:=[907];rw[this];simp[e]
  ·have:[2,(IJ x).1,k]=false:=[908];rw[this];show(Option.map _ _).isSome=_;rw[ih];simp only[List.mem_cons];congr 1;exact propext ⟨λz=> .inr z,λz=>z.resolve_left λe'=>e e'.symm⟩
def putN(xs:[148])(k:NK.PK)(a:Addr):[148]:=if[232] then xs else xs++[(k,a)]
theorem Ez(xs:[148])(k:NK.PK)(a:Addr):storedH [525] k a (.bool true)=(putN xs k a).map IJ:=by
 unfold storedH putN;rw[xO];by_cases e:[232]
 ·rw[if_pos [907],[379],List.map_map];refine List.map_congr_left λx _=> ?_;show putAt k (.bool true) (IJ x)=IJ x;unfold putAt IJ;rw[18]
 ·rw[if_neg [246],[343],List.map_append];rfl
end
section
variable {X:Cx} {i o:Expr} {ty td tv:TE} {value:Expr} {pos pos':Pos}
def T'(X:Cx):TE:=λ_ H Q=>[286,upd H p (dN X.prog X.w p [])]
theorem Lr:PE X (.Dict [] [] pos) (T' X):=λpins s σ H Q I h=>wpAny_Dict_empty [3,[130],_,I.laid (a:=s.heap.objs.size) (o:=dN X.prog X.w s.heap.objs.size []) (t':=s.toks) (λ_ _ q=>[42,q]) [8] (Ji (beq_eq_false_iff_ne.mpr (Ne.symm (Nat.ne_of_lt I.big))) [33] (Heap.DictOfH.new s.heap)),h _ [440]]
def tDInN(X:Cx)(ty td:TE):TE:=λσ H Q=>ty σ H λy H1=>td σ H1 λx H2=>[435,x=[10]/\[5,H2 a,dN X.prog X.w a xs,An H2 xs,y= .ref kb/\Rf H2 k kb/\Q (.bl (decide ([232]))) H2]]
theorem O0(hu:X.A.units+64<cLine)(hi:[483])(ho:[378]):PC X .In i o (tDInN X ty td):=by
 rw[14,[331,λu s2 ⟨x,H2,I2,rx,a,xs,k,kb,ex,hd,hm,ey,hk,q2⟩=> ?_]];subst ex ey;obtain rfl:u=[128]:=rx;obtain rfl:iv=Value.ref kb:=ry;obtain⟨z1,z2,dd⟩:=P8 I2.cH hd hm;refine wpAny_in_heap (knd:=NK.mz X.prog X.w) (by show X.A.units+1+4<cLine;omega) (KI I2.cH hk) z1 dd ?_;rw[xO];exact[3,.bl _,H2,I2.tok _,q2]
def TF(X:Cx)(td ty tv:TE):TS:=λD σ H=>tv σ H λv H1=>td σ H1 λx H2=>ty σ H2 λy H3=>[435,v= .bl true/\x=[10]/\[5,H3 a,dN X.prog X.w a xs,An H3 xs,xs.length<sizeLine/\y= .ref kb/\Rf H3 k kb/\D.nx σ (upd H3 a (dN X.prog X.w a (putN xs k kb)))]]
theorem Ly(hu:X.A.units+64<cLine)(ho:PE X o td)(hi:PE X i ty)(hv:PE X value tv)(hs:swapsWith value (some (.Subscript o i pos')) pos.line X.env=pure false):
 PS X (.Assign [.Subscript o i pos'] value pos) (TF X td ty tv):=by
 intro pins s σ H D I h;refine wpAny_Assign_Subscript (dI (hv pins s σ H _ I h) λr s1 ⟨v,H1,I1,rv,q1⟩=>dI (ho pins s1 σ H1 _ I1 q1) λu s2 ⟨x,H2,I2,rx,q2⟩=>dI (hi pins s2 σ H2 _ I2 q2) λiv s3 ⟨y,H3,I3,ry,a,xs,k,kb,ev,ex,hd,hm,hl,ey,hk,q3⟩=> ?_) hs;subst ex ey ev;obtain rfl:u=Value.ref a:=rx;obtain rfl:iv=Value.ref kb:=ry;obtain rfl:r=Value.bool true:=rv;obtain⟨z1,z2,dd⟩:=P8 I3.cH hd hm;refine wpAny_setItem_heap (knd:=NK.mz X.prog X.w) (hsz:=by rw[List.length_map];exact z2) (by show X.A.units+1+4<cLine;omega) (KI I3.cH hk) dd λh' dd' hs=>⟨σ,_,?_,q3⟩;rw[Ez] at dd';have he:∃q,h'.get? a=some q:=let⟨q,_,_,hq,_⟩:=dd';⟨q,hq⟩;refine Nu I3 (by rw[hd];exact True.intro) hs he (Ji z1 ?_ dd');unfold putN;split
 ·exact z2
 ·rw[List.length_append];exact hl
end
end
end L2
end
section
namespace CP
open PySem PySem.Spec PyProof.Rows L2
open Vanbka (Bytes allowed blank digit letter wordByte)
section
def top(i:Nat):Stmt:=PySem.Challenge.pw_cellnames_s01_faults.main.body.getD i [1039]
abbrev cV(c:UInt8):V:=[6,c.toNat]
abbrev bV(bs:Bytes):[13]:=bs.map cV
theorem Vy(c k:UInt8):[2,cV c,cV k]=[2,c,k]:=[122,(λe=>by have e:=V.int.inj e;exact[439]),[731]]
theorem m8(c:UInt8)(z:Int)(k:UInt8)(h:[921]):[2,cV c,V.int z]=[2,c,k]:=by
 rw[h];exact Vy c k
theorem Om(k c:UInt8)(z:Int)(h:[921]):[10,z,[141]]=[10,k,c]:=decide_eq_decide.mpr (by rw[UInt8.le_iff_toNat_le];omega)
theorem Nj(c k:UInt8)(z:Int)(h:[921]):[10,[141],z]=decide (c<=k):=decide_eq_decide.mpr (by rw[UInt8.le_iff_toNat_le];omega)
theorem ki {bs:Bytes} {p:Nat} {c:UInt8}(h:[455]):MQ (bV bs) [120]=some (cV c):=EV (by rw[List.getElem?_map,h];rfl)
section
variable {P:Program} {w:World} {K:PySem.W.Frag} {mg:[16]} {base:Heap} {C f:Addr} {fd:FuncData}
def II(g:UInt8->Bool):Sp:=λvs H Q _=>∃c:UInt8,vs=[cV c]/\[81,g c]
theorem uD {g:UInt8->Bool}:[68,II g vs H Q E,1]:=λvs H Q E h=>by
 obtain⟨z,rfl,_⟩:=h;rfl
abbrev qA:Stmt:=top I.vm
theorem BY:[300,qA]:=[11]
theorem xw(F:[9,"is_allowed","is_allowed",qA]):[2,1,f,fd,[138],II allowed]:=by
 refine[298,BY];obtain⟨c,rfl,q⟩:=h;rw[10,[17,FO (rh eV (pv 0) aH (aZ _)) (zP [796])],[171]];have e:allowed c=([2,c,10]||[113,32,126]):=rfl;rw[m8 c 10 10 rfl];rw[e] at q;refine er [52] [52]
 ·rw[h1] at q;exact q
 ·rw[Bool.eq_false_iff.mpr h1] at q;rw[9,[320],Om 32 c 32 rfl];refine er [66] [66]
  ·rw[h2] at q;refine[3,_,_,rfl,?_];show Q (.bl [10,[141],126]) _;rw[0,Nj c 126 126 rfl,q]
  ·rw[[598]] at q;exact q
abbrev mE:Stmt:=top I.A1
theorem Ih:[300,mE]:=[11]
theorem oZ(F:[9,"is_digit","is_digit",mE]):[2,1,f,fd,[138],II digit]:=by
 refine[298,Ih];obtain⟨c,rfl,q⟩:=h;rw[10,[17,[796]],[320]];have e:digit c=[113,48,57]:=rfl;rw[e] at q;rw[Om 48 c 48 rfl];refine er [66] [66]
 ·rw[h2] at q;refine[3,_,_,rfl,?_];show Q (.bl [10,[141],57]) _;rw[0,Nj c 57 57 rfl,q]
 ·rw[[598]] at q;exact q
abbrev j5:Stmt:=top I.tf
theorem zV:[300,j5]:=[11]
theorem oY(F:[9,"begins_word","begins_word",j5]):[136,f,fd]:=by
 refine[298,zV];obtain⟨c,rfl,q⟩:=h;rw[13,[17,FO [796] (FO [796] (zP (rh eV (pv 0) aH (aZ _))))]];have e:letter c=([113,65,90]||[113,97,122]||[2,c,95]):=rfl;rw[e] at q;rw[9,[320],Om 65 c 65 rfl];have last:[81,[2,c,95]]->Uc rEq (rL 0) (tC (V.int 95)) [1275] H Q:=λh=>[21,_,rfl,(by rw[0,m8 c 95 95 rfl,h])];have mid:[81,[113,97,122]||[2,c,95]]->tOrV (EA [96,V.bl [10,i,j]] [96,V.bl [10,i,j]] (tC (V.int 97)) (rL 0) (tC (V.int 122))) (Uc rEq (rL 0) (tC (V.int 95))) [1275] H Q:=λh=>by
  rw[9,[320],Om 97 c 97 rfl];refine er [66] [66]
  ·rw[h2] at h;rw[9,[1067],Nj c 122 122 rfl];refine er [210] [210]
   ·rw[h3] at h;exact h
   ·rw[[1142]] at h;exact last h
  ·rw[[598]] at h;rw[6,bg (last h)]
 refine er [66] [66]
 ·rw[h2] at q;rw[9,[1067],Nj c 90 90 rfl];refine er [210] [210]
  ·rw[h3] at q;exact q
  ·rw[[1142]] at q;exact mid q
 ·rw[[598]] at q;rw[6,bg (mid q)]
abbrev o4:Stmt:=top I.tj
theorem nN:aA ["text","start","place"] [303] (ai o4):=[11]
def Z7(K:PySem.W.Frag):Sp:=λvs H Q _=>[438,p<=bs.length/\Q [6,([580]:Nat)] H]
theorem take_drop {α:Type} {bs:[34]} {p:Nat} {c:α} {g:[447]}(h:[455]):[6,[94].takeWhile g,[59,g c,[102,bs.drop (p+1),g]+1]]:=by
 obtain⟨hp,e⟩:=[1141];rw[List.drop_eq_getElem_cons hp,e,List.takeWhile_cons];rw[18]
theorem vU(F:[9,"comment_end","comment_end",o4])(ml:[135]):[2,1,f,fd,["text","start"],Z7 K]:=by
 refine F.okN nN [20] [21]
 ·rw[31]
 obtain⟨t,bs,p,rfl,hS,hp,q⟩:=h;rw[10,[37,nN.nd,pv 1,gd lL [69,[239,pv 2],aK yz [139,pv 2] aH (aZ _)] (ah [97,2,nN.nd])],[146]];rw[6,λm σ H'=>[209,m=[342]/\n<=bs.length/\σ=[[4,t],[495],[39,n]]/\[169,[328]]=[580]],⟨_,rfl,p,rfl,hp,rfl,rfl⟩];rintro m σ H' ⟨rfl,n,rfl,hn,rfl,e⟩;refine[167,.inl hS];have hl:[477]:=by rw[List.length_map]
 rw[hl];refine er [52] [52]
 ·rw[76];rw[9,[243,hS],m8 c 10 10 rfl];rw[[433]] at e;refine er [66] [66]
  ·have h2:¬c=10:=[188];rw[if_pos (by simp[h2])] at e;rw[4,[21,[412,[[4,t],[495],[39,(n+1:Nat)]]],[386,⟨bs.length -(n+1),[2],e1,n+1,rfl,[2],e2,[2]⟩]],[1412]]
  ·have h2:c=10:=[188];rw[if_neg (by simp[h2])] at e;rw[3,?_];show Q _ _;rw[0,[27,[63]=[11,[580]]],q]
 ·rw[101];rw[List.drop_length] at e;rw[1,[55],[146]];show Q _ _;rw[0,(show[11,bs.length]=[11,[580]] by simp at e;omega),q]
end
end
end CP
end
section
namespace CP
open PySem PySem.Spec PyProof.Rows L2
open Vanbka (Bytes allowed blank digit letter wordByte Lex reserved natOf lexAt quotedFrom tokens tokensFrom)
open CN (Kd kdOf hd)
section
variable {H:Hp}
def kStr:Kd->String
 | .oP=>"let"| .dy=>"set"| .rE=>"show"| .nP=>"table"| .rj=>"plot"| .m9=>"check"| .cq=>"slider"| .bW=>"choice"| .x8=>"if"| .uZ=>"else"| .while_=>"while"| .iJ=>"for"| .CL=>"in"| .Nw=>"do"| .km=>"give"| .qK=>"fn"| .and_=>"and"| .or_=>"or"| .not_=>"not"| .qH=>"yes"| .DY=>"no"| .none_=>"none"| .Hw=>"len"| .ye=>"keys"| .yQ=>"text"| .HC=>"num"| .yG=>"roll"| .Gz=>"cut"| .yY=>"with"
 | .name=>"name"| .number=>"number"| .quoted=>"quoted"| .fin=>"end"
 | .eq2=>"=="| .ne=>"!="| .le=>"<="| .ge=>">="| .join=>"++"| .add=>"+"| .sub=>"-"| .mul=>"*"| .div=>"/"| .rem=>"mod"| .lt=>"<"| .gt=>">"| .eq=>"="| .lpar=>"("| .rpar=>")"| .iU=>"["| .pQ=>"]"| .qX=>"{"| .iL=>"}"| .comma=>","| .semi=>";"| .colon=>":"| .dot=>"."| .quest=>"?"
 | .list=>"list"| .record=>"record"| .call=>"call"| .element=>"element"| .field=>"field"| .minus=>"minus"| .bad=>"bad"
def kS(k:Kd):Str:=Str.ofString (kStr k)
def uO:List Kd:=[.oP,.dy,.rE,.nP,.rj,.m9,.cq,.bW,.x8,.uZ,.while_,.iJ,.CL,.Nw,.km,.qK,.and_,.or_,.not_,.qH,.DY,.none_,.Hw,.ye,.yQ,.HC,.yG,.Gz,.yY,.name,.number,.quoted,.fin,.eq2,.ne,.le,.ge,.join,.add,.sub,.mul,.div,.rem,.lt,.gt,.eq,.lpar,.rpar,.iU,.pQ,.qX,.iL,.comma,.semi,.colon,.dot,.quest,.list,.record,.call,.element,.field,.minus,.bad]
theorem kL(k:Kd):k∈uO:=by cases k<;>decide
theorem DJ:∀k∈uO,∀k'∈uO,kS k=kS k'->k=k':=[32]
theorem DI {k k':Kd}(h:kS k=kS k'):k=k':=DJ k (kL k) k' (kL k') h
theorem oM(k k':Kd):[2,[45,k],[45,k']]=[2,k,k']:=[122,λe=>DI (V.str.inj e),[731]]
def sT(k:Str)(v:V)(e:Int):[67]:=[10,"end",e,aL "value" v (aL "kind" (.str k) [])]
theorem pK(k:Str)(v:V)(e:Int):[57,[488],"kind"]=some (.str k):=rfl
theorem EF(k:Str)(v:V)(e:Int):[57,[488],"value"]=some v:=rfl
theorem Mt(k:Str)(v:V)(e:Int):[57,[488],"end"]=some (.int e):=rfl
def nV(H:Hp)(l:Lex)(v:V):Prop:=match l with
 | .word w=>if[397] then v= .cg else[148,w]
 | .num n=>v=[6,n]
 | .quoted s=>[148,s]
 | .sign _=>v= .cg
def mX(TC:Addr)(H:Hp)(a:Addr)(t:Vanbka.Tok):Prop:=∃dx v,H a=some [9,TC,sT (kS [31]) v [11,t.place+t.len]]/\nV H t.lex v
theorem nV.mono {H':Hp}(s:[35]) {l:Lex} {v:V}(h:nV H l v):nV H' l v:=by cases l with
 |word w=>
  show[221,[140,[8,b,[46,w]]]];have h:[735]:=h;by_cases c:[572]
  ·rw[if_pos c] at h ⊢;exact h
  ·rw[if_neg c] at h ⊢;obtain⟨b,e,q⟩:=h;rw[0,b,e,s _ _ q]
 |num n=>exact h
 |quoted w=>
  obtain⟨b,e,q⟩:=h;rw[0,b,e,s _ _ q]
 |sign w=>exact h
theorem mX.mono {TC:Addr} {H H':Hp}(s:[35]) {a:Addr} {t:Vanbka.Tok}(h:[370]):[670]:=by
 obtain⟨dx,v,e,q⟩:=h;rw[0,dx,v,s _ _ e,q.mono s]
def tD(TC C:Addr)(H:Hp)(Q:VK)(E:XK)(p:Nat):Option (Lex×Nat)->Prop
 |none=>[118]
 |some (l,n)=>[183,([35])->mX TC H' a ⟨l,p,n⟩->Q [10] H']
def keyOf(w:Bytes):[80]:=w.map λc=>[259]
theorem vA(w:Bytes):(keyOf w).map kV=bV w:=by
 unfold keyOf;rw[47]
theorem yd {w w':Bytes}(h:keyOf w=keyOf w'):w=w':=by
 unfold keyOf at h;refine List.map_inj_right (λa b e=> ?_)|>.mp h;have:=Sum.inl.inj e;exact[439]
def ia:[134]:=CN.aW.map λp=>([361],.str [497])
theorem Pd(w:Bytes):gh ia (keyOf w)=[46,[397],some [64,[54,w]]]:=by
 have gen:∀l:[257],(∀p∈l,p∈CN.aW)->gh (l.map λp=>([361],[456])) (keyOf w)=(l.find? λp=>[2,w,[176]]).map λp=>[456]:=by
  intro l hl;induction l with
   |nil=>rfl
   |cons p r ih=>
    have ih:=ih λq hq=>hl q [19,hq];rw[87];by_cases h:w=[176]
    ·simp[h]
    ·have h':¬[361]=keyOf w:=λz=>h (yd z).symm;simp only[h,h',decide_false];exact ih
 unfold ia;rw[gen _ λ_ h=>h];cases hc:reserved.contains w with
  |true=>
   obtain⟨p,hp,e⟩:=(CN.pH w).mp hc;rw[[381],(CN.gQ hp).mpr [300]];subst e;have:∀p∈CN.aW,((CN.aW.find? [1237]).map λp=>[456])=some [45,p.2]:=[32];exact[615]
  |false=>
   rw[[213]];rw[List.find?_eq_none.mpr];rfl;intro p hp e;have:=(CN.pH w).mpr ⟨p,hp,[246]⟩;rw[88]
structure Df(K:PySem.W.Frag)(mg:Str->Option Value)(x:Str)(st:Stmt)(ps:List Str)(f:Addr)(fd:FuncData):Prop where
 F:ot K x x st f fd
 b:Binds K fd ps []
 m:mg x=some (.ref f)
structure iR(K:PySem.W.Frag)(mg:Str->Option Value)(TC fI:Addr)(gR:FuncData):Prop where
 cl:CQ K TC
 nk:eB K TC "kind"
 nv:eB K TC "value"
 ne:eB K TC "end"
 mC:mg "Token"=some (.ref TC)
 M:Mk K TC fI
 F:ot K "__init__" "Token.__init__" (inClass (top I.Token) 0) fI gR
 b:Binds K gR ["self","kind","value","end"] []
section
variable {P:Program} {w:World} {K:PySem.W.Frag} {mg:[16]} {base:Heap} {C f TC fI:Addr} {fd gR:FuncData}
def Eu(TC:Addr):Sp:=λvs H Q _=>∃(x dx:Addr) (k:Str) (v:V) (e:Int),vs=[[54],.str k,v,.int e]/\H x=some [104,TC]/\∀H':Hp,[8,x,[9,TC,[488]]]->[392,b≠x]->[199]
theorem scTI:[25,[812],[812],I.Token]:=[11]
theorem FJ(T:[155]):[643]:=by
 refine T.F.okN scTI [20] [21]
 ·rw[14]
 obtain⟨x,dx,k,v,e,rfl,hx,q⟩:=h;rw[10,ae [277] (ae [408] (ah [444])),[2,_,rfl,x,TC,dx,[],rfl,hx,T.cl,T.nk,(by rw[2,0]),?_]];rw[1,[2,_,rfl,x,TC,dx,_,rfl,ag,T.cl,T.nv,(by rw[2,1]),?_],[2,_,rfl,x,TC,dx,_,rfl,ag,T.cl,T.ne,(by rw[2,2]),?_]];exact q _ ag λb o e hb=>by
  rw[[28],[28],[28]];exact e
theorem mv {Q:VK} {E:XK} {k:Str} {v:V} {e:Int}(h:∀(H':Hp) (a dx:Addr),([35])->[8,a,[9,TC,[488]]]->Q [10] H'):[347,Eu TC ([54]::([.str k,v,.int e]++[])) [154,TC] [961] E]:=by
 intro x dx hx Dz gx;exact⟨x,dx,k,v,e,rfl,ag,λH' h1 h2=>[18,h H' x dx [236,h2] h1]⟩
end
end
section
section
variable {P:Program} {w:World} {K:PySem.W.Frag} {mg:[16]} {base:Heap} {C f TC fI fB fG fW:Addr} {fd gR ja IC jy:FuncData}
abbrev qB:Stmt:=top I.wY
theorem lM:aA ["text","start","reserved","end","word"] [708] (ai qB):=[11]
def Me(K:PySem.W.Frag)(TC C:Addr):Sp:=[169,p<=bs.length,[1394]]
structure Ng(K:PySem.W.Frag)(mg:Str->Option Value)(base:Heap)(C:Addr)(bm:List Value)(newId aP B:String):Prop where
 O:OwnCls "NotGood" C bm newId mg base
 FB:ExcBaseFacts B newId aP bm
variable {bm:[6]} {newId aP B:String}
theorem take_take {α:Type} {bs:[34]} {p n:Nat}(g:[447])(hn:p<=n)(hl:n<=bs.length)(h:[169,g]=p+[58,g])(h0:[241,g]):[417]=[259,g]:=by
 have e:n -p=[58,g]:=[2];rw[e];have key:∀l:[34],l.take (l.takeWhile g).length=l.takeWhile g:=λl=>by induction l with
  |nil=>rfl
  |cons a r ih=>
   rw[List.takeWhile_cons];split
   ·rw[List.length_cons,List.take_succ_cons,ih]
   ·rfl
 exact key _
theorem sW {c:TT} {tb:TS} {D:Ends} {σ:L2.St} {H:Hp}(Ex:[217])(after:∀σ H,Ex σ H->[236])(loop:(∀σ H,Ex σ H->[236])->EB c tb D σ H):EB c tb D σ H:=loop after
abbrev qz:Stmt:=top I.oE
theorem BX:[300,qz]:=[11]
theorem zH(F:[9,"continues_word","continues_word",qz])(dB:[1037])(dG:[790]):[2,2,f,fd,[138],II wordByte]:=by
 have GB:[136,fB,ja]:=oY dB.F;have GG:[981]:=oZ dG.F;refine[298,BX];obtain⟨c,rfl,q⟩:=h;rw[10,[17,FO [9,GB,dB.m,dB.F.kp,dB.b] (zP [9,GG,dG.m,dG.F.kp,dG.b])],[781]];have e:wordByte c=(letter c||digit c):=rfl;rw[e] at q;refine er [66] [66]
 ·rw[h2] at q;exact q
 ·rw[[598]] at q;exact[3,_,rfl,c,q]
theorem xx(F:[9,"word_token","word_token",qB])(G:[226])(T:[155])(dW:Df K mg "continues_word" qz [138] fW jy)(dB:[1037])(dG:[790]) (ml:[135])(mt:[569]) {tk:PySem.Tok}(mw:mg "MOST_WORD_BYTES"=some (.int 16 tk)):[2,3,f,fd,[708],Me K TC C]:=by
 have GW:[2,2,fW,jy,[138],II wordByte]:=zH dW.F dB dG;have GI:[643]:=FJ T;refine F.okN lM [20] [21]
 ·rw[15]
 obtain⟨t,rd,bs,p,rfl,hS,hR,hp,kn,q⟩:=h;rw[33];rw[21];rw[10,ae [3,3,lM.nd,pv 1] [3,gd lL [69,[239,pv 3],dg (au GW hr rfl dW.m dW.F.kp dW.b .nil ao [16,[574]])] (ah [97,3,lM.nd]),[170,[14,vV,jo sJ (pv 3) (pv 1),[23,16,mw]]],[3,4,lM.nd,[495,pv 3]],[19,nE (Tp hu (pv 4) (pv 2)),[213,aa (O2 hu (pv 2) (pv 4) [157]) (aa zO [368])]],[213,aa ay [18,pv 4,pv 3]]],[146]];refine[399,[209,p<=n/\[153,σ=[902]/\[169,wordByte]=[881]/\[241,wordByte]]]]
 ·rintro σ H' ⟨rfl,n,xo,hn,rfl,e,h0⟩;have ew:[6,[94].takeWhile wordByte,n -p]:=[2];rw[ew] at q;rw[1,⟨_,rfl,_,rfl,_,_,rfl,rfl,_,_,rfl,rfl,_,rfl,?_⟩,er [52] [52]]
  ·have h1:[2,16]<[385]:=[276];rw[[688]] at q;exact q
  ·have h1:¬[2,16]<[385]:=[50,h1];rw[if_pos [2]] at q;have Fc:xh (bV bs) (some [120]) (some [63])=bV [259,wordByte]:=by
    unfold xh;rw[HT.rA,HT.rA,List.length_map,Nat.min_eq_left [2],Nat.min_eq_left [2],<-List.map_drop,<-List.map_take];exact congrArg bV (take_take wordByte xo hn e h0)
   generalize (bs.drop p).takeWhile wordByte=wd at q Fc;refine⟨_,rfl,_,rfl,_,rfl,_,rfl,_,rfl,t,_,rfl,hS,[248]⟩;rw[Fc];have s1:aS H [810]:=λb o z=>by rw[51]
   refine[1335];have s2:aS H [672]:=λb o z=>by rw[0,aj (aq [101] Y7),[101]]
   have hw:[1374]:=by rw[ag,vA]
   have g:yZ [672] rd [163] (gh ia (keyOf wd)):=yZ.t [15,hR] hw;rw[Pd] at g;refine[1469];have Yu:[612]=[63]:=[2];by_cases hc:[857]=true
   ·rw[if_pos hc] at g ⊢;rw[1,bY ?_,[1469]];refine[350,[15,dx,.cg,?_]]
    ·rw[ha];show _=some [194,sT _ _ [612]];rw[Yu]
    ·show[5,[857],_,_];rw[17,hc]
   ·rw[[597]] at g ⊢;rw[1,[55],[91,?_]];have hk:[54,wd]= .name:=CN.qV.mpr ⟨wd,rfl,Bool.eq_false_iff.mpr hc⟩;refine[350,[15,dx,[163],?_]]
    ·rw[ha];show _=some [194,sT (kS [54,wd]) _ [612]];rw[Yu,hk];rfl
    ·show[5,[857],_,_];rw[0,[597],⟨wa,rfl,s3 _ _ (by rw[ag])⟩]
 rw[6,λm σ H'=>[209,m=[342]/\p<=n/\[153,σ=[902]/\[169,wordByte]=[881]]],[2,_,rfl,p,[8],hp,rfl,rfl]];rintro m σ H' ⟨rfl,n,rfl,xo,hn,rfl,e⟩;refine[167,.inl hS];have hl:[477]:=by rw[List.length_map]
 rw[hl];refine er [52] [52]
 ·rw[76];have IH:wordByte c=(letter c||digit c):=rfl;have go:wordByte c=true->∃N:[217],(∀cR H',N cR H'->∃m',m'<[342]/\[209,m'=[342]/\p<=n/\[153,cR=[902]/\[169,wordByte]=[881]]])/\N [1159] H:=λhw=>by
   have e:=e;rw[[433],if_pos hw] at e;rw[0,[412,[1159]],[386,⟨bs.length -(n+1),[2],e1,n+1,rfl,[2],[2],e2,[2]⟩],rfl,rfl]
  rw[1,[1486],er [249] [249]]
  ·obtain⟨N,n1,n2⟩:=go hb;exact⟨N,n1,_,rfl,_,_,rfl,rfl,n2⟩
  ·exact after _ _ ⟨rfl,n,xo,hn,rfl,e,by rw[[433],if_neg hb]⟩
 ·rw[101];exact bg (after _ _ ⟨rfl,_,xo,hn,rfl,e,by rw[List.drop_length];rfl⟩)
end
end
end CP
end
section
namespace CP
open PySem PySem.Spec PyProof.Rows L2
open Vanbka (Bytes allowed blank digit letter wordByte Lex reserved natOf lexAt quotedFrom tokens tokensFrom doubleSigns singleSigns)
open CN (Kd kdOf hd)
section
theorem DX(l:Bytes)(c:UInt8):natOf (l++[c])=10*natOf l+(c.toNat -48):=by
 unfold natOf;rw[85]
theorem Im {bs:Bytes} {p n:Nat} {c:UInt8}(xo:p<=n)(hc:[658]):[94].take (n+1 -p)=[417]++[c]:=by
 have e:n+1 -p=(n -p)+1:=[2];have hg:[94][n -p]? =some c:=by
  rw[List.getElem?_drop,[27,p+(n -p)=n]];exact hc
 rw[e,List.take_add_one,hg];rfl
section
variable {P:Program} {w:World} {K:PySem.W.Frag} {mg:[16]} {base:Heap} {C f TC fI fB fG fS:Addr} {fd gR ja IC de:FuncData} {bm:[6]} {newId aP B:String}
abbrev nL:Stmt:=top I.rg
theorem gM:aA ["text","start","end","number","digits"] [303] (ai nL):=[11]
def B8(K:PySem.W.Frag)(TC C:Addr):Sp:=[434,vs=[12,t,.int p]/\[401]/\[455]/\[265,[1440]]/\digit c=true]
theorem t9(F:[9,"number_token","number_token",nL])(G:[226])(T:[155])(dG:[790]) (ml:[135]) {tk:PySem.Tok}(mw:mg "MOST_DIGITS"=some (.int 30 tk)):[393,B8 K TC C]:=by
 have GG:[981]:=oZ dG.F;have GI:[643]:=FJ T;refine F.okN gM [20] [21]
 ·rw[15]
 obtain⟨t,bs,p,c0,rfl,hS,hc0,q,hdc⟩:=h;have hp:[40,p]:=[25,hc0];rw[33];rw[10,ae [14,gM.nd,pv 1] [3,aI (i:=3) gM.nd rfl [173] aH,gd lL [69,[239,pv 2],dg (au GG jx rfl dG.m dG.F.kp dG.b .nil ao [16,[139,pv 2]])] (ae [3,3,gM.nd,jo sJ (jo nA (jo To (pv 3) aH) [139,pv 2]) aH] (ah [97,2,gM.nd])),[3,4,gM.nd,jo sJ (pv 2) (pv 1)],[170,PW.pt (LA [14,vV,pv 4,[23,30,mw]] (Eh [69,aK vV (pv 4) aH (aZ _),[128,[452]]]))],[213,aa ay [18,pv 3,pv 2]]],[146]];refine[399,[209,p<n/\[153,σ=[1215]/\[169,digit]=p+[58,digit]/\[241,digit]]]]
 ·rintro σ H' ⟨rfl,n,xo,hn,rfl,e,h0⟩;have ew:[6,[94].takeWhile digit,n -p]:=[2];have et:=take_take digit (Nat.le_of_lt xo) hn e h0;rw[et];rw[ew] at q;generalize (bs.drop p).takeWhile digit=wd at q;refine⟨_,rfl,_,rfl,_,_,rfl,rfl,?_⟩;have ok:[1324]=true->Ud (Ga TC (Eu TC) [] (tV C E) (o9 (tC (V.str "number")) (o9 (rL 3) (o9 (rL 2) Il)))) ⟨λ_ H'=>[199],Q,[346],[346]⟩ [[4,t],[495],[39,n],[39,(natOf wd:Nat)],some (.int [385])] H:=λhk=>by
   rw[hk,[381]] at q;rw[1,[91,?_],mv λH' a dx s3 ha=>q H' a s3 ⟨dx,_,?_,rfl⟩];rw[ha];show _=some [194,sT _ _ [612]];rw[[27,[612]=[63]]];rfl
  have no:[1324]=false->[118]:=λhk=>by
   rw[hk] at q;exact q
  rw[1,[320],er [52] [52]]
  ·have h1:[2,30]<[385]:=[276];rw[4,bY ?_,no (by rw[show[10,n -p,30]=false from[652]];rfl)]
  ·have h1:¬[2,30]<[385]:=[50,h1];have h30:[10,n -p,30]=true:=decide_eq_true [2];rw[1,[320],er [66] [66]]
   ·have h2:[2,1]<[385]:=[858];rw[9,⟨_,rfl,_,rfl,t,_,_,_,rfl,rfl,hS,ki hc0,rfl,_,rfl,?_⟩,m8 c0 48 48 rfl];have gx:[24,n -p,1]:=by rw[0]
    refine er [210] [210]
    ·have h3:c0=48:=[859];exact no (by rw[h30,gx,h3];rfl)
    ·have h3:¬c0=48:=[50,h3];exact ok (by rw[h30,gx];simp[h3])
   ·have h2:¬[2,1]<[385]:=[50,h2];have gx:(n -p==1)=true:=by rw[0]
    exact bg (ok (by rw[h30,gx];rfl))
 rw[6,λm σ H'=>[209,m=[342]/\p<=n/\[153,σ=[1215]/\[169,digit]=p+[58,digit]]],[2,_,rfl,p,[8],[860],(by rw[Nat.sub_self];rfl),rfl]];rintro m σ H' ⟨rfl,n,rfl,xo,hn,rfl,e⟩;have YR:[241,digit]->p<n:=λh0=>by
  rcases Nat.lt_or_eq_of_le xo with h|h
  ·exact h
  ·subst h;rw[take_drop hc0,if_pos hdc] at h0;omega
 refine[167,.inl hS];have hl:[477]:=by rw[List.length_map]
 rw[hl];refine er [52] [52]
 ·rw[76];rw[1,[1486],er [249] [249]]
  ·have e':=e;rw[[433],if_pos hb] at e';have h48:48<=c.toNat:=by
    have:[10,(48:UInt8),c]=true:=by
     have:=hb;unfold digit at this;exact(Bool.and_eq_true _ _▸this).1
    have:=of_decide_eq_true this;rw[UInt8.le_iff_toNat_le] at this;rw[13]
   refine[21,[412,[118,some (.int ([63]+1)),some (.int ((natOf [417]:Nat)*10+[141] -48))]],[386,⟨bs.length -(n+1),[2],e1,n+1,rfl,[2],[2],?_,[2]⟩]]
   ·rw[e2,Im xo hc,DX,[27,[11,natOf [417]]*10+[141] -48=[11,10*natOf [417]+(c.toNat -48)]]];rfl
   ·rw[4,⟨_,rfl,_,_,rfl,rfl,[87,[3],[3]],_,rfl,_,rfl,t,_,_,_,rfl,rfl,hS,ki hc,_,_,rfl,rfl,_,_,rfl,rfl,?_⟩,[1412]]
  ·have h0:[241,digit]:=by rw[[433],if_neg hb]
   exact after _ _ ⟨rfl,n,YR h0,hn,rfl,e,h0⟩
 ·rw[101];have h0:[6,(bs.drop bs.length).takeWhile digit,0]:=by
   rw[List.drop_length];rfl
  exact bg (after _ _ ⟨rfl,_,YR h0,hn,rfl,e,h0⟩)
end
end
section
variable {n:Nat} {c:UInt8}
def behind(c:UInt8):Option UInt8:=[4,c,92,some 92,[4,c,34,some 34,[4,c,110,some 10,none]]]
theorem Tv {bs:Bytes}(h:bs.length<=n):quotedFrom [494]=none:=by
 rw[List.drop_eq_nil_of_le h];rfl
theorem qg {bs:Bytes}(h:[658]):[494]=c::bs.drop (n+1):=by
 obtain⟨hn,e⟩:=[1141];rw[List.drop_eq_getElem_cons hn,e]
theorem QO(r:Bytes):quotedFrom (34::r)=some ([],1):=by rw[quotedFrom]
theorem QN(r:Bytes):quotedFrom (10::r)=none:=by rw[quotedFrom]
theorem QP(r:Bytes):quotedFrom (92::r)=match r with
 | []=>none
 |d::r'=>match behind d with
  |none=>none
  |some e=>(quotedFrom r').map λx=>(e::x.1,x.2+2):=by cases r with
 |nil=>rw[quotedFrom]<;>(intros;simp_all)
 |cons d r=>
  dsimp only;unfold behind;by_cases h1:d=92
  ·subst h1;rw[quotedFrom];rfl
  by_cases h2:d=34
  ·subst h2;rw[quotedFrom];rfl
  by_cases h3:d=110
  ·subst h3;rw[quotedFrom];rfl
  rw[[221],[193],[464]];rw[quotedFrom]<;>(intros;simp_all)
theorem BP(h1:c≠34)(h2:c≠10)(h3:c≠92)(r:Bytes):quotedFrom (c::r)=(quotedFrom r).map λx=>(c::x.1,x.2+1):=by rw[quotedFrom]<;>(intros;simp_all)
def pA:[218]:=[(Sum.inl 92,.int 92),(Sum.inl 34,.int 34),(Sum.inl 110,.int 10)]
theorem IZ(c:UInt8):gh pA [259]=(behind c).map cV:=by
 unfold behind gh pA;have e:∀k:UInt8,∀z:Int,z=[2,k.toNat]->[2,[193,z],[259]]=[2,c,k]:=λk z hz=>[122,(λe=>by have e:=Sum.inl.inj e;exact[439]),(λe=>by rw[e,hz])];simp only[List.find?_cons,List.find?_nil,e 92 92 rfl,e 34 34 rfl,e 110 110 rfl];by_cases h1:c=92
 ·subst h1;rfl
 by_cases h2:c=34
 ·subst h2;rfl
 by_cases h3:c=110
 ·subst h3;rfl
 simp[h1,h2,h3]
section
variable {P:Program} {w:World} {K:PySem.W.Frag} {mg:[16]} {base:Heap} {C f TC fI fB fG fS dS:Addr} {fd gR ja IC de:FuncData} {bm:[6]} {newId aP B:String}
abbrev LJ:Stmt:=top I.jz
theorem TH:aA [882] [882] (ai LJ):=[11]
def L6(K:PySem.W.Frag)(C:Addr):Sp:=λvs H Q E=>∃(t:Addr) (bs:Bytes) (n:Nat),vs=[12,t,.int n]/\[401]/\match(bs[n]?).bind behind with
 |none=>[118]
 |some d=>Q (cV d) H
theorem OM(F:[9,"said_behind_backslash","said_behind_backslash",LJ])(G:[226])(ml:[135])(mS:[1199])(kd:[58,dS,pA]):[2,1,f,fd,["text","place"],L6 K C]:=by
 refine F.okN TH [20] [21]
 ·rw[31]
 obtain⟨t,bs,n,rfl,hS,q⟩:=h;rw[21];rw[10,ae [170,PW.pt (LA [14,yy,pv 1,[655]] (Eh (nE (HZ hu [452] [80,dS,mS]))))] [17,[31,dS,mS,[452]]],[167,.inl hS]];have hl:[477]:=by rw[List.length_map]
 rw[hl];refine er [52] [52]
 ·have h1:[355]<=n:=[276];rw[List.getElem?_eq_none [2]] at q;exact bY q
 ·have h1:¬[355]<=n:=[50,h1];obtain⟨c,hc⟩:∃c,[658]:=[115,[2]];rw[hc] at q;have g:KGet P w K H dS (cV c) ((behind c).map cV):= .inl [3,pA,[259],kd,(IZ c).symm];refine⟨_,rfl,_,rfl,t,_,_,_,rfl,rfl,hS,ki hc,dS,_,rfl,g,_,rfl,?_⟩;have q:match behind c with|none=>[118]|some d=>Q (cV d) H:=q;cases hb:behind c with
   |none=>
    rw[hb] at q;exact bY q
   |some d=>
    rw[hb] at q g;exact bg ⟨_,rfl,_,rfl,t,_,_,_,rfl,rfl,hS,ki hc,dS,_,rfl,g,q⟩
abbrev zT:Stmt:=top I.ro
theorem o7:aA ["text","start","said","place"] [303] (ai zT):=[11]
def Ca(K:PySem.W.Frag)(TC C:Addr):Sp:=λvs H Q E=>[438,p<bs.length/\bs.length<=2000/\[265,[1334]]]
theorem HQ(F:[9,"quoted_token","quoted_token",zT])(G:[226])(T:[155])(dB:Df K mg "said_behind_backslash" LJ [882] fB ja) (ml:[135])(mt:[569])(mS:[1199])(kd:[58,dS,pA]):[393,Ca K TC C]:=by
 have GB:[2,1,fB,ja,["text","place"],L6 K C]:=OM dB.F G ml mS kd;have GI:[643]:=FJ T;refine F.okN o7 [20] [21]
 ·rw[31]
 obtain⟨t,bs,p,rfl,hS,hp,kn,q⟩:=h;rw[33];rw[10,[3,[14,o7.nd,bz af],[3,3,o7.nd,[734]],gd lL [69,[239,pv 3],aK yz [574] aH (aZ _)] (ae [170,[128,[574]]] (ae (bf [128,[574]] (ae [97,3,o7.nd] [160,au GB jx rfl dB.m dB.F.kp dB.b .nil ao [18,pv 0,pv 3]]) [160,[574]]) (ah [97,3,o7.nd]))),[170,[14,yy,pv 3,[655]]],[213,aa ay [18,[120,mt,[376]],jo nA (pv 3) aH]]],[179,[248]]];refine[779];have s0:aS H (upd H l [106]):=λb o z=>by rw[51]
 have hlen:[477]:=by rw[List.length_map]
 refine[399,∃(n:Nat) (sd:Bytes),p+1<=n/\[153,sd.length<=n/\σ=[1034]/\[35]/\H' l=some (.lst (bV sd))/\quotedFrom (bs.drop (p+1))=[1094]/\([40,n]->[2,bs,n,34])]]
 ·rintro σ H' ⟨n,sd,xo,hn,hsd,rfl,s1,hL,e,h34⟩;refine[167,.inl [351]];rw[hlen];refine er [52] [52]
  ·have h1:[355]<=n:=[276];rw[Tv [27,bs.length<=n]] at e;rw[12]
  ·have h1:¬[355]<=n:=[50,h1];rw[qg (h34 [2]),QO] at e;rw[e] at q;rw[1,[103,l,[31,[374],λwa Y7=> ?_]],[779]];have s2:aS H' (upd H' wa [46,sd]):=λb o z=>by rw[0,aj (aq z Y7),z]
   refine mv λH3 a dx s3 ha=>q H3 a ([250].trans s3) ⟨dx,[163],?_,wa,rfl,?_⟩
   ·rw[ha];show _=some [194,sT _ _ [11,p+(1+(n -(p+1))+1)]];rw[[27,[11,p+(1+(n -(p+1))+1)]=[63]+1]];rfl
   ·rw[s3 _ _ ag];show _=some (HO.tup (bV (sd++[])));rw[List.append_nil]
 refine[21,λm σ H'=>[155,m,sd.length<=n/\σ=[1034]/\[35]/\[1404]],⟨_,p+1,[],rfl,[8],hp,[33],rfl,s0,ag,?_⟩]
 ·rw[Nat.sub_self];cases quotedFrom (bs.drop (p+1))<;>rfl
 rintro m σ H' ⟨n,sd,rfl,xo,hn,hsd,rfl,s1,hL,e⟩;refine[167,.inl [351]];rw[hlen];refine er [52] [52]
 ·rw[76];rw[9,[243,[351]],m8 c 34 34 rfl];refine er [66] [66]
  ·have h2:¬c=34:=[188];rw[qg hc] at e;have sz:(bV sd).length<sizeLine:=by
    rw[List.length_map];rw[21,sd.length]
   rw[6,λcR H'=>[77,[342],[155,m',sd.length<=n/\cR=[1034]/\[35]/\[1404]]],[203]];have app:∀d:UInt8,aS H [1299]/\[30,[1299],l,bV (sd++[d])]:=λd=>⟨λb o z=>by rw[0,aj (aq z hl),[101]],by rw[ag];unfold bV;rw[List.map_append];rfl⟩;rw[9,[243,[351]],m8 c 10 10 rfl];refine er [210] [210]
   ·have h3:c=10:=[859];rw[h3,QN] at e;rw[12]
   ·have h3:¬c=10:=[50,h3];rw[9,[243,[351]],m8 c 92 92 rfl];refine er (λh4=> ?_) (λh4=> ?_)
    ·have h4:c=92:=of_decide_eq_true h4;rw[h4,QP] at e;rw[1,[779],⟨_,rfl,[14,hL],_,rfl,_,rfl,t,bs,n+1,rfl,[351],?_⟩];cases Hf:bs[n+1]? with
      |none=>
       rw[List.drop_eq_nil_of_le (List.getElem?_eq_none_iff.mp Hf)] at e;rw[e] at q;show∀H',tV C E [87] none H';exact λ_=>q
      |some d=>
       rw[qg Hf] at e;dsimp only at e;show match behind d with|none=>_|some d=>_;cases hb:behind d with
        |none=>
         rw[hb] at e;rw[e] at q;exact λ_=>q
        |some d'=>
         rw[hb] at e;have ez:=[25,Hf];rw[1,[2,l,_,_,rfl,hL,sz,?_],⟨_,rfl,_,_,rfl,rfl,bs.length -(n+2),[2],n+2,sd++[d'],rfl,[2],[2],by rw[0],?_,(app d').1,(app d').2,?_⟩]
         ·show _=[some (V.ref t),some (V.int p),some (V.ref l),some [13,(n+2:Nat)]];rw[[27,[11,n+2]=[63]+1+1]];rfl
         ·rw[e];show Option.map _ (Option.map _ (quotedFrom (bs.drop (n+1+1))))=_;rw[Option.map_map];congr 1;funext x;show(sd++d'::x.1,x.2+2+(n -(p+1)))=(sd++[d']++x.1,x.2+(n+2 -(p+1)));rw[List.append_assoc];exact Prod.ext rfl [27,x.2+2+(n -(p+1))=x.2+(n+2 -(p+1))]
    ·have h4:¬c=92:=[50,h4];rw[BP h2 h3 h4] at e;rw[1,⟨_,rfl,[14,hL],_,rfl,_,rfl,t,_,_,_,rfl,rfl,[351],ki hc,l,_,_,rfl,rfl,hL,sz,?_⟩,⟨_,rfl,_,_,rfl,rfl,bs.length -(n+1),[2],n+1,sd++[c],rfl,[2],[2],by rw[0],rfl,(app c).1,(app c).2,?_⟩];rw[e,Option.map_map];congr 1;funext x;show(sd++c::x.1,x.2+1+(n -(p+1)))=(sd++[c]++x.1,x.2+(n+1 -(p+1)));rw[List.append_assoc];exact Prod.ext rfl [27,x.2+1+(n -(p+1))=x.2+(n+1 -(p+1))]
  ·have h2:c=34:=[188];exact[511,(λ_=>by rw[hc,h2])]
 ·have h1:¬[40,[63]]:=[50,h1];exact bg [511,λz=>[2]]
end
end
section
def sU:[134]:=[680].map λp=>([361],[31,p.2])
def sH:[218]:=[681].map λp=>(Sum.inl [922],[31,p.2])
theorem PY(x:Bytes):gh sU (keyOf x)=[46,doubleSigns.contains x,some [64,[90,x]]]:=by
 have gen:∀l:[257],gh (l.map λp=>([361],[45,p.2])) (keyOf x)=(l.find? λp=>[2,x,[176]]).map [326]:=by
  intro l;induction l with
   |nil=>rfl
   |cons p r ih=>
    rw[87];by_cases h:x=[176]
    ·simp[h]
    ·have h':¬[361]=keyOf x:=λz=>h (yd z).symm;simp only[h,h',decide_false];exact ih
 have ed:doubleSigns=[680].map λp=>[176]:=[3];unfold sU;rw[gen];cases hc:doubleSigns.contains x with
  |true=>
   rw[ed,List.contains_iff_mem,List.mem_map] at hc;obtain⟨p,hp,rfl⟩:=hc;have h5:∀p∈[680],([680].find? [1237]).map [326]=some (V.str (kS (kdOf (.sign [176])))):=[32];exact h5 p hp
  |false=>
   rw[[213],List.find?_eq_none.mpr];rfl;intro p hp e;have:doubleSigns.contains x=true:=by
    rw[ed,List.contains_iff_mem,List.mem_map];rw[0,p,hp,([246]:x=[176]).symm]
   rw[88]
theorem OX(c:UInt8):gh sH [259]=[46,[666],some [64,[90,[c]]]]:=by
 have gen:∀l:[257],gh (l.map λp=>([193,[922]],[45,p.2])) [259]=(l.find? λp=>[2,c,[338]]).map [326]:=by
  intro l;induction l with
   |nil=>rfl
   |cons p r ih=>
    rw[87];by_cases h:c=[338]
    ·simp[h]
    ·have h':¬[193,[922]]=[259]:=λz=>h (by have:=Sum.inl.inj z;exact[439]);simp only[h,h',decide_false];exact ih
 have ed:singleSigns=[681].map λp=>[338]:=[3];unfold sH;rw[gen];cases hc:singleSigns.contains c with
  |true=>
   rw[ed,List.contains_iff_mem,List.mem_map] at hc;obtain⟨p,hp,rfl⟩:=hc;have h5:∀p∈[681],([681].find? λq=>[2,[338],(Vanbka.b q.1).headD 0]).map [326]=some (V.str (kS [90,[[338]]])):=[32];exact h5 p hp
  |false=>
   rw[[213],List.find?_eq_none.mpr];rfl;intro p hp e;have:[666]=true:=by
    rw[ed,List.contains_iff_mem,List.mem_map];rw[0,p,hp,([246]:c=[338]).symm]
   rw[88]
section
variable {P:Program} {w:World} {K:PySem.W.Frag} {mg:[16]} {base:Heap} {C f TC fI fB fG fW fN fQ fS dS d1 d2:Addr} {fd gR ja IC jy jw fdQ de:FuncData} {bm:[6]} {newId aP B:String}
abbrev LL:Stmt:=top I.wA
theorem LS:aA ["text","start","pair"] [303] (ai LL):=[11]
def Mb(K:PySem.W.Frag)(TC C:Addr):Sp:=[434,vs=[12,t,.int p]/\[401]/\[455]/\[265,if[1144] then[11,.sign ([94].take 2),2] else[1292]]]
theorem OU(F:[9,"sign_token","sign_token",LL])(G:[226])(T:[155])(mt:[569]) (m2:[95,"TWO_BYTE_SIGNS",d2])(k2:y6 P w K d2 sU)(m1:[95,"ONE_BYTE_SIGNS",d1])(k1:[58,d1,sH]):[393,Mb K TC C]:=by
 have GI:[643]:=FJ T;refine F.okN LS [20] [21]
 ·rw[15]
 obtain⟨t,bs,p,c,rfl,hS,hc,q⟩:=h;have hp:[40,p]:=[25,hc];rw[21];rw[13,ae [14,LS.nd,[495,[734]]] (ae [19,nE (zN hu (pv 2) [80,d2,m2]),[213,aa [31,d2,m2,pv 2] (aa zO [16,[734]])]] (ae [19,nE (zN hu [452] [80,d1,m1]),[213,aa [31,d1,m1,[452]] (aa zO [16,[734]])]] (ah (f' G.O G.FB rfl))))];have Fc:xh (bV bs) (some [120]) (some ([120]+2))=bV ([94].take 2):=by
  unfold xh;rw[[27,[120]+2=[11,p+2]],HT.rA,HT.rA,List.length_map,Nat.min_eq_left [860],<-List.map_drop,<-List.map_take];refine congrArg bV (List.take_eq_take_iff.mpr ?_);rw[List.length_drop];omega
 refine⟨_,rfl,_,rfl,_,rfl,_,rfl,_,_,rfl,rfl,_,rfl,t,_,rfl,hS,[248]⟩;rw[Fc];generalize (bs.drop p).take 2=wd at q;have s1:aS H [810]:=λb o z=>by rw[51]
 refine[1335];have s2:aS H [672]:=λb o z=>by rw[0,aj (aq [101] Y7),[101]]
 have hw:[1374]:=by rw[ag,vA]
 generalize upd (upd H l (.lst (bV wd))) wa (.tup (bV wd))=H2 at s2 hw;have g:KGet P w K H2 d2 [163] (gh sU (keyOf wd)):= .inr ⟨sU,keyOf wd,wa,k2,rfl,hw,rfl⟩;rw[PY] at g;refine⟨_,rfl,d2,_,rfl,g,_,rfl,?_⟩;by_cases h2:doubleSigns.contains wd=true
 ·rw[if_pos h2] at g ⊢;rw[7,h2];rw[1,bY ?_,⟨_,rfl,d2,_,rfl,g,_,rfl,_,_,rfl,rfl,?_⟩];refine[1249];rw[ha];show _=some [194,sT _ _ [11,p+2]];rw[[27,[11,p+2]=[120]+2]]
 ·rw[[193]] at g ⊢;rw[10,h2];refine[55];have g1:KGet P w K H2 d1 (cV c) (gh sH [259]):= .inl [3,sH,[259],k1,rfl];rw[OX] at g1;refine⟨_,rfl,_,rfl,t,_,_,_,rfl,rfl,s2.seq hS,ki hc,d1,_,rfl,g1,_,rfl,?_⟩;by_cases h1:[666]=true
  ·rw[if_pos h1] at g1 ⊢;rw[7,h1];rw[1,bY ?_,⟨_,rfl,_,rfl,t,_,_,_,rfl,rfl,s2.seq hS,ki hc,d1,_,rfl,g1,_,rfl,_,_,rfl,rfl,?_⟩];refine[1249];rw[ha];show _=some [194,sT _ _ [11,p+1]];rw[[27,[11,p+1]=[120]+1]]
  ·rw[[221]] at g1 ⊢;rw[10,h1];exact bg q
abbrev wo:Stmt:=top I.Cp
theorem yI:aA ["text","place","reserved","byte"] [707] (ai wo):=[11]
def yO(K:PySem.W.Frag)(TC C:Addr):Sp:=[169,[40,p],lexAt [94]]
theorem tD.up {TC C:Addr} {H:Hp} {Q:VK} {E:XK} {p:Nat} {o:Option (Lex×Nat)}(h:tD TC C H Q E p o):tD TC C H Q (tV C E) p o:=by cases o with
 |none=>exact λ_=>h
 |some x=>exact h
theorem BE(F:[9,"token_at","token_at",wo])(dB:[1037])(dG:[790]) (dW:Df K mg "word_token" qB [708] fW jy)(GW:[2,3,fW,jy,[708],Me K TC C]) (dN:Df K mg "number_token" nL [303] fN jw)(GN:[2,3,fN,jw,["text","start"],B8 K TC C]) (dQ:Df K mg "quoted_token" zT [303] fQ fdQ)(GQ:[2,3,fQ,fdQ,["text","start"],Ca K TC C]) (dS:Df K mg "sign_token" LL [303] fS de)(GS:[2,3,fS,de,["text","start"],Mb K TC C]):[2,4,f,fd,[707],yO K TC C]:=by
 have GB:[136,fB,ja]:=oY dB.F;have GG:[981]:=oZ dG.F;refine F.okN yI [20] [21]
 ·rw[15]
 obtain⟨t,rd,bs,p,rfl,hS,hR,hp,kn,q⟩:=h;rw[33];obtain⟨c,hc⟩:∃c,[455]:=[76,hp];rw[13,[3,[3,3,yI.nd,[452]],[19,dg (au GB jx rfl dB.m dB.F.kp dB.b .nil ao [368]),au GW hr rfl dW.m dW.F.kp dW.b .nil ao [518]],[19,dg (au GG jx rfl dG.m dG.F.kp dG.b .nil ao [368]),au GN hr rfl dN.m dN.F.kp dN.b .nil ao [302]],[19,[128,pv 3],au GQ hr rfl dQ.m dQ.F.kp dQ.b .nil ao [302]],au GS hr rfl dS.m dS.F.kp dS.b .nil ao [302]]];have el:lexAt [94]=(if letter c then[1394] else if digit c then[1440] else if c==34 then[1334] else if[1144] then[11,.sign ([94].take 2),2] else[1292]):=by
  rw[qg hc];rfl
 rw[el] at q;rw[1,⟨_,rfl,_,rfl,t,_,_,_,rfl,rfl,hS,ki hc,?_⟩,[781]];refine er [52] [52]
 ·rw[7,h1];exact⟨_,rfl,_,rfl,_,rfl,t,rd,bs,p,rfl,hS,hR,[860],kn,q.up⟩
 rw[10,h1];rw[1,[781],er [66] [66]]
 ·rw[7,h2];exact⟨_,rfl,_,rfl,t,bs,p,c,rfl,hS,hc,q.up,h2⟩
 rw[10,h2];rw[9,[171],m8 c 34 34 rfl];refine er [210] [210]
 ·have h3:c=34:=[859];rw[if_pos (by rw[h3];rfl)] at q;exact⟨_,rfl,_,rfl,t,bs,p,rfl,hS,hp,kn,q.up⟩
 ·have h3:¬c=34:=[50,h3];rw[if_neg (by simpa using h3)] at q;exact⟨_,rfl,_,rfl,t,bs,p,c,rfl,hS,hc,q.up⟩
end
end
section
section
variable {P:Program} {w:World} {K:PySem.W.Frag} {mg:[16]} {base:Heap} {C f TC fI fB fG fW fN fQ fS dS d1 d2:Addr} {fd gR ja IC jy jw fdQ de:FuncData} {bm:[6]} {newId aP B:String}
abbrev rB:Stmt:=top I.spelled
theorem sP:aA ["word","letter"] ["word"] (ai rB):=[11]
def tX(x:Str):[13]:=x.cps.toList.map λ(c:Nat)=>[13,c]
def yM:Sp:=λvs H Q _=>∃x:Str,vs=[.str x]/\x.cps.size<=1000/\[183,([35])->[8,a,.tup (tX x)]->Q [10] H']
theorem D8(F:[9,"spelled","spelled",rB])(mt:[569])(mo:[87,"ord"]):aC P w K mg base fi 1 f fd ["word"] yM:=by
 refine F.ok sP [20] [21]
 ·obtain⟨_,rfl,_⟩:=h;rfl
 obtain⟨x,rfl,hx,q⟩:=h;rw[10,[17,[120,mt,[16,[3,[("letter",1)],sP.nd,Tt (pv 0),iH (by show tW ["word","letter"] (ai rB) _ _=true;decide+kernel),[104,1,sP.nd],λ_ _ _ _ _=>rm,bO Jb rfl mo PyProof.Rows.boot_ord [45]]]]],[3,_,rfl,x,λD hD=> ?_]];have sD:[929]:=λb o z=>by rw[0,aj (aq z hD),z]
 rw[6,λi m H'=>m=x.cps.size -i/\i<=x.cps.size/\[35]/\[86,D,(tX x).take i],⟨_,rfl,[33],sD,ag⟩];rintro i m H' ⟨rfl,hi,s1,hL⟩;by_cases h:i<x.cps.size
 ·right;refine[15,h,λH2=>∃m',m'<x.cps.size -i/\(m'=x.cps.size -(i+1)/\i+1<=x.cps.size/\[216]/\H2 D=some (.lst ((tX x).take (i+1)))),λ_ z=>z];rintro y H2 ⟨rfl,c,hc,rfl⟩;rw[1,[124],⟨_,rfl,_,rfl,rfl,_,hL,?_,x.cps.size -(i+1),[2],rfl,[2],?_,?_⟩]
  ·rw[List.length_take];exact[137,(show min i (tX x).length<=1000 by(have:[6,tX x,x.cps.size]:=by(unfold tX;simp));omega)]
  ·exact λb o z=>by rw[0,aj (aq z hD),[101]]
  ·rw[ag];have hg:(tX x)[i]? =some [13,c]:=by
    unfold tX;rw[List.getElem?_map,Array.getElem?_toList,hc];rfl
   rw[List.take_add_one,hg];rfl
 ·left;rw[7,Nat.le_of_not_lt h,?_];have e:(tX x).take i=tX x:=List.take_of_length_le (by unfold tX;rw[0]);rw[e] at hL;refine[21,D,_,[31,[374],λl hl=>q _ l (λb o z=> ?_) ag]];rw[0,aj (aq [101] hl),[101]]
end
end
section
variable {n:Nat} {c:UInt8} {r:Bytes}
def mY(TC:Addr)(H:Hp)(l:Addr)(ts:[15]):Prop:=[404,[30,λa t=>[370],ts]]
theorem mX.fO {TC:Addr} {H:Hp} {a l:Addr} {t:Vanbka.Tok} {xs ys:[13]}(h:[370])(hl:[37,l]):mX TC [51,l] a t:=by
 obtain⟨dx,v,e,q⟩:=h;refine[15,dx,v,(by rw[0,aj [13,e,hl],e])];have tp:∀b bs,[22,.tup bs]->upd H l (.lst ys) b=some (.tup bs):=λb bs z=>by rw[0,aj [13,z,hl],z]
 revert q;cases t.lex with
  |word w=>
   intro q;show[221,[140,upd H l (.lst ys) b=some (HO.tup (bV w))]];have q:[735]:=q;by_cases c:[572]
   ·rw[if_pos c] at q ⊢;exact q
   ·rw[if_neg c] at q ⊢;obtain⟨b,e,q⟩:=q;rw[0,b,e,tp _ _ q]
  |num n=>exact λq=>q
  |quoted s=>rw[95]
  |sign s=>exact λq=>q
theorem mY.mono {TC:Addr} {H H':Hp}(s:[35]) {l:Addr} {ts:[15]}(h:mY TC H l ts):mY TC H' l ts:=by
 obtain⟨as,e,q⟩:=h;rw[0,as,s _ _ e,[79,q,z.mono s]]
theorem bB {α β:Type} {G:[606]} {a:α} {b:β}(h:G a b):∀ {l:[34]} {m:[286]},Paired G l m->Paired G (l++[a]) (m++[b])
 |_,_,.nil=>[156,h]
 |_,_,.cons r t=> .cons r (bB h t)
def cat(acc:[15]):([450])->[450]
 | .error e=> .error e
 | .ok ts=> .ok (acc++ts)
theorem Nl(x:[450]):cat [] x=x:=by cases x<;>rfl
theorem Mp {p:Nat}:tokensFrom n p []= .ok []:=by cases n<;>rfl
theorem Co {p:Nat}(h:blank c=true):tokensFrom (n+1) p (c::r)=tokensFrom n (p+1) r:=by rw[tokensFrom,[56]]
theorem wJ {p:Nat}:tokensFrom (n+1) p (35::r)=tokensFrom n (p+[102,35::r,[328]]) ((35::r).drop [102,35::r,[328]]):=by rw[tokensFrom,[213],if_pos [3]]
theorem Mq {p:Nat}(h:¬blank c=true)(h':¬c=35):tokensFrom (n+1) p (c::r)=match lexAt (c::r) with
 |none=> .error p
 |some (l,k)=>[1331]:=by
 rw[tokensFrom,[48],if_neg (by simpa using h')];cases lexAt (c::r) with
  |none=>rfl
  |some x=>
   obtain⟨l,k⟩:=x;dsimp only;cases tokensFrom n (p+k) ((c::r).drop k)<;>rfl
theorem Nk(a b:[15])(x:[450]):cat a (cat b x)=cat (a++b) x:=by cases x with
 |error e=>rfl
 |ok ts=>
  show Except.ok _=Except.ok _;rw[List.append_assoc]
theorem yg {t:Bytes} {l:Lex} {k:Nat}(h:lexAt t=some (l,k)):1<=k/\k<=t.length:=by
 have tw:∀(g:UInt8->Bool) (l:Bytes),[32,l.takeWhile g,l.length]:=λg l=>by induction l with
  |nil=>simp
  |cons a r ih=>
   rw[List.takeWhile_cons];split<;>simp
   omega
 have qf:∀(n:Nat) (r:Bytes) (x:Bytes×Nat),r.length<=n->quotedFrom r=some x->x.2<=r.length:=by
  intro n;induction n with
   |zero=>
    intro r x hr h;cases r with
     |nil=>cases h
     |cons a r=>simp at hr
   |succ n ih=>
    intro r x hr h;cases r with
     |nil=>cases h
     |cons c r=>
      simp at hr;by_cases h1:c=34
      ·subst h1;rw[QO] at h;cases h;simp
      by_cases h2:c=10
      ·subst h2;rw[QN] at h;cases h
      by_cases h3:c=92
      ·subst h3;rw[QP] at h;cases r with
        |nil=>cases h
        |cons d r'=>
         dsimp only at h;cases hb:behind d with
          |none=>
           rw[hb] at h;cases h
          |some e=>
           rw[hb] at h;simp at hr;cases hq:quotedFrom r' with
            |none=>
             rw[hq] at h;cases h
            |some y=>
             rw[hq] at h;have:=ih r' y [2] hq;cases h;rw[0]
      ·rw[BP h1 h2 h3] at h;cases hq:quotedFrom r with
        |none=>
         rw[hq] at h;cases h
        |some y=>
         rw[hq] at h;have:=ih r y [2] hq;cases h;rw[0]
 unfold lexAt at h;cases t with
  |nil=>cases h
  |cons c r=>
   dsimp only at h;split at h
   ·rename_i hl;have hw:wordByte c=true:=by
     unfold wordByte;rw[hl];rfl
    split at h
    ·cases h;rw[7,?_,tw _ _];rw[List.takeWhile_cons,if_pos hw];simp
    ·cases h
   ·split at h
    ·rename_i hl;split at h
     ·cases h;rw[7,?_,tw _ _];rw[List.takeWhile_cons,if_pos hl];simp
     ·cases h
    ·split at h
     ·cases hq:quotedFrom r with
      |none=>
       rw[hq] at h;cases h
      |some y=>
       rw[hq] at h;have:=qf _ r y [8] hq;cases h;rw[0]
     ·split at h
      ·rename_i hd2;cases h;have:[6,(c::r).take 2,2]:=by
        have h2:∀x∈doubleSigns,x.length=2:=[3];exact h2 _ (List.contains_iff_mem.mp hd2)
       rw[81]
      ·split at h
       ·cases h;simp
       ·cases h
section
variable {P:Program} {w:World} {K:PySem.W.Frag} {mg:[16]} {base:Heap} {C f TC fI fB fG fW fN fQ fS fA fE fT dS d1 d2 aR:Addr} {fd gR ja IC jy jw fdQ de je fdE jc:FuncData} {bm:[6]} {newId aP B:String}
abbrev TB:Stmt:=top I.kX
theorem o6:aA [1453] [95] (ai TB):=[11]
def QU(K:PySem.W.Frag)(TC C:Addr):Sp:=λvs H Q E=>[325,([8,[861]]->[118])/\([861]=true->match tokens bs with
 | .error _=>[118]
 | .ok ts=>[183,([35])->mY TC H' a ts->Q [10] H'])]
def Ig:[13]:=CN.aW.map λp=>[456]
theorem Nr:∀p∈CN.aW,tX [497]=bV [176]/\[497].cps.size<=1000:=[32]
theorem yF:sC [] ia=ia:=[32]
theorem Td(F:[9,"cut_tokens","cut_tokens",TB])(G:[226])(T:[155])(dA:Df K mg "is_allowed" qA [138] fA je)(dS:Df K mg "spelled" rB ["word"] fS de) (dE:Df K mg "comment_end" o4 [303] fE fdE)(dT:Df K mg "token_at" wo [707] fT jc)(GT:[2,4,fT,jc,[707],yO K TC C]) (ml:[135])(mt:[569])(mo:[87,"ord"])(md:[87,"dict"])(mR:[95,"RESERVED",aR])(Yd:∀H,kT K H aR Ig):[2,5,f,fd,[95],QU K TC C]:=by
 have GA:[2,1,fA,je,[138],II allowed]:=xw dA.F;have GE:[2,1,fE,fdE,["text","start"],Z7 K]:=vU dE.F ml;have GS:aC P w K mg base fi 1 fS de ["word"] yM:=D8 dS.F mt mo;refine F.okN o6 [20] [21]
 ·rw[32]
 obtain⟨t,bs,rfl,hS,kn,qbad,qok⟩:=h;rw[33];rw[21];rw[10,ae (j9 lL rfl (eQ (pv 0)) [91,1,o6.nd] (ah [170,sM (dg (au GA jx rfl dA.m dA.F.kp dA.b .nil ao [45]))])) [3,[14,o6.nd,i7 (C4 rfl (Nat.lt_of_le_of_lt (Nat.add_le_add_left ([3]:16<=64) _) hr.units)) rfl md PyProof.Rows.boot_dict [16,[3,[("word",6)],o6.nd,Tu [80,aR,mR],iH (by show tW [1453] (ai TB) _ _=true;decide+kernel),[104,6,o6.nd],λ_ _ _ _ _=>rm,fk [18,au GS jx rfl dS.m dS.F.kp dS.b .nil a6 [16,pv 6],pv 6]]]],[3,3,o6.nd,bz af],aI (i:=4) o6.nd rfl [173] aH,gd lL [239,pv 4] (ah (bf [75,[139,pv 4],aa aH (aa aH af)] (ah [97,4,o6.nd]) (ah (bf [128,[139,pv 4]] (ah [3,4,o6.nd,au GE jx rfl dE.m dE.F.kp dE.b .nil ao [18,pv 0,pv 4]]) (ae [3,5,o6.nd,au GT hr rfl dT.m dT.F.kp dT.b .nil ao [256,pv 4]] (ae (aF [78,pv 3,pv 5]) (ah [3,4,o6.nd,aJ (pv 5) rfl]))))))),pv 3],[22,t,[34,hS],gS (K:=K) (a:=t) (xs:=bV bs) (λi σ H'=>H=H'/\(bs.take i).all allowed=true/\[133,[[4,t],v,none,none,none,none,none]]) ⟨rfl,rfl,none,rfl⟩ (λi σ H' _ ⟨e,_⟩=>by rw[5,hS]) ?_ ?_]]
 ·rintro i y σ H' hi ⟨rfl,eF,v,rfl⟩;obtain⟨c,hc,rfl⟩:∃c,[3,bs,c]/\y=cV c:=by
   rw[List.getElem?_map] at hi;cases e:bs[i]? with
    |none=>rw[7]
    |some z=>rw[10]
  refine[781];cases ha:allowed c with
   |true=>
    rw[1,[55],⟨rfl,?_,_,rfl⟩];rw[List.take_add_one,hc,List.all_append,eF];simp[ha]
   |false=>
    rw[1,bY ?_,qbad ?_];rw[<-Bool.not_eq_true,List.all_eq_true];intro z;have:=z c (List.mem_of_getElem? hc);rw[ha] at this;cases this
 rintro σ H' ⟨rfl,eF,v,rfl⟩;rw[List.length_map,List.take_length] at eF;have q:=qok eF;refine⟨aR,rfl,[34,Yd _],λD hD=> ?_⟩;have sD:[929]:=λb o z=>by rw[0,aj (aq z hD),z]
 refine S1 (K:=K) (a:=aR) (xs:=Ig) (λi H'=>[35]/\∃ps:[14],H' D=some (.lst [546])/\Paired (λp (kv:[80]×V)=>∃kb,kT K H' p [12,kb,kv.2]/\[8,kb,.tup (kv.1.map kV)]) ps (ia.take i)/\(ps.length=i)) ⟨sD,[],ag,.nil,rfl⟩ (λi H' _ _=>Yd _) ?_ ?_
 ·rintro i y H' hi ⟨s1,ps,hL,hP,hlen⟩;obtain⟨p,hp,rfl⟩:∃p,[3,CN.aW,p]/\y=[456]:=by
   unfold Ig at hi;rw[List.getElem?_map] at hi;cases e:CN.aW[i]? with
    |none=>rw[7]
    |some z=>rw[10]
  have hm:=Nr p (List.mem_of_getElem? hp);rw[1,[124],[22,_,hm.2,λH2 kb s2 Hh=> ?_]];rw[hm.1] at Hh;refine[52,(by rw[8]),λpa hpa=> ?_];have s3:aS H2 [1011]:=λb o z=>by rw[0,aj (aq z hpa),z]
  have hi29:i<29:=by
   have:=[25,hp];rw[13]
  refine⟨[546],s3 _ _ [15,hL],?_,?_,ps++[pa],?_,?_,by rw[0]⟩
  ·rw[List.length_map];exact[137,[27,ps.length<=29]]
  ·exact λb o z=>by rw[0,aj (aq z hD),s3 _ _ (s2 _ _ [101])]
  ·rw[4]
  ·have hg:[3,ia,([361],[456])]:=by
    unfold ia;rw[List.getElem?_map,hp];rfl
   rw[List.take_add_one,hg];have MS:=s3 _ _ [15,hL];have tp:[137,[1011],upd [1011] D (.lst [33,[546],pa])]:=λb xs z=>by rw[0,aj [13,z,MS],z]
   refine bB ⟨kb,[181,tp _ _ ag],tp _ _ (s3 _ _ (by rw[Hh,vA]))⟩ (Paired.cf hP λa kv ⟨kb',z1,z2⟩=>⟨kb',?_,tp _ _ (s3 _ _ [15,z2])⟩);rcases z1 with(z|⟨o,z⟩)|z
   ·exact[181,tp _ _ [460]]
   ·refine .inl (.inr [30,o]);rw[0,aj (dw [460] MS (λz=>nomatch z)),[460]]
   ·exact .inr z
 rintro H1 ⟨s1,ps,hL,hP,hlen⟩;rw[show Ig.length=ia.length by unfold Ig ia;rw[List.length_map,List.length_map],List.take_length] at hP;refine[2,D,ps,ia,[374],hP,(by rw[yF];decide),λrd hrd=> ?_];rw[yF];have s2:aS H1 (upd H1 rd (.dT ia)):=λb o z=>by rw[0,aj (aq z hrd),z]
 have hR0:(upd H1 rd (.dT ia)) rd=some (.dT ia):=ag;have sA:=[250];generalize upd H1 rd (.dT ia)=H2 at s2 hR0 sA;rw[7,[33],[248]];have s3:aS H2 (upd H2 l [106]):=λb o z=>by rw[51]
 have Ki:[477]:=by rw[List.length_map]
 rw[6,λm σ H'=>[459,m=[668]/\p<=bs.length/\[504,σ=[1410]/\aS H2 H'/\[1290]]],⟨_,0,bs.length+1,[],[],none,rfl,[33],[2],by rw[Nl];rfl,[8],rfl,s3,ag,.nil⟩];rintro m σ H' ⟨p,n,acc,as,v5,rfl,hp,hn,et,NX,rfl,s4,UM,hP'⟩;refine[167,.inl ((sA.trans s4).seq hS)];rw[Ki];refine er [52] [52]
 ·have h1:[40,[120]]:=[276];have Sz:[40,p]:=[2];obtain⟨c,hc⟩:∃c,[455]:=[76,Sz];obtain⟨n,rfl⟩:∃n',n=n'+1:=[72,n -1];rw[qg hc] at et;rw[1,[21,λcR H'=>[77,[668],[459,m'=[668]/\p<=bs.length/\[504,cR=[1410]/\aS H2 H'/\[1290]]]],[203]],[2,_,rfl,t,_,_,_,rfl,rfl,(sA.trans s4).seq hS,ki hc,(by rw[8]),[352]]];have s5:aS H' [1296]:=λb o z=>by rw[0,aj (aq z ou),z]
  refine[83,tp,[972]];have s6:=s4.trans s5;have CF:=s5 _ _ UM;have X':[30,λa t=>mX TC [1296] a t,acc]:=[79,hP',z.mono s5];generalize upd H' tp (.tup [.int 10,.int 32])=H6 at s6 CF X';have eb:ya (cV c) [972]=blank c:=by
   show(([2,10]==[141])||(([2,32]==[141])||false))=(c==10||c==32);have e1:∀(k:UInt8) (z:Int),z=[2,k.toNat]->(z==[141])=(c==k):=λk z hz=>by
    rw[Bool.eq_iff_iff,beq_iff_eq,beq_iff_eq,hz];rw[3,λe=>[439],(λe=>by rw[e])]
   rw[e1 10 10 rfl,e1 32 32 rfl,Bool.or_false]
  show[44,if[256] then _ else ya (cV c) [972]];rw[[187],eb];refine er [249] [249]
  ·rw[Co hb] at et;exact⟨_,rfl,_,_,rfl,rfl,bs.length -(p+1),[2],p+1,n,acc,as,v5,rfl,[2],[2],et,[2],rfl,s6,CF,X'⟩
  ·rw[9,[243,(sA.trans s6).seq hS],m8 c 35 35 rfl];refine er (λR0=> ?_) (λR0=> ?_)
   ·have R0:c=35:=of_decide_eq_true R0;subst R0;rw[wJ,<-qg hc] at et;refine⟨_,rfl,_,rfl,t,bs,p,rfl,(sA.trans s6).seq hS,Nat.le_of_lt Sz,?_⟩;have hk:[58,[328]]<=[94].length:=by
     have tw:∀(l:Bytes),[32,l.takeWhile [328],l.length]:=λl=>by induction l with
      |nil=>simp
      |cons a r ih=>
       rw[List.takeWhile_cons];split<;>simp
       omega
     exact tw _
    have IE:1<=[58,[328]]:=by
     rw[[433],if_pos [3]];omega
    rw[List.length_drop] at hk;rw[List.drop_drop] at et;exact⟨bs.length -[580],[2],_,n,acc,as,v5,rfl,[2],[2],et,[2],rfl,s6,CF,X'⟩
   ·have R0:¬c=35:=[50,R0];rw[Mq hb R0,<-qg hc] at et;refine⟨_,rfl,_,rfl,_,rfl,t,rd,bs,p,rfl,(sA.trans s6).seq hS,s6 _ _ hR0,Sz,kn,?_⟩;cases hx:lexAt (bs.drop p) with
     |none=>
      rw[hx] at et;have et:[526]= .error p:=et;rw[et] at q;exact λ_=>q
     |some x=>
      obtain⟨lx,k⟩:=x;rw[hx] at et;dsimp only at et;rw[Nk,List.drop_drop] at et;obtain⟨IE,US⟩:=yg hx;rw[List.length_drop] at US;intro H7 ta s7 KC;have w9:=s7 _ _ CF;refine⟨_,rfl,[14,w9],_,rfl,l,_,_,rfl,rfl,w9,?_,?_⟩
      ·rw[47,X'];rw[21,acc.length]
      obtain⟨dx,vv,hta1,_⟩:=id (KC.fO (ys:=[33,[70],ta]) w9);rw[1,⟨_,rfl,ta,TC,dx,_,_,rfl,hta1,T.cl,T.ne,Mt _ _ _,?_⟩,⟨bs.length -(p+k),[2],p+k,n,acc++[⟨lx,p,k⟩],as++[ta],[4,ta],rfl,[2],[2],et,by rw[0],rfl,λb o z=> ?_,by rw[4],bB (KC.fO w9) [79,X',(z.mono s7).fO w9]⟩];rw[0,aj (aq z hl),s7 _ _ (s6 _ _ z)]
 ·have h1:¬[40,[120]]:=[50,h1];rw[List.drop_eq_nil_of_le [27,bs.length<=p],Mp] at et;have et:[526]= .ok (acc++[]):=et;rw[List.append_nil] at et;rw[et] at q;rw[6,q H' l (sA.trans s4) ⟨as,UM,hP'⟩]
end
end
end CP
end
section
namespace CP
open PySem PySem.Spec PyProof.Rows L2
open Vanbka (Bytes allowed blank digit letter wordByte Lex reserved natOf lexAt quotedFrom tokens tokensFrom doubleSigns singleSigns tooDeepAt opening closing)
open CN (Kd kdOf hd tk Res)
section
variable {c dx l:Addr} {H H1 H':Hp} {ts:[15]}
section
variable {P:Program} {w:World} {K:PySem.W.Frag} {mg:[16]} {base:Heap} {C f TC fI:Addr} {fd gR:FuncData} {bm:[6]} {newId aP B:String}
theorem rQ {TC:Addr} {H:Hp}:∀ {as:[14]} {ts:[15]} {i:Nat} {t:Vanbka.Tok},[30,λa t=>[370],ts]->[3,ts,t]->∃a,[369]/\[370]
 |_,_,i,t,.nil,h=>[129]
 |_,_,0,t,.cons r _,h=>by
  simp at h;subst h;rw[6,r]
 |_,_,i+1,t,.cons _ q,h=>by
  obtain⟨a,e,z⟩:=rQ (i:=i) q [247];rw[0,a,[246],z]
abbrev QR:Stmt:=top I.fb
theorem wq:aA ["tokens","depth","token"] ["tokens"] (ai QR):=[11]
def L7(TC:Addr):Sp:=λvs H Q _=>∃(l:Addr) (ts:[15]),vs=[[40]]/\mY TC H l ts/\[246,.bl [906].isSome]
theorem in3(k k1 k2 k3:Kd):ya [31,k] [[31,k1],[31,k2],[31,k3]]=decide (k=k1\/k=k2\/k=k3):=by
 show((kS k1==kS k)||((kS k2==kS k)||((kS k3==kS k)||false)))=_;have e:∀a:Kd,(kS a==kS k)=[2,k,a]:=λa=>by
  rw[Bool.eq_iff_iff,beq_iff_eq,decide_eq_true_eq];rw[3,λz=>(DI z).symm,[703]]
 rw[e,e,e,Bool.or_false];simp
theorem Ab(h:Int)(t:Vanbka.Tok)(r:[15]):(tooDeepAt h (t::r)).isSome=if[694]=1 then(if 24<=h then true else(tooDeepAt (h+1) r).isSome) else[4,[694],-1,(tooDeepAt (h -1) r).isSome,(tooDeepAt h r).isSome]:=by
 rw[tooDeepAt,CN.vX,CN.uU];simp only[decide_eq_true_eq];split
 ·rw[18]
 ·rw[18]
theorem uW(k:Kd):(k= .lpar\/k= .iU\/k= .qX)↔CN.delta k=1:=[1135]
theorem tu(k:Kd):(k= .rpar\/k= .pQ\/k= .iL)↔CN.delta k= -1:=[1135]
theorem OO(F:[9,"brackets_too_deep","brackets_too_deep",QR])(T:[155]) {tk0:PySem.Tok}(mb:mg "BRACKETS_TOO_DEEP"=some (.int 25 tk0)):[2,1,f,fd,["tokens"],L7 TC]:=by
 refine F.okN wq [20] [21]
 ·rw[32]
 obtain⟨l,ts,rfl,⟨as,hL,hP⟩,q⟩:=h;rw[10,ae (aI (i:=1) wq.nd rfl [173] aH) (ae (j9 lL rfl (eQ (pv 0)) [91,2,wq.nd] (ah (bf [75,[358],[593]] (ae [97,1,wq.nd] (ah (bf [14,yy,pv 1,[23,25,mb]] (ah (aG FN)) aO))) (ah (bf [75,[358],[593]] (ah (o3 (i:=1) wq.nd rfl [173] aH SQ)) aO))))) (ah (aG FN))),[22,l,[73,hL],gS (K:=K) (a:=l) (xs:=[70]) (λi σ H'=>∃(h:Int) (v:[71]),σ=[[4,l],some (.int h),v]/\[35]/\[906].isSome=(tooDeepAt h (ts.drop i)).isSome) ⟨0,none,rfl,[251],rfl⟩ (λi σ H' _ ⟨_,_,_,s1,_⟩=>bP.of [35,hL]) ?_ ?_]]
 ·rintro i y σ H' hi ⟨h,v,rfl,s1,e⟩;obtain⟨a,ha,rfl⟩:∃a,[70,as]:=by
   rw[List.getElem?_map] at hi;cases e:as[i]? with
    |none=>rw[7]
    |some z=>rw[10]
  have mK:i<ts.length:=by
   rw[<-[252]];exact[25,ha]
  rw[70];obtain⟨a',ha',hT⟩:=rQ hP ht;rw[ha] at ha';cases ha';obtain⟨dx,vv,KC,_⟩:=hT;have ed:ts.drop i=t::ts.drop (i+1):=by
   rw[46,mK];rw[List.getElem?_eq_getElem mK] at ht;rw[Option.some.inj ht]
  rw[ed,Ab] at e;refine[2,a,TC,dx,_,_,rfl,[35,KC],T.cl,T.nk,pK _ _ _,(by rw[26]),[352]];have s2:aS H (upd H' tp (.tup [775])):=λb o z=>by rw[0,aj (aq [101] ou),[101]]
  refine[83,tp,[775]];show[44,if[256] then _ else ya [64,[31]] [775]];rw[[187],in3];refine er [52] [52]
  ·have h1:=(uW _).mp [276];rw[if_pos h1] at e;rw[1,[779],[320]];refine er [66] [66]
   ·have h2:[2,25]<=h+1:=[858];rw[if_pos [2]] at e;have q:=q _ s2;rw[12]
   ·have h2:¬[2,25]<=h+1:=[50,h2];rw[[688]] at e;exact⟨_,_,rfl,s2,e⟩
  ·have h1:¬[694]=1:=λz=>h1 (decide_eq_true ((uW _).mpr z));rw[[221]] at e;refine[2,a,TC,dx,_,_,rfl,[15,KC],T.cl,T.nk,pK _ _ _,(by rw[26]),λtq htq=> ?_];have s3:aS H (upd (upd H' tp (.tup [775])) tq (.tup [1008])):=λb o z=>by rw[0,aj (aq [15,z] htq),[15,z]]
   refine[83,tq,[1008]];show[44,if[256] then _ else ya [64,[31]] [1008]];rw[[187],in3];refine er [66] [66]
   ·have h2:=(tu _).mp [858];rw[if_pos h2] at e;exact⟨_,rfl,_,_,rfl,rfl,_,_,rfl,s3,e⟩
   ·have h2:¬[694]= -1:=λz=>h2 (decide_eq_true ((tu _).mpr z));rw[[193]] at e;exact⟨_,_,rfl,s3,e⟩
 ·rintro σ H' ⟨h,v,rfl,s1,e⟩;rw[List.length_map,[252],List.drop_length] at e;have q:=q _ s1;rw[12]
end
def pM(l:Addr)(p:Int):[67]:=aL "place" (.int p) (aL "tokens" [40] [])
theorem oF(l:Addr)(p:Int):[57,pM l p,"tokens"]=some [40]:=rfl
theorem kW(l:Addr)(p:Int):[57,pM l p,"place"]=some (.int p):=rfl
theorem Ax(l:Addr)(p p':Int):[10,"place",p',pM l p]=pM l p':=rfl
def aE(c:Addr)(H H':Hp):Prop:=[392,b≠c]
theorem aE.refl(c:Addr)(H:Hp):aE c H H:=λ_ _ h _=>h
theorem aE.trans {H2:Hp}(a:aE c H H1)(b:aE c H1 H2):[445]:=λx o h n=>b x o (a x o h n) n
theorem aE.same(a:[294]):aE c H H1:=λx o h _=>a x o h
def uI(CC:Addr)(H:Hp)(c:Addr):Prop:=∃dx l p,[5,c,[9,CC,pM l p]]
theorem C8 {CC TC Jp:Addr} {p e:Int} {k:Str} {v:V}:HO.ins CC dx (pM l p)≠HO.ins TC Jp [488]:=λz=>by
 injection z with _ _ z;have:=congrArg (λfs=>[138,"kind"]) z;rw[pK] at this;cases this
theorem mX.gU {CC TC:Addr} {a:Addr} {t:Vanbka.Tok}(h:[370])(hc:[390])(k:[81]):[670]:=by
 obtain⟨dx,v,e,q⟩:=h;obtain⟨dc,l,p,hc⟩:=hc;refine[15,dx,v,k _ _ e (dw e hc λz=>C8 z.symm)];have tp:∀b bs,[1222]:=λb bs z=>k _ _ z [13,z,hc];revert q;cases t.lex with
  |word w=>
   intro q;show[221,[140,[8,b,HO.tup (bV w)]]];have q:[735]:=q;by_cases c:[572]
   ·rw[if_pos c] at q ⊢;exact q
   ·rw[if_neg c] at q ⊢;obtain⟨b,e,q⟩:=q;rw[0,b,e,tp _ _ q]
  |num n=>exact λq=>q
  |quoted s=>rw[95]
  |sign s=>exact λq=>q
def fL(CC TC l:Addr)(all:[15])(H:Hp)(c:Addr)(ts:[15]):Prop:=∃(dx:Addr) (p:Nat),[5,H c,[9,CC,pM l [120]],mY TC H l all,p<=all.length/\ts=[253]]
theorem fL.is {CC TC:Addr} {all:[15]}(h:[39]):[390]:=by
 obtain⟨dx,p,e,_⟩:=h;rw[0,dx,l,p,e]
theorem fL.same {CC TC:Addr} {all:[15]}(h:[39])(s:[35]):[136,H']:=by
 obtain⟨dx,p,e,t,r⟩:=h;exact⟨dx,p,s _ _ e,t.mono s,r⟩
structure mQ(K:PySem.W.Frag)(mg:Str->Option Value)(CC fA fS fT fF:Addr)(je de jc jv:FuncData):Prop where
 cl:CQ K CC
 nt:eB K CC "tokens"
 np:eB K CC "place"
 mA:Meth K CC "ahead" fA
 FA:ot K "ahead" "Cursor.ahead" (inClass (top I.Cursor) 1) fA je
 bA:Binds K je ["self","steps"] []
 mS:Meth K CC "sees" fS
 FS:ot K "sees" "Cursor.sees" (inClass (top I.Cursor) 2) fS de
 bS:Binds K de ["self","kind"] []
 mT:Meth K CC "take" fT
 FT:ot K "take" "Cursor.take" (inClass (top I.Cursor) 3) fT jc
 bT:Binds K jc ["self","kind"] []
 mF:Meth K CC "takes_if_seen" fF
 FF:ot K "takes_if_seen" "Cursor.takes_if_seen" (inClass (top I.Cursor) 4) fF jv
 bF:Binds K jv ["self","kind"] []
theorem ik {p:Int} {m:Str}(h1:¬m="tokens")(h2:¬m="place"):(pM l p).lookup m=none:=by
 unfold pM;rw[lK,[193],lK,[221]];rfl
section
variable {P:Program} {w:World} {K:PySem.W.Frag} {mg:[16]} {base:Heap} {C f TC CC fI fA fS fT fF:Addr} {fd gR je de jc jv:FuncData} {bm:[6]} {newId aP B:String}
def uC(CC TC:Addr):Sp:=λvs H Q _=>∃(l:Addr) (all:[15]) (c:Addr) (k:Nat) (ts:[15]),vs=[12,c,.int k]/\[39]/\Q [64,hd (ts.drop k)] H
theorem Pj:aA ["self","steps"] ["self","steps"] (ai [130,1]):=[11]
theorem By(Z:[395])(T:[155])(ml:[135]):[406,uC CC TC]:=by
 refine Z.FA.okN Pj [20] [21]
 ·rw[14]
 obtain⟨l,all,c,k,ts,rfl,⟨dx,p,hc,⟨as,hL,hP⟩,hp,rfl⟩,q⟩:=h;rw[10,ae (bf [14,yy,jo nA [37] (pv 1),[34,a8,ml,[324]]] (ah (aG ay)) aO) [17,[375,jo nA [37] (pv 1)]],⟨_,rfl,c,CC,dx,_,_,rfl,hc,Z.cl,Z.np,kW _ _,_,rfl,_,_,rfl,rfl,_,rfl,c,CC,dx,_,_,rfl,hc,Z.cl,Z.nt,oF _ _,l,_,rfl,[67,hL],_,_,rfl,rfl,_,rfl,?_⟩];have hl:[78,[70]]=all.length:=by rw[List.length_map,[252]]
 rw[hl];rw[List.drop_drop] at q;refine er [52] [52]
 ·have h1:[1216]:=[276];rw[List.drop_eq_nil_of_le [2]] at q;exact q
 ·have h1:¬[1216]:=[50,h1];have U1:p+k<all.length:=[2];obtain⟨t,ht⟩:∃t,[2,all,p+k,t]:=[76,U1];obtain⟨a,ha,dt,vt,KC,_⟩:=rQ hP ht;have ed:all.drop (p+k)=t::all.drop (p+k+1):=by
   rw[46,U1];rw[List.getElem?_eq_getElem U1] at ht;rw[Option.some.inj ht]
  rw[ed] at q;refine⟨_,rfl,c,CC,dx,_,_,rfl,hc,Z.cl,Z.nt,oF _ _,_,rfl,c,CC,dx,_,_,rfl,hc,Z.cl,Z.np,kW _ _,_,rfl,_,_,rfl,rfl,l,_,_,_,rfl,rfl,[374],at_of (j:=p+k) (v:=[104]) [2] (by rw[89]),a,TC,dt,_,_,rfl,KC,T.cl,T.nk,pK _ _ _,q⟩
def wD(CC TC:Addr):Sp:=λvs H Q _=>[338,vs=[275]/\[39]/\[81,[570]]]
theorem TQ:aA [589] [589] (ai [130,2]):=[11]
theorem zJ(Z:[395])(T:[155])(ml:[135]):[320,wD CC TC]:=by
 have GA:[406,uC CC TC]:=By Z T ml;refine Z.FS.okN TQ [20] [21]
 ·rw[14]
 obtain⟨l,all,c,k,ts,rfl,hc,q⟩:=h;rw[13,[17,rh eV (aD (pv 0) Z.cl Z.mA GA hr Z.bA .nil ao (aa aH af)) (pv 1) (aZ _)]];obtain⟨dx,l',p,nY⟩:=hc.is;rw[1,⟨_,rfl,c,dx,_,rfl,nY,[154],l,all,c,0,ts,rfl,hc,?_⟩,[21,_,rfl,?_]];show Q _ _;rw[oM];exact q
def sQ(CC TC C:Addr):Sp:=[240,[318,match tk k ts with
 | .ok lx r=>[823]
 |_=>[118]]]
theorem Az {CC TC:Addr} {p:Nat} {all:[15]}(hc:[5,c,[9,CC,pM l [120]]])(ht:mY TC H l all)(hp:p<all.length):aE c H [786]/\fL CC TC l all [786] c [696]:=by
 have kc:aE c H [786]:=λb o z n=>by rw[0,aj n,z]
 refine⟨kc,dx,p+1,by rw[ag];rfl,?_,hp,rfl⟩;obtain⟨as,hL,hP⟩:=ht;rw[0,as,kc _ _ hL [13,hL,hc],[98,z.gU ⟨dx,l,p,hc⟩ kc]]
theorem TR:aA [589] [589] (ai [130,3]):=[11]
theorem zK(Z:[395])(T:[155])(G:[226])(ml:[135]):[305,sQ CC TC C]:=by
 have GS:[320,wD CC TC]:=zJ Z T ml;refine Z.FT.okN TR [20] [21]
 ·rw[14]
 obtain⟨l,all,c,k,ts,rfl,hk,hc,q⟩:=h;rw[13,[23,[170,sM (dg [1384])],[739],[375,jo sJ [37] aH]]];obtain⟨dx,p,nY,ht,hp,rfl⟩:=id hc;refine⟨_,rfl,c,dx,_,rfl,nY,[154],_,rfl,l,all,c,k,_,rfl,hc,_,rfl,?_⟩;by_cases hh:hd [253]=k
 ·rw[8,[41,[2,hd [253],k],hh],[55]];have bQ:p<all.length:=by
   rcases Nat.lt_or_ge p all.length with z|z
   ·exact z
   ·rw[[1118]] at hh;exact absurd hh.symm hk
  obtain⟨t,htt⟩:∃t,[2,all,p,t]:=[76,bQ];have ed:[253]=t::[696]:=by
   rw[46,bQ];rw[List.getElem?_eq_getElem bQ] at htt;rw[Option.some.inj htt]
  rw[ed] at q hh;have et:tk k (t::[696])= .ok t.lex [696]:=by
   rw[34];rw[if_pos (show[31]=k from hh)]
  rw[et] at q;obtain⟨kc,Si⟩:=Az nY ht bQ;refine⟨_,rfl,c,CC,dx,_,_,rfl,nY,Z.cl,Z.np,kW _ _,_,_,rfl,rfl,dx,_,nY,(by rw[2,2]),?_⟩;rw[Ax];obtain⟨as,hL,hP⟩:mY TC [786] l all:=by
   obtain⟨as,hL,hP⟩:=ht;rw[0,as,kc _ _ hL [13,hL,nY],[98,z.gU ⟨dx,l,p,nY⟩ kc]]
  obtain⟨a,ha,hT⟩:=rQ hP htt;obtain⟨dt,vt,KC,hv⟩:=id hT;exact⟨_,rfl,c,CC,dx,_,_,rfl,ag,Z.cl,Z.nt,oF _ _,_,rfl,c,CC,dx,_,_,rfl,ag,Z.cl,Z.np,kW _ _,_,_,rfl,rfl,l,_,_,_,rfl,rfl,[374],at_of (j:=p) (v:=[104]) [2] (by rw[89]),a,TC,dt,_,_,rfl,KC,T.cl,T.nv,EF _ _ _,q _ _ kc Si hv⟩
 ·rw[8,[20,hd [253],k,hh],bY ?_];have et:∀lx r,tk k [253]≠[12,lx]:=λlx r e=>by
   revert e hh;cases all.drop p with
    |nil=>
     intro _ e;cases e
    |cons t r'=>
     intro hh e;unfold tk at e;dsimp only at e;rw[22,if_neg (show¬[31]=k from hh)]
  cases e:tk k (all.drop p) with
   |ok lx r=>exact[126,et lx r]
   |bad=>rw[12]
   |out=>rw[12]
def Cc(CC TC:Addr):Sp:=λvs H Q _=>[338,[318,[1035]/\[1016]]]
theorem QT:aA ["self","kind","seen"] [589] (ai [130,4]):=[11]
theorem Ea(Z:[395])(T:[155])(ml:[135]):[306,Cc CC TC]:=by
 have GS:[320,wD CC TC]:=zJ Z T ml;refine Z.FF.okN QT [20] [21]
 ·rw[14]
 obtain⟨l,all,c,k,ts,rfl,hk,hc,q1,q2⟩:=h;rw[13,[37,QT.nd,[1384],bf (dg (pv 2)) (ah [739]) aO]];obtain⟨dx,p,nY,ht,hp,rfl⟩:=id hc;rw[1,⟨_,rfl,c,dx,_,rfl,nY,[154],_,rfl,l,all,c,k,_,rfl,hc,?_⟩,[91,?_]];by_cases hh:hd [253]=k
 ·rw[8,[41,[2,hd [253],k],hh],bY ?_];have bQ:p<all.length:=by
   rcases Nat.lt_or_ge p all.length with z|z
   ·exact z
   ·rw[[1118]] at hh;exact absurd hh.symm hk
  obtain⟨kc,Si⟩:=Az nY ht bQ;refine⟨_,rfl,c,CC,dx,_,_,rfl,nY,Z.cl,Z.np,kW _ _,_,_,rfl,rfl,dx,_,nY,(by rw[2,2]),?_⟩;rw[Ax];rw[6,q1 hh _ kc (by rw[List.drop_drop];exact Si)]
 ·rw[0,[20,hd [253],k,hh],bg [9,q2 hh]]
end
end
end CP
end
section
namespace CP
open PySem PySem.Spec PyProof.Rows L2
open Vanbka (Bytes Lex reserved)
open CN (Kd kdOf hd tk Res d6 cU dn wordOf numOf)
section
variable {ts r:[15]} {l:Lex} {H:Hp}
theorem Aa(h:tk .number ts=[12,l]):∃n,l= .num n:=by cases ts with
 |nil=>cases h
 |cons t r'=>
  rw[65];by_cases e:[31]= .number
  ·rw[23,[379]];cases hl:t.lex with
    |num n=>rw[3,n,rfl]
    |quoted n=>rw[59]
    |word v=>
     rw[111]
     ·rw[22,[11,[54,v],.name,CN.cw h]]
     ·rw[[60,CN.gQ hp]] at e;exact[126,([33,∀p∈CN.aW,p.2≠Kd.number]) p hp]
    |sign v=>
     rw[112]
     ·rw[22,[11,[90,v],.bad,CN.cw h]]
     ·rw[[60,CN.d5 hp]] at e;exact[126,([33,∀p∈CN.aU,p.2≠Kd.number]) p hp]
  ·rw[23,[343]]
theorem rO(h:tk .name ts=[12,l]):∃n,l= .word n/\[8,[862]]:=by cases ts with
 |nil=>cases h
 |cons t r'=>
  rw[65];by_cases e:[31]= .name
  ·rw[23,[379]];exact CN.qV.mp e
  ·rw[23,[343]]
theorem ph {n:Bytes} {v:V}(hr:[8,[862]])(h:nV H (.word n) v):[148,n]:=by
 have h:[5,[862],v= .cg,[148,n]]:=h;rw[hr] at h;exact h
def GZ {α:Type}(CC TC C l:Addr)(all:[15])(c:Addr)(H:Hp)(E:XK)(m:[65])(q:[10,α]):Prop:=match m with
 | .ok a r=>∀H',([81])->([161])->q a H'
 |_=>[118]
section
variable {P:Program} {w:World} {K:PySem.W.Frag} {mg:[16]} {base:Heap} {C f TC CC fI fA fS fT fF:Addr} {fd gR je de jc jv:FuncData} {bm:[6]} {newId aP B:String}
theorem kY {Q:VK} {E:XK} {l c:Addr} {all:[15]} {k:Kd}(hk:[144])(hc:[39])(ok:∀lx r,[234]=[12,lx]->[823])(no:[234]= .bad->[118]):sQ CC TC C [275] H Q (tV C E):=by
 refine⟨l,all,c,k,ts,rfl,hk,hc,?_⟩;cases e:tk k ts with
  |ok lx r=>exact ok lx r e
  |bad=>exact λ_=>no e
  |out=>
   exfalso;revert e;cases ts<;>(rw[98])<;>intro z<;>cases z
abbrev LM:Stmt:=top I.lA
theorem Pq:aA [84] [84] (ai LM):=[11]
def F8(CC TC C:Addr):Sp:=[348,vs=[.ref c]/\[39]/\GZ CC TC C l all c H E (d6 ts) λz H'=>Q (.int z) H']
theorem Lm(F:[9,"read_whole","read_whole",LM])(Z:[395])(T:[155])(G:[226])(ml:[135]):[2,4,f,fd,[84],F8 CC TC C]:=by
 have GT:[305,sQ CC TC C]:=zK Z T G ml;have GF:[306,Cc CC TC]:=Ea Z T ml;refine F.okN Pq [20] [21]
 ·rw[15]
 obtain⟨l,all,c,ts,rfl,hc,q⟩:=h;rw[13,ae [19,[1038],QL Mz [642]] [17,[642]]];obtain⟨dx,l',p,nY⟩:=hc.is;unfold d6 at q;refine[167,[154],.sub]
 ·rw[9];rw[3,bY ?_];obtain⟨dx1,l1,p1,hc1'⟩:=c1.is;refine⟨_,rfl,c,dx1,_,rfl,hc1',[154],kY (k:= .number) [3] c1 [1119] λe=> ?_⟩
  ·obtain⟨n,rfl⟩:=Aa e;rw[e] at q;have hv:v=[6,n]:=hv;subst hv;rw[6,q H2 (k1.trans k2) c2]
  ·rw[12]
 ·rw[6];rw[1,[9,[55]],⟨_,rfl,c,dx,_,rfl,nY,[154],kY (k:= .number) [3] hc [1119] λe=> ?_⟩]
  ·obtain⟨n,rfl⟩:=Aa e;rw[e] at q;have hv:v=[6,n]:=hv;subst hv;exact q H2 k2 c2
  ·rw[12]
end
end
section
variable {H H':Hp} {c a l:Addr} {xs:[13]} {ts:[15]}
def cj(H:Hp)(l:Addr)(ns:[23]):Prop:=[404,[30,[954],ns]]
theorem Iq {CC:Addr}(h:[29,[119]])(hc:[390])(k:[81]):[8,a,[119]]:=by
 obtain⟨dx,l,p,hc⟩:=hc;exact[758]
theorem yh {CC:Addr}(h:[29,[60]])(hc:[390])(k:[81]):[8,a,[60]]:=by
 obtain⟨dx,l,p,hc⟩:=hc;exact[758]
theorem cj.gU {CC:Addr} {ns:[23]}(h:[377])(hc:[390])(k:[81]):cj H' l ns:=by
 obtain⟨as,hL,hP⟩:=h;rw[0,as,yh hL hc k,[70,hP,Iq z hc k]]
theorem fL.fO {CC TC tl:Addr} {all:[15]} {H:Hp} {c l:Addr} {ts:[15]} {xs ys:[13]}(h:[245,H])(hl:[37,l])(gx:tl≠l):fL CC TC tl all [51,l] c ts:=by
 obtain⟨dx,p,e,⟨as,hL,hP⟩,r⟩:=h;exact⟨dx,p,by rw[0,aj [13,e,hl],e],⟨as,by rw[0,aj gx,hL],[98,z.fO hl]⟩,r⟩
theorem fL.rP {CC TC tl:Addr} {all:[15]}(h:[245,H])(hn:[5,l]):tl≠l:=by
 obtain⟨dx,p,e,⟨as,hL,hP⟩,r⟩:=h;exact aq hL hn
theorem fL.Vz {CC TC tl:Addr} {all:[15]}(h:[245,H])(hn:[5,l]):c≠l:=by
 obtain⟨dx,p,e,_⟩:=h;exact aq e hn
theorem lC {k:Kd} {l:Lex} {r:[15]}(h:[234]=[12,l]):[90]=ts.length:=by cases ts with
 |nil=>cases h
 |cons t r'=>
  rw[65];split at h
  ·cases h;rfl
  ·cases h
theorem jE {k:Kd}(h:[12]=k)(hk:[144]):[1224]:=by cases ts with
 |nil=>exact absurd h.symm hk
 |cons t r=>rfl
section
variable {P:Program} {w:World} {K:PySem.W.Frag} {mg:[16]} {base:Heap} {C f TC CC fI fA fS fT fF:Addr} {fd gR je de jc jv:FuncData} {bm:[6]} {newId aP B:String}
abbrev FX:Stmt:=top I.gH
theorem B0:aA [43,"parameters"] [84] (ai FX):=[11]
def B9(CC TC C:Addr):Sp:=[348,vs=[.ref c]/\[39]/\ts.length<=2000/\[352,cU ts]]
theorem HN(F:[9,"read_parameters","read_parameters",FX])(Z:[395])(T:[155])(G:[226])(ml:[135]):[2,4,f,fd,[84],B9 CC TC C]:=by
 have GT:[305,sQ CC TC C]:=zK Z T G ml;have GF:[306,Cc CC TC]:=Ea Z T ml;refine F.okN B0 [20] [21]
 ·rw[15]
 obtain⟨l,all,c,ts,rfl,hc,kn,q⟩:=h;have mF:∀ {H:Hp} {c:Addr},([390])->∃dx fs,H c=some [48,CC]/\[138,"takes_if_seen"]=none/\[138,"take"]=none:=λ⟨dx,l,p,e⟩=>⟨dx,_,e,[154],[154]⟩;rw[13,[3,[19,[1038],bz af],[16,B0.nd,[61,[642]]],gd lL [1038] [67,pv 1,[642]],aF [642],pv 1]];unfold cU at q;obtain⟨dx,fs,nY,f1,f2⟩:=mF hc.is;refine[167,f1,.rpar]
 ·rw[9];rw[1,[9,bY ?_],[579]];have s1:aS H1 (upd H1 pl [106]):=λb o z=>by rw[0,aj (aq z bQ),z]
  have hn:[5,pl]:=by cases e:H pl with
   |none=>rfl
   |some o=>
    rw[k1 pl o e (Ne.symm (c1.Vz bQ))] at bQ;cases bQ
  exact q _ (k1.trans [549]) (c1.same s1) pl hn ⟨[],ag,.nil⟩
 rw[6];rw[1,[9,[55]],⟨_,rfl,c,dx,_,rfl,nY,f2,kY (k:= .name) [3] hc (λlx r e H1 v k1 c1 hv=> ?_) λe=>by rw[12]⟩];obtain⟨n0,rfl,SG⟩:=rO e;rw[e] at q;obtain⟨nb,rfl,AU⟩:=ph SG hv;have hlen:=lC e;refine⟨(by rw[2]),[92]⟩;have s1:aS H1 (upd H1 pl (.lst [.ref nb])):=λb o z=>by rw[0,aj (aq z bQ),z]
 have hn:[5,pl]:=by cases e:H pl with
  |none=>rfl
  |some o=>
   rw[k1 pl o e (Ne.symm (c1.Vz bQ))] at bQ;cases bQ
 have Qz:=c1.rP bQ;have q:[352,[346,dn [90] [n0] r]]:=q;rw[6,λm σ H'=>[164,m,[590]<=2000/\σ=[[4,c],[233]]/\[81]/\[1336]],⟨_,_,_,r,rfl,[8],by rw[0],rfl,k1.trans [549],c1.same s1,⟨[nb],ag,[55,[35,AU]]⟩,q⟩];rintro m σ H' ⟨k,acc,r,rfl,hk,h2,rfl,kc,cc,nm,q⟩;obtain⟨k,rfl⟩:∃k',k=k'+1:=[72,k -1];unfold dn at q;obtain⟨dx1,fs1,Yp,g1,g2⟩:=mF cc.is;refine⟨_,rfl,c,dx1,_,rfl,Yp,g1,l,all,c,.comma,r,rfl,[3],cc,[863],[156]⟩
 ·rw[9];rw[1,[9,bY ?_],[21,λcR H'=>[77,r.length,[164,m',[590]<=2000/\cR=[[4,c],[233]]/\[81]/\[1336]]],[203]]];have nm2:=nm.gU cc.is k2;obtain⟨IX,hL2,hP2⟩:=id nm2;obtain⟨IB,fs2,hc2,g3,g4⟩:=mF c2.is;refine⟨_,rfl,[14,hL2],_,rfl,c,IB,_,rfl,hc2,g4,kY (k:= .name) [3] c2 [1120] λe=>by rw[12]⟩;obtain⟨n3,rfl,YV⟩:=rO e3;rw[e3] at q;obtain⟨nb3,rfl,hnb3⟩:=ph YV U4;have vc:=lC e3;have hl4:=jE hh [3];obtain⟨Uz,xX,UN⟩:=nm2.gU c2.is k3;have Fj:Uz.length=acc.length:=Paired.length UN;refine[2,pl,_,_,rfl,xX,(by rw[List.length_map,Fj];rw[21,acc.length]),?_];have tp:[126,H3 b,[1286]]:=λb xs z=>by rw[0,aj [13,z,xX],z]
  refine⟨r3.length,[2],k,acc++[n3],r3,rfl,[2],by rw[0],rfl,λb o z nc=> ?_,c3.fO xX Qz,⟨Uz++[nb3],by rw[4],bB (G:=λa n=>[290,[1286]]) (tp _ _ hnb3) [70,UN,tp _ _ z]⟩,q⟩;rw[0,aj (aq z hn),k3 _ _ (k2 _ _ (kc _ _ z nc) nc) nc]
 ·rw[6];rw[1,[9,[55]],⟨_,rfl,c,dx1,_,rfl,Yp,g2,kY (k:= .rpar) [3] cc [1120] λe=>by rw[CN.Res.cJ,e] at q;exact q⟩];rw[CN.Res.cJ,e3] at q;rw[6,q H3 [434] c3 pl hn [914]]
end
end
end CP
end
section
namespace CP
open PySem PySem.Spec PyProof.Rows L2
open Vanbka (Bytes Lex reserved)
open CN (Kd kdOf hd tk Res)
section
variable {G G':[18]} {H H':Hp} {CC:Addr}
def kq(k:Str)(p b n ns v:V)(d:Int):[67]:=[10,"depth",d,aL "value" v (aL "names" ns (aL "name" n (aL "blocks" b (aL "parts" p (aL "kind" (.str k) [])))))]
theorem bL(k:Str)(p b n ns v:V)(d:Int):[57,[270],"kind"]=some (.str k):=rfl
theorem Bu(k:Str)(p b n ns v:V)(d:Int):[57,[270],"parts"]=some p:=rfl
theorem jn(k:Str)(p b n ns v:V)(d:Int):[57,[270],"blocks"]=some b:=rfl
theorem iX(k:Str)(p b n ns v:V)(d:Int):[57,[270],"name"]=some n:=rfl
theorem tK(k:Str)(p b n ns v:V)(d:Int):[57,[270],"names"]=some ns:=rfl
theorem tJ(k:Str)(p b n ns v:V)(d:Int):[57,[270],"depth"]=some (.int d):=rfl
def y8(H:Hp)(t:CN.TV)(v:V):Prop:=match t with
 | .none=>v= .cg
 | .num n=>v=[6,n]
 | .quoted s=>[148,s]
 | .three x lo hi=>[140,[22,.tup [.int x,.int lo,.int hi]]]
 | .choice n l=>∃b q as,v=[25]/\H b=some (.tup [[6,n],.ref q])/\H q=some (.tup [70])/\[30,λa s=>[29,[46,s]],l]
def mW(H:Hp)(n:[74])(v:V):Prop:=match n with
 |none=>v= .cg
 |some x=>[148,x]
inductive gj(NC:Addr)(G:Addr->Prop)(H:Hp):Addr->CN.T->Prop
 |mk (a dx pl bl nl:Addr) (nv vv:V) (cK om:List Addr) (MR:List (List Addr)) (t:CN.T)
  (h:H a=some (.ins NC dx (kq (kS t.kind) (.ref pl) (.ref bl) nv (.ref nl) vv (t.depth:Int))))
  (hp:H pl=some (.lst (cK.map V.ref))) (gp:G pl) (lp:cK.length=t.parts.length)
  (pp:∀(i:Nat) (a':Addr) (t':CN.T),cK[i]? =some a'->t.parts[i]? =some t'->gj NC G H a' t')
  (hb:H bl=some (.lst (om.map V.ref))) (gb:G bl) (lb:om.length=t.blocks.length) (lc:MR.length=t.blocks.length)
  (bb:∀(i:Nat) (b':Addr) (cs:List Addr),om[i]? =some b'->MR[i]? =some cs->H b'=some (.lst (cs.map V.ref))/\G b')
  (bl':∀(i:Nat) (cs:List Addr) (ts:List CN.T),MR[i]? =some cs->t.blocks[i]? =some ts->cs.length=ts.length)
  (bt:∀(i j:Nat) (cs:List Addr) (ts:List CN.T) (a':Addr) (t':CN.T),MR[i]? =some cs->t.blocks[i]? =some ts->cs[j]? =some a'->ts[j]? =some t'->gj NC G H a' t')
  (hn:mW H t.name nv) (qk:cj H nl t.names) (gn:G nl) (hv:y8 H t.value vv):gj NC G H a t
structure Ch(NC:Addr)(G G':Addr->Prop)(H H':Hp):Prop where
 ls:∀b xs,H b=some (.lst xs)->G b->H' b=some (.lst xs)/\G' b
 tp:∀b xs,H b=some (.tup xs)->H' b=some (.tup xs)
 nd:∀b dx k p bb n ns v d,H b=some (.ins NC dx (kq k p bb n ns v d))->H' b=some (.ins NC dx (kq k p bb n ns v d))
theorem mW.ch {NC:Addr}(c:[366]) {n:[74]} {v:V}(h:mW H n v):mW H' n v:=by cases n with
 |none=>exact h
 |some x=>
  obtain⟨b,e,q⟩:=h;rw[0,b,e,c.tp _ _ q]
theorem y8.ch {NC:Addr}(c:[366]) {n:CN.TV} {v:V}(h:y8 H n v):y8 H' n v:=by cases n with
 |none=>exact h
 |num x=>exact h
 |quoted x=>
  obtain⟨b,e,q⟩:=h;rw[0,b,e,c.tp _ _ q]
 |three x lo hi=>
  obtain⟨b,e,q⟩:=h;rw[0,b,e,c.tp _ _ q]
 |choice n l=>
  obtain⟨b,q,as,e,e1,e2,e3⟩:=h;exact⟨b,q,as,e,c.tp _ _ e1,c.tp _ _ e2,Paired.cf e3 λa s z=>c.tp _ _ z⟩
theorem gj.ch {NC:Addr} {G G':[18]} {H H':Hp}(c:[366]) {a:Addr} {t:CN.T}(h:[164]):gj NC G' H' a t:=by induction h with
 |mk a dx pl bl nl nv vv cK om MR t h hp gp lp pp hb gb lb lc bb bl' bt hn qk gn hv ih1 ih2=>
  obtain⟨zE,hL,hP⟩:=qk;exact .mk a dx pl bl nl nv vv cK om MR t (c.nd _ _ _ _ _ _ _ _ _ h) (c.ls _ _ hp gp).1 (c.ls _ _ hp gp).2 lp ih1 (c.ls _ _ hb gb).1 (c.ls _ _ hb gb).2 lb lc (λi b' cs e1 e2=>c.ls _ _ (bb i b' cs e1 e2).1 (bb i b' cs e1 e2).2) bl' ih2 (hn.ch c) ⟨zE,(c.ls _ _ hL gn).1,[70,hP,c.tp _ _ z]⟩ (c.ls _ _ hL gn).2 (hv.ch c)
def bM(NC:Addr)(G:[18])(H:Hp)(l:Addr)(ts:[29]):Prop:=∃as:[14],[5,H l,[181],G l,as.length=ts.length/\∀(i:Nat) (a:Addr) (t:CN.T),([369])->[3,ts,t]->[164]]
theorem bM.ch {NC:Addr} {G G':[18]} {H H':Hp}(c:[366]) {l:Addr} {ts:[29]}(h:[582]):bM NC G' H' l ts:=by
 obtain⟨as,hL,g,hl,q⟩:=h;exact⟨as,[468].1,[468].2,hl,[1407]⟩
theorem Ch.same {NC:Addr}(s:[35]):[454]:=[40,[283,s _ _ h],λb xs h=>s _ _ h,s _ _ h]
theorem Ay {NC dx Jp l:Addr} {q:Int} {k:Str} {p b n ns v:V} {d:Int}:HO.ins CC dx (pM l q)≠HO.ins NC Jp [270]:=λz=>by
 injection z with _ _ z;have:=congrArg (λfs=>[138,"kind"]) z;rw[bL] at this;cases this
theorem Ch.gU {NC c:Addr}(hc:[390])(k:[81]):[454]:=by
 obtain⟨dc,l,p,hc⟩:=hc;rw[0,[283,[758]],λb xs h=>[758],λ_ _ _ _ _ _ _ _ _ h=>k _ _ h (dw h hc λz=>Ay z.symm)]
theorem Ch.upd {NC l:Addr} {G:[18]} {H:Hp} {xs ys:[13]}(hl:[37,l])(hg:¬G l):Ch NC G G H [51,l]:=[40,λb zs h g=>⟨by rw[0,aj (show b≠l from λz=>hg (by rw[<-z];exact g)),h],g⟩,(λb zs h=>by rw[0,aj [13,h,hl],h]),(by rw[0,aj [13,h,hl],h])]
theorem gj.node {NC:Addr} {a:Addr} {t:CN.T}(h:[164]):∃dx p b n ns v,[29,[9,NC,kq (kS t.kind) p b n ns v [205]]]:=by cases h with
 |mk a dx pl bl nl nv vv cK om MR t h=>exact⟨dx,_,_,_,_,_,h⟩
theorem Gq(l:[29]):(match EX (l.map λt=>[205]) with|none=>[211]|some m=>V.int m)=[13,CN.aX l]:=by
 have gen:∀(l:[29]) (m:Nat),(l.map λt=>[205]).foldl Aq (some [2,m])=some [11,max m (CN.aX l)]:=by
  intro l;induction l with
   |nil=>
    intro m;simp[CN.aX]
   |cons t r ih=>
    intro m;rw[List.map_cons,List.foldl_cons];have:Aq (some [2,m]) [205]=some [11,max m t.depth]:=by
     show some (if[205]>[2,m] then[205] else[2,m])=_;split<;>(congr 1;omega)
    rw[this,ih];show some [11,max (max m t.depth) (CN.aX r)]=some [11,max m (max t.depth (CN.aX r))];rw[Nat.max_assoc]
 cases l with
  |nil=>rfl
  |cons t r=>
   unfold EX;rw[List.map_cons,List.foldl_cons];show(match(r.map λt=>[205]).foldl Aq (some [205]) with|none=>[211]|some m=>V.int m)=_;rw[gen r t.depth];rfl
theorem jW {X:Cx} {K:PySem.W.Frag} {e:Expr} {ta:TE} {f:Str} {pos:Pos}(hK:X.K=K)(he:PE X e ta)(hb:[1401]):PE X [963] (tFld K ta f):=by
 subst hK;exact aJ he hb
structure NodeCls(K:PySem.W.Frag)(NC:Addr):Prop where
 cl:CQ K NC
 n1:eB K NC "kind"
 n2:eB K NC "parts"
 n3:eB K NC "blocks"
 n4:eB K NC "name"
 n5:eB K NC "names"
 n6:eB K NC "value"
 n7:eB K NC "depth"
section
variable {P:Program} {w:World} {K:PySem.W.Frag} {mg:[16]} {base:Heap} {f NC fP:Addr} {fd Qj:FuncData}
abbrev ZU:Stmt:=top I.gL
theorem TN:aA ["nodes","node"] ["nodes"] (ai ZU):=[11]
def T2(NC:Addr):Sp:=λvs H Q _=>∃(G:[18]) (l:Addr) (ts:[29]),vs=[[40]]/\[582]/\ts.length<=2000/\[246,[6,CN.aX ts]]
theorem QK(F:[9,"program_depth","program_depth",ZU])(Y:NodeCls K NC)(mm:[87,"max"]):aC P w K mg base fi 1 f fd ["nodes"] (T2 NC):=by
 refine F.ok TN [20] [21]
 ·rw[31]
 obtain⟨G,l,ts,rfl,⟨as,hL,_,hlen,hT⟩,kn,q⟩:=h;rw[10,[17,O3 rfl rfl mm [16,[3,[("node",1)],TN.nd,eQ (pv 0),iH (by show tW ["nodes","node"] (ai ZU) _ _=true;decide+kernel),[104,1,TN.nd],λ_ _ _ _ _=>rm,[257,pv 1]]] aH],[22,l,[73,hL],λD hD=> ?_]];have sD:[929]:=λb o z=>by rw[0,aj (aq z hD),z]
 refine zw (K:=K) (a:=l) (xs:=[70]) (λi H'=>[35]/\[86,D,([510].map λt=>[205]).map V.int]) ⟨sD,ag⟩ [376,hL] ?_ ?_
 ·rintro i y H' hi ⟨s1,MS⟩;obtain⟨a,ha,rfl⟩:∃a,[70,as]:=by
   rw[List.getElem?_map] at hi;cases e:as[i]? with
    |none=>rw[7]
    |some z=>rw[10]
  have mK:i<ts.length:=by rw[29,ha]
  rw[70];obtain⟨dx,p,b,n,ns,v,hN⟩:=[985].node;rw[1,[124],⟨_,rfl,a,NC,dx,_,_,rfl,[35,hN],Y.cl,Y.n7,tJ _ _ _ _ _ _ _,_,MS,?_,?_,?_⟩]
  ·rw[List.length_map,List.length_map,List.length_take];rw[21,min i ts.length]
  ·exact λb o z=>by rw[0,aj (aq z hD),[101]]
  ·rw[ag,List.take_add_one,ht,List.map_append,List.map_append];rfl
 ·rintro H' ⟨s1,MS⟩;rw[List.length_map,hlen,List.take_length] at MS;refine⟨D,_,rfl,bP.of MS,?_⟩;have e:=congrArg (λv=>Q v H') (Gq ts);exact(cast e.symm (q H' s1):_)
end
end
section
def iG(NC:Addr)(G:[18])(H:Hp)(l:Addr)(bss:[190]):Prop:=∃om:[14],[5,H l,.lst [682],G l,om.length=bss.length/\∀(i:Nat) (b:Addr) (ts:[29]),[3,om,b]->[3,bss,ts]->[26,b,ts]]
theorem iG.ch {NC:Addr} {G G':[18]} {H H':Hp}(c:[366]) {l:Addr} {bss:[190]}(h:[43,l,bss]):iG NC G' H' l bss:=by
 obtain⟨as,hL,g,hl,q⟩:=h;exact⟨as,[468].1,[468].2,hl,[1407]⟩
section
variable {P:Program} {w:World} {K:PySem.W.Frag} {mg:[16]} {base:Heap} {f NC fP:Addr} {fd Qj:FuncData}
abbrev wm:Stmt:=top I.bX
theorem pI:aA ["parts","blocks","depth","block"] [719] (ai wm):=[11]
def yL(NC:Addr):Sp:=λvs H Q _=>∃(G:[18]) (pl bl:Addr) (ps:[29]) (bss:[190]),vs=[12,pl,.ref bl]/\[26,pl,ps]/\[43,bl,bss]/\ps.length<=2000/\[748]/\[246,[6,CN.bX ps bss]]
theorem D4(F:[9,"deepest","deepest",wm])(Y:NodeCls K NC)(dP:Df K mg "program_depth" ZU ["nodes"] fP Qj)(mm:[87,"max"]):aC P w K mg base fi 2 f fd [719] (yL NC):=by
 have GP:aC P w K mg base fi 1 fP Qj ["nodes"] (T2 NC):=QK dP.F Y mm;refine F.ok pI [20] [21]
 ·rw[14]
 obtain⟨G,pl,bl,ps,bss,rfl,hT,⟨om,hB,gB,hlen,hBs⟩,kn,Se,q⟩:=h;rw[10,[37,pI.nd,[465,[137]],[10,pv 1,3,pI.nd,ah [14,pI.nd,bO (Gy rfl) rfl mm PyProof.Rows.boot_max [18,pv 2,[465,[368]]]]]],⟨_,rfl,G,pl,ps,rfl,hT,kn,λH1 s1=> ?_⟩];refine[22,bl,[158,[35,hB]],gS (K:=K) (a:=bl) (xs:=[682]) (λi σ H'=>[35]/\[133,[[233],[4,bl],[39,[599]],v]]) ⟨s1,none,rfl⟩ (λi σ H' _ z=>bP.of (z.1 _ _ hB)) ?_ ?_]
 ·rintro i y σ H' hi ⟨s2,v,rfl⟩;obtain⟨b,hb,rfl⟩:∃a,[70,om]:=by
   rw[List.getElem?_map] at hi;cases e:om[i]? with
    |none=>rw[7]
    |some z=>rw[10]
  have mK:i<bss.length:=by rw[29,hb]
  obtain⟨ts,ht⟩:∃t,[3,bss,t]:=[183];rw[1,⟨_,rfl,_,rfl,G,b,ts,rfl,(hBs i b ts hb ht).ch (Ch.same s2),Se ts [864],λH3 s3=> ?_⟩,⟨_,_,rfl,[403],[4,b],?_⟩];rw[List.take_add_one,ht];have e:[1279]=max [599] (CN.aX ts):=by
   unfold CN.bX;rw[85]
  show _=[some (V.ref pl),some (V.ref bl),some [13,[1279]],some (V.ref b)];rw[e];have e2:(if[2,CN.aX ts]>[2,[599]] then[2,CN.aX ts] else[2,[599]])=[11,max [599] (CN.aX ts)]:=by split<;>omega
  rw[<-e2];rfl
 ·rintro σ H' ⟨s2,v,rfl⟩;rw[List.length_map,hlen,List.take_length];rw[6,q H' s2]
end
end
section
variable {H H':Hp} {NC a dx l:Addr} {G G':[18]}
def refsOf(xs:[13]):[14]:=xs.filterMap λv=>match v with| .ref a=>some a|_=>none
theorem El(as:[14]):refsOf [70]=as:=by induction as with
 |nil=>rfl
 |cons a r ih=>
  show a::refsOf (r.map V.ref)=_;rw[ih]
def Jg(H:Hp)(b:Addr):[14]:=match H b with
 |some [60]=>refsOf xs
 |_=>[]
theorem ze {b:Addr} {as:[14]}(h:[22,[181]]):Jg H b=as:=by
 unfold Jg;rw[h];exact El as
theorem gj.of {pl bl nl:Addr} {nv vv:V} {t:CN.T}(h:[29,[9,NC,[1454]]])(hp:[26,pl,t.parts])(hb:[43,bl,t.blocks]) (hn:mW H t.name nv)(qk:cj H nl t.names)(gn:G nl)(hv:y8 H t.value vv):[164]:=by
 obtain⟨cK,hp,gp,lp,pp⟩:=hp;obtain⟨om,hb,gb,lb,bb⟩:=hb;have get:∀ {i:Nat} {cs:[14]},(om.map (Jg H))[i]? =some cs->∃b,[3,om,b]/\Jg H b=cs:=λ {i cs} e=>by
  rw[List.getElem?_map] at e;cases e2:om[i]? with
   |none=>rw[24]
   |some b=>
    rw[e2] at e;rw[0,b,rfl,[542]]
 have tsOf:∀ {i:Nat} {b:Addr},[3,om,b]->∃ts,[3,t.blocks,ts]:=λ {i b} e=>[115,(by rw[<-lb];exact[25,e])];refine .mk a dx pl bl nl nv vv cK om (om.map (Jg H)) t h hp gp lp pp hb gb lb (by rw[20,lb]) ?_ ?_ ?_ hn qk gn hv
 ·intro i b' cs e1 e2;obtain⟨b,e3,rfl⟩:=get e2;rw[e1] at e3;cases e3;obtain⟨ts,e4⟩:=tsOf e1;obtain⟨as,hL,g,_,_⟩:=bb i b' ts e1 e4;rw[0,ze hL,⟨hL,g⟩]
 ·intro i cs ts e1 e2;obtain⟨b,e3,rfl⟩:=get e1;obtain⟨as,hL,g,l,_⟩:=bb i b ts e3 e2;rw[0,ze hL,l]
 ·intro i j cs ts a' t' e1 e2 e3 e4;obtain⟨b,e5,rfl⟩:=get e1;obtain⟨as,hL,g,l,z⟩:=bb i b ts e5 e2;rw[ze hL] at e3;exact z j a' t' e3 e4
theorem gj.inv {t:CN.T}(h:[164]):∃(dx pl bl nl:Addr) (nv vv:V),[5,H a,[9,NC,[1454]],[26,pl,t.parts],[43,bl,t.blocks]/\mW H t.name nv/\cj H nl t.names/\G nl/\y8 H t.value vv]:=by cases h with
 |mk a dx pl bl nl nv vv cK om MR t h hp gp lp pp hb gb lb lc bb bl' bt hn qk gn hv=>
  refine⟨dx,pl,bl,nl,nv,vv,h,⟨cK,hp,gp,lp,pp⟩,⟨om,hb,gb,lb,λi b ts e1 e2=> ?_⟩,hn,qk,gn,hv⟩;have hi:i<MR.length:=by
   rw[lc,<-lb];exact[25,e1]
  obtain⟨cs,e3⟩:∃cs,[3,MR,cs]:=[76,hi];exact⟨cs,(bb i b cs e1 e3).1,(bb i b cs e1 e3).2,bl' i cs ts e3 e2,λj a' t' e4 e5=>bt i j cs ts a' t' e3 e2 e4 e5⟩
theorem Ch.weak(h:∀b,G b->G' b):Ch NC G G' H H:=[400,⟨e,h b g⟩]
theorem Ch.trans {G'':[18]} {mV:Hp}(a:[366])(b:Ch NC G' G'' H' mV):Ch NC G G'' H mV:=⟨λx xs e g=>b.ls _ _ (a.ls _ _ e g).1 (a.ls _ _ e g).2,λx xs e=>b.tp _ _ (a.tp _ _ e),λ_ _ _ _ _ _ _ _ _ e=>b.nd _ _ _ _ _ _ _ _ _ (a.nd _ _ _ _ _ _ _ _ _ e)⟩
theorem Bt {k:Str} {p b n ns v:V} {d:Int} {fs:[67]}(h:[916]):fs≠[270]:=λz=>by
 rw[z,tJ] at h;cases h
theorem Ch.A7 {x:Addr} {C:Addr} {fs:[67]}(hx:[5,x,[48,C]])(hf:[916])(k:[402]):[454]:=[40,[283,k _ _ h [13,h,hx]],λb xs h=>k _ _ h [13,h,hx],k _ _ h (dw h hx λz=>by injection z with _ _ z;exact Bt hf z.symm)]
theorem cj.ch(c:[366]) {ns:[23]}(h:[377])(g:G l):cj H' l ns/\G' l:=by
 obtain⟨as,hL,hP⟩:=h;rw[3,⟨as,[468].1,[70,hP,c.tp _ _ z]⟩,[468].2]
theorem bM.nil(h:[5,l,[106]])(g:G l):[26,l,[]]:=[1302]
theorem iG.nil(h:[5,l,[106]])(g:G l):[43,l,[]]:=[1302]
theorem bM.cons {NC:Addr} {G:[18]} {H:Hp} {l:Addr} {as:[14]} {ts:[29]}(h:[5,l,[181]])(g:G l)(p:[899]):[582]:=by
 refine⟨as,h,g,Paired.length p,?_⟩;clear h g;induction p with
  |nil=>
   intro i a t e;simp at e
  |cons r _ ih=>
   intro i a t e1 e2;cases i with
    |zero=>
     rw[37];exact r
    |succ i=>exact ih i a t [677] [865]
theorem bM.paired {ts:[29]}(h:[582]):∃as:[14],[5,H l,[181],G l,[899]]:=by
 obtain⟨as,hL,g,hl,q⟩:=h;refine[15,as,hL,g];clear hL g;induction as generalizing ts with
  |nil=>cases ts with
   |nil=>exact .nil
   |cons t r=>simp at hl
  |cons a r ih=>cases ts with
   |nil=>simp at hl
   |cons t r'=>exact .cons (q 0 a t rfl rfl) (ih (by simpa using hl) λi a t e1 e2=>q (i+1) a t [677] [865])
end
section
variable {x:Addr} {H:Hp} {o:HO}
structure IM(K:PySem.W.Frag)(x qual:Str)(st:Stmt)(f:Addr)(fd:FuncData):Prop where
 ex:∃(oc:Value) (od:Option Addr) (dV kV doc pm:Value) (an:Option Addr) (bU ct:Value) (vY:Array (Option Value)),
  fd=PySem.W.fnOf x qual (il st) (fc st) (ai st) dV kV doc pm an bU ct/\K.lookup f=some ⟨oc,od,.func fd,vY⟩/\PySem.W.codeIn K bU qual=true
theorem IM.ok {P:Program} {w:World} {K:PySem.W.Frag} {mg:[16]} {base:Heap} {x qual:Str} {st:Stmt} {f:Addr} {fd:FuncData} {N ps:[19]} {k:Nat} {sp:Sp}(F:IM K x qual st f fd)(S:aA N ps (ai st))(len:[628]) (qT:[422,[282,[1050]]->([329])->∃t,[1489]/\[200,L2.start N vs]]):[1483]:=by
 obtain⟨oc,od,dV,kV,doc,pm,an,bU,ct,vY,rfl,lk,xZ⟩:=F.ex;refine[418,?_];obtain⟨t,h,q⟩:=[1071];rw[0,t,h.Ta,q]
inductive NP where
 |p|pn|pb|pbn|nv|v|n|pns|bnn
def NP.ks:NP->[19]
 | .p=>["parts"]| .pn=>["parts","name"]| .pb=>[719]| .pbn=>["parts","blocks","name"]| .nv=>["name","value"]| .v=>["value"]| .n=>["name"]| .pns=>["parts","names"]| .bnn=>["blocks","name","names"]
def NP.put {α:Type}(o:α):NP->([34])->([34])->[34]
 | .p,[a,k],[x1]=>[a,k,x1,o,o,o,o]
 | .pn,[a,k],[x1,n1]=>[a,k,x1,o,n1,o,o]
 | .pb,[a,k],[x1,b1]=>[a,k,x1,b1,o,o,o]
 | .pbn,[a,k],[x1,b1,n1]=>[a,k,x1,b1,n1,o,o]
 | .nv,[a,k],[n1,v1]=>[a,k,o,o,n1,o,v1]
 | .v,[a,k],[v1]=>[a,k,o,o,o,o,v1]
 | .n,[a,k],[n1]=>[a,k,o,o,n1,o,o]
 | .pns,[a,k],[x1,s1]=>[a,k,x1,o,o,s1,o]
 | .bnn,[a,k],[b1,n1,s1]=>[a,k,o,b1,n1,s1,o]
 |_,_,_=>[]
abbrev lS:[19]:=["self","kind","parts","blocks","name","names","value"]
abbrev En:Stmt:=top I.jj
structure ES(K:PySem.W.Frag)(mg:Str->Option Value)(NC fN WO fD fP:Addr)(jw JB UG Qj:FuncData):Prop extends NodeCls K NC where
 mC:mg "Node"=some (.ref NC)
 M:Mk K NC fN
 F:IM K "__init__" "Node.__init__" (inClass (top I.Node) 0) fN jw
 b:Binds K jw lS [.none,.none,.none,.none,.none]
 kb:∀p:NP,CT K jw lS p.ks (p.put Value.none) (p.put V.cg)
 dG:Df K mg "given_or_empty" En ["given"] WO JB
 dD:Df K mg "deepest" wm ["parts","blocks"] fD UG
 dP:Df K mg "program_depth" ZU ["nodes"] fP Qj
 mm:mg "max"=none
section
variable {P:Program} {w:World} {K:PySem.W.Frag} {mg:[16]} {base:Heap} {f NC fN WO fD fP:Addr} {fd jw JB UG Qj:FuncData}
theorem Pn:aA ["given"] ["given"] (ai En):=[11]
def zY:Sp:=λvs H Q _=>∃v:V,vs=[v]/\((v= .cg/\∀l H',[5,l]->([35])->[8,l,[106]]->Q [40] H')\/((∃l,v=[40])/\Q v H))
theorem Lh(F:[9,"given_or_empty","given_or_empty",En]):aC P w K mg base fi 1 f fd ["given"] zY:=by
 refine F.ok Pn [20] [21]
 ·obtain⟨_,rfl,_⟩:=h;rfl
 obtain⟨v,rfl,q⟩:=h;rw[13,[17,wb (nE (Tq (pv 0))) (bz af) (pv 0)]];rcases q with⟨rfl,q⟩|⟨⟨l,rfl⟩,q⟩
 ·refine[91,bY ?_];rw[3,[33],λl hl=>q l _ hl (λb o z=>by rw[51]) ag]
 ·exact[91,bg [9,q]]
def Am(R:[695])(H:Hp)(v:V):Prop:=(v= .cg/\∀l H',[5,l]->[8,l,[106]]->R H' l)\/∃l,v=[40]/\R H l
def T1(NC:Addr):Sp:=λvs H Q _=>∃(G:[18]) (x dx:Addr) (k:Kd) (pv bv nv Lc vv:V) (ps:[29]) (bss:[190]) (nm:[74]) (ns:[23]) (tv:CN.TV),vs=[1095]/\[5,H x,[104,NC],[53,[26,l,ps],pv],[53,[43,l,bss],bv]/\mW H nm nv/\[53,[377]/\G l,Lc]/\y8 H tv vv/\ps.length<=2000/\[748]/\∀H',([402])->gj NC G H' x [799]->[199]]
theorem scNI:[25,lS,lS,I.Node]:=[11]
theorem lT {l:Addr} {H':Hp}(k:[402])(hx:[3,H' x])(hl:H' l=none):[5,l]:=by cases e:H l with
 |none=>rfl
 |some u=>
  rw[k l u e (λz=>by rw[z,hx] at hl;cases hl)] at hl;cases hl
def ER(NC x dx:Addr)(R:[695]):Prop:=∀(H1 H2:Hp) (l:Addr) (fs:[67]),H1 x=some [48,NC]->([916])->aE x H1 H2->R H1 l->R H2 l
@[irreducible] def lB:Sp:=zY
theorem tU:lB=zY:=by
 unfold lB;rfl
@[irreducible] def wC(NC:Addr):Sp:=T1 NC
theorem B7 {NC:Addr}:wC NC=T1 NC:=by
 unfold wC;rfl
theorem qh {R:[695]} {dx:Addr} {H1:Hp} {v:V} {fs:[67]} {Q:VK} {E:XK}(mono:ER NC x dx R)(h0:[5,x,[104,NC]])(hv:Am R H v)(k1:aE x H H1)(hx:H1 x=some [48,NC]) (q:∀(l:Addr) (H2:Hp),aE x H1 H2->H2 x=some [48,NC]->R H2 l->Q [40] H2):lB [v] H1 Q E:=by
 rw[tU];rw[6,v,rfl];rcases hv with⟨rfl,hv⟩|⟨l,rfl,hv⟩;rw[2,.inl [18,λl H2 hl s e=>q l H2 (aE.same s) (s _ _ hx) (hv l H2 (lT k1 hx hl) e)],.inr ⟨[41,l],q l H1 (aE.refl _ _) hx (mono H H1 l [] h0 rfl k1 hv)⟩]
theorem iK:aE x H [47,x]:=λb u z n=>by rw[0,aj n,z]
theorem Zw(Y:[1474]):[324,T1 NC]:=by
 have GG:aC P w K mg base fi 1 WO JB ["given"] lB:=by
  rw[tU];exact Lh Y.dG.F
 have GD:aC P w K mg base fi 2 fD UG [719] (yL NC):=D4 Y.dD.F Y.toNodeCls Y.dP Y.mm;refine Y.F.ok scNI [20] [21]
 ·obtain⟨_,_,_,_,_,_,_,_,_,_,_,_,_,_,rfl,_⟩:=h;rfl
 obtain⟨G,x,dx,k,pv',bv,nv,Lc,vv,ps,bss,nm,ns,tv,rfl,hx,hp,hb,hn,qk,hv,l1,l2,q⟩:=h;rw[33];rw[13,ae [277] (ae [419,[376]] (ae [419,[368]] (ae [566] (ae [419,[16,pv 5]] (ae [56,pv 6] (ah [56,jo nA aH (au GD hr rfl Y.dD.m Y.dD.F.kp Y.dD.b .nil a6 [18,[37],[37]])]))))))];have mT:[408,[26,l,ps]]:=[1360];have mB:[408,[43,l,bss]]:=[1360];have mN:[408,[377]/\G l]:=λH1 H2 l fs e1 e2 kk r=>r.1.ch (Ch.A7 (NC:=NC) e1 e2 kk) r.2;refine[2,_,rfl,x,NC,dx,[],rfl,hx,Y.cl,Y.n1,(by rw[2,0]),?_];have k1:aE x H (upd H x [9,NC,[806]]):=iK;rw[1,[146],(qh (E:=E0) mT hx hp k1 ag (λpl H2 k2 x2 r2=> ?_):lB [pv'] _ _ E0)];refine⟨_,rfl,x,NC,dx,_,rfl,x2,Y.cl,Y.n2,(by rw[2,1]),?_⟩;have k3:=(k1.trans k2).trans [1383];have r3:=mT _ _ _ _ x2 rfl [1383] r2;rw[1,[146],(qh (E:=E0) mB hx hb k3 ag (λbl H4 k4 x4 b4=> ?_):lB [bv] _ _ E0)];refine⟨_,rfl,x,NC,dx,_,rfl,x4,Y.cl,Y.n3,(by rw[2,2]),?_⟩;have k45:=k4.trans [152,[509]];have k5:=k3.trans k45;have r5:=[129,k45,r3];have b5:=mB _ _ _ _ x4 rfl [152,[509]] b4;refine[2,_,rfl,x,NC,dx,_,rfl,ag,Y.cl,Y.n4,(by rw[2,3]),?_];have k56:aE x (upd H4 x [9,NC,[509]]) _:=[152,aL "name" nv [509]];have k6:=k5.trans k56;have r6:=[129,k56,r5];have b6:=mB _ _ _ _ ag rfl k56 b5;rw[1,[146],(qh (E:=E0) mN hx qk k6 ag (λnl H7 k7 x7 n7=> ?_):lB [Lc] _ _ E0)];refine⟨_,rfl,x,NC,dx,_,rfl,x7,Y.cl,Y.n5,(by rw[2,4]),?_⟩;have ku:aE x H7 _:=[152,[640]];have k78:=k7.trans ku;have k8:=k6.trans k78;have r8:=[129,k78,r6];have b8:=mB _ _ _ _ ag rfl k78 b6;have n8:=mN _ _ _ _ x7 rfl ku n7;refine[2,_,rfl,x,NC,dx,_,rfl,ag,Y.cl,Y.n6,(by rw[2,5]),?_];have k89:aE x (upd H7 x [9,NC,[640]]) _:=[152,aL "value" vv [640]];have k9:=k8.trans k89;have r9:=[129,k89,r8];have b9:=mB _ _ _ _ ag rfl k89 b8;have n9:=mN _ _ _ _ ag rfl k89 n8;rw[1,⟨_,rfl,x,NC,dx,_,_,rfl,ag,Y.cl,Y.n2,rfl,_,rfl,x,NC,dx,_,_,rfl,ag,Y.cl,Y.n3,rfl,G,pl,bl,ps,bss,rfl,r9,b9,l1,l2,λH10 s10=> ?_⟩,⟨_,_,rfl,rfl,_,rfl,x,NC,dx,_,rfl,s10 _ _ ag,Y.cl,Y.n7,(by rw[2,6]),?_⟩];have ku10:aE x H10 _:=[152,aL "depth" (.int [760]) (aL "value" vv [640])];have kA:=(aE.same (c:=x) s10).trans ku10;have cA:=Ch.A7 (NC:=NC) (G:=G) (ag (H:=upd H7 x [9,NC,[640]])) rfl kA;have c0:=Ch.A7 (NC:=NC) (G:=G) hx rfl (k9.trans kA);refine q _ (k9.trans kA) (gj.of (dx:=dx) (pl:=pl) (bl:=bl) (nl:=nl) (nv:=nv) (vv:=vv) ?_ (r9.ch cA) (b9.ch cA) (hn.ch c0) (n9.1.ch cA n9.2).1 n9.2 (hv.ch c0));rw[ag];have e:[760]=[11,[799].depth]:=by
  show[760]=[11,1+CN.bX ps bss];omega
 show some (HO.ins NC dx (aL "depth" (V.int [760]) _))=_;rw[e];rfl
theorem yp {Q:[10,Addr]} {k:Kd} {pv bv nv Lc vv:V} {G:[18]} {ps:[29]} {bss:[190]} {nm:[74]} {ns:[23]} {tv:CN.TV}(hp:[53,[26,l,ps],pv])(hb:[53,[43,l,bss],bv])(hn:mW H nm nv) (qk:[53,[377]/\G l,Lc])(hv:y8 H tv vv)(l1:ps.length<=2000)(l2:[748])(q:[183,([35])->[5,a]->gj NC G H' a [799]->Q a H']):[1449]:=by
 intro x dx hx Dz gx;rw[B7];have s1:aS H [154,NC]:=λb o z=>by
  rw[aj (aq z hx),aj (aq z Dz)];exact z
 have up:∀ {R:[695]} {v:V},(∀l,R H l->R [154,NC] l)->Am R H v->Am R [154,NC] v:=λ {R v} m g=>by
  rcases g with⟨e,g⟩|⟨l,e,g⟩
  ·refine[31,e,λl H' hl=>g l H' ?_];cases z:H l with
    |none=>rfl
    |some o=>
     rw[[101]] at hl;cases hl
  ·exact .inr ⟨l,e,m l g⟩
 have c:=Ch.same (NC:=NC) (G:=G) s1;exact⟨G,x,dx,k,pv,bv,nv,Lc,vv,ps,bss,nm,ns,tv,rfl,ag,up (λl r=>r.ch c) hp,up (λl r=>r.ch c) hb,hn.ch c,up (λl r=>r.1.ch c r.2) qk,hv.ch c,l1,l2,λH' k1 t=>[18,q H' x [236,k1] hx t]⟩
theorem Ld(Y:[1474]):[324,wC NC]:=by
 rw[B7];exact Zw Y
end
end
end CP
end
section
namespace CP
open PySem PySem.Spec PyProof.Rows L2
open Vanbka (Bytes Lex reserved)
open CN (Kd kdOf hd tk Res jf Fn wordOf numOf d6 cU)
section
variable {ts:[15]} {Q:VK} {E':XK} {n:Nat} {o:Option [71]} {m:[1009]}
def ji {α:Type}(CC TC C l:Addr)(all:[15])(c:Addr)(H:Hp)(E:XK)(m:[65])(q:[10,α]):Prop:=match m with
 | .ok a r=>∀H',([81])->([161])->q a H'
 | .bad=>[118]
 | .out=>False
abbrev jB(H:Hp):[18]:=λb=>[75]
theorem aV {CC TC l c:Addr} {all:[15]} {H H1:Hp} {b:Addr}(k:aE c H H1)(hc:[136,H1])(e:H1 b=none):[75]:=by
 obtain⟨dx,p,hc,_⟩:=hc;exact lT k hc e
section
variable {α β:Type} {CC TC C l c:Addr} {all:[15]} {H0 H:Hp} {E:XK}
theorem ji.bind {m:[65]} {f:α->([15])->Res β} {q:[10,β]} {q':[10,α]}(h:[182,m.bind f])(k:[1438]):[1477]:=by cases hm:m with
 |ok a r=>
  rw[hm] at h;exact k a r hm h
 |bad=>
  rw[hm] at h;exact λ_=>h
 |out=>
  rw[hm] at h;exact h
theorem ji.last {m:[65]} {q q':[10,α]}(h:ji CC TC C l all c H0 E m q)(k:∀a r,m=[12,a]->(∀H',aE c H0 H'->([161])->q a H')->[1093]):[1477]:=by cases hm:m with
 |ok a r=>
  rw[hm] at h;exact k a r hm h
 |bad=>
  rw[hm] at h;exact λ_=>h
 |out=>
  rw[hm] at h;exact h
@[irreducible] def nO(CC TC C:Addr):Sp:=sQ CC TC C
@[irreducible] def wG(CC TC:Addr):Sp:=Cc CC TC
@[irreducible] def rG(CC TC:Addr):Sp:=wD CC TC
@[irreducible] def rF(CC TC:Addr):Sp:=uC CC TC
theorem qE:nO CC TC C=sQ CC TC C:=by
 unfold nO;rfl
theorem yN:wG CC TC=Cc CC TC:=by
 unfold wG;rfl
theorem wF:rG CC TC=wD CC TC:=by
 unfold rG;rfl
theorem tT:rF CC TC=uC CC TC:=by
 unfold rF;rfl
theorem bq {k:Kd} {f:Lex->([15])->Res β} {q:[10,β]}(hc:[39])(h:[182,(tk k ts).bind f]) (ok:[1437])(hk:[144]:=by decide):[1230]:=by
 rw[qE];obtain⟨dx,l',p,nY⟩:=hc.is;refine⟨c,dx,_,rfl,nY,[154],[1361]⟩
 ·rw[e] at h;exact ok lx r e h
 ·rw[e] at h;exact h
theorem qc {k:Kd}(h:[12]=k)(hk:[144]):∃lx,[234]= .ok lx [61]:=by cases ts with
 |nil=>exact absurd h.symm hk
 |cons t r=>rw[3,t.lex,(by rw[34];rw[if_pos (show[31]=k from h)];rfl)]
theorem FG {k:Kd}(hc:[39])(hh:[12]=k)(hk:[144])(ok:[1310]):[1230]:=by
 rw[qE];obtain⟨dx,l',p,nY⟩:=hc.is;obtain⟨lx0,e0⟩:=qc hh hk;refine⟨c,dx,_,rfl,nY,[154],[1361]⟩
 ·rw[e0] at e;cases e;exact ok lx0 e0
 ·rw[e0] at e;cases e
theorem ll {k:Kd}(hc:[39])(yes:[1035])(no:[1016])(hk:[144]:=by decide):[94,"takes_if_seen",wG CC TC [275] H Q E']:=by
 rw[yN];rw[50,⟨c,dx,_,rfl,nY,[154],l,all,c,k,ts,rfl,hk,hc,yes,no⟩]
theorem zB {k:Kd}(hc:[39])(q:[81,[570]]):[94,"sees",rG CC TC [275] H Q E']:=by
 rw[wF];rw[50,⟨c,dx,_,rfl,nY,[154],l,all,c,k,ts,rfl,hc,q⟩]
theorem nh(hc:[39])(q:Q [64,hd (ts.drop n)] H):[94,"ahead",rF CC TC [12,c,.int n] H Q E']:=by
 rw[tT];rw[50,⟨c,dx,_,rfl,nY,[154],l,all,c,n,ts,rfl,hc,q⟩]
theorem ni {k:Kd} {f:Lex->([15])->Res β} {q:[10,β]}(hc:[39])(h:[182,(tk k ts).bind f]) (ok:[1437])(hk:[144]:=by decide)(ho:[759]:=by rfl):[1231]:=by rw[49,bq (Q:=Q) hc h ok hk]
theorem vK {k:Kd}(hc:[39])(hh:[12]=k)(hk:[144])(ok:[1310])(ho:[759]:=by rfl):[1231]:=by rw[49,FG (C:=C) (E:=E) (Q:=Q) hc hh hk ok]
theorem S5 {k:Kd}(hc:[39])(yes:[1035])(no:[1016])(hk:[144]:=by decide)(ho:[759]:=by rfl):[94,"takes_if_seen",[349,wG CC TC [12,c,v] H Q E']]:=by rw[49,ll (E':=E') (Q:=Q) hc yes no hk]
theorem Oy {k:Kd}(hc:[39])(q:[81,[570]])(ho:[759]:=by rfl):[94,"sees",[349,rG CC TC [12,c,v] H Q E']]:=by rw[49,zB (E':=E') (Q:=Q) hc q]
end
def ow(CC TC C NC:Addr)(m:[753]):Sp:=[440,[119,m ts,[420]]]
def L'(CC TC C NC:Addr)(m:[722]):Sp:=[240,[318,[114,k,[420]]]]
def spL(CC TC C NC:Addr)(m:([15])->Res [29]):Sp:=[440,[119,m ts,[1005]]]
def TY(CC TC C NC:Addr)(m:[1009]):Sp:=[240,vs=[275]/\[39]/\[114,k,[1005]]]
def TZ(CC TC C NC:Addr)(m:[1009]):Sp:=[240,[318,[114,k,[1005]]]]
def T3(CC TC C NC:Addr)(m:[722]):Sp:=[240,vs=[275]/\(CN.fK k).isSome=true/\[39]/\[114,k,[420]]]
def spC(CC TC C NC RG RH:Addr)(m:Bool->([15])->Res CN.T):Sp:=λvs H Q E=>∃(l:Addr) (all:[15]) (c:Addr) (j:Bool) (ts:[15]),vs=[.ref c,.int (if j then 5 else 1),.int (if j then 7 else 2),.ref (if j then RH else RG)]/\[39]/\[114,j,[420]]
theorem ng {CC TC l c:Addr} {all:[15]} {H:Hp}(h:[39]):ts.length<=all.length:=by
 obtain⟨dx,p,_,_,_,rfl⟩:=h;simp
def lW:[218]:=[[15,"or",1],[15,"and",2],[15,"==",4],[15,"!=",4],[15,"<",4],[15,"<=",4],[15,">",4],[15,">=",4],[15,"++",5],[15,"+",6],[15,"-",6],[15,"*",7],[15,"/",7],[15,"mod",7]]
def wg:[218]:=[[15,"len",1],[15,"keys",1],[15,"text",1],[15,"num",1],[15,"roll",1],[15,"cut",3],[15,"with",3]]
theorem Cg:∀k∈uO,[1362]:=[32]
theorem z0(k:Kd):[1362]:=Cg k (kL k)
theorem sR:∀k∈uO,[663]≠0->[1220]:=[32]
theorem rK {k:Kd}(h:[663]≠0):[1220]:=sR k (kL k) h
theorem Ei:∀k∈uO,[1327]:=[32]
theorem LB(k:Kd):[1327]:=Ei k (kL k)
abbrev D(K:PySem.W.Frag)(mg:[16])(fa:[41])(fm:[42])(x:Str)(i:Nat)(ps:[19]):Prop:=Df K mg x (top i) ps (fa i) (fm i)
structure Rd(P:Program)(w:World)(K:PySem.W.Frag)(mg:Str->Option Value)(base:Heap)(C CC TC NC fI fA fS fT fF fN kj lF:Addr)(gR je de jc jv jw:FuncData)(bm:List Value)(newId aP B:String)(fa:Nat->Addr)(fm:Nat->FuncData):Prop where
 Z:mQ K mg CC fA fS fT fF je de jc jv
 T:iR K mg TC fI gR
 G:Ng K mg base C bm newId aP B
 Y:ES K mg NC fN (fa I.jj) (fa I.bX) (fa I.gL) jw (fm I.jj) (fm I.bX) (fm I.gL)
 ml:mg "len"=none
 mt:mg "tuple"=none
 ms:mg "STRENGTHS"=some (.ref kj)
 ks:kR P w K kj lW
 mp:mg "PARTS_OF_WORDS"=some (.ref lF)
 kp:kR P w K lF wg
 statements:D K mg fa fm "read_statements" I.dU ["cursor","closing"]
 block:D K mg fa fm "read_block" I.iY ["cursor"]
 statement:D K mg fa fm "read_statement" I.eG ["cursor"]
 lj:D K mg fa fm "read_let_or_set" I.dO ["cursor","kind"]
 telling:D K mg fa fm "read_telling" I.gE ["cursor","kind"]
 iff:D K mg fa fm "read_if" I.nG ["cursor"]
 kK:D K mg fa fm "read_while" I.iZ ["cursor"]
 iT:D K mg fa fm "read_for" I.lz ["cursor"]
 slider:D K mg fa fm "read_slider" I.hZ ["cursor"]
 whole:D K mg fa fm "read_whole" I.lA ["cursor"]
 choice:D K mg fa fm "read_choice" I.gZ ["cursor"]
 aT:D K mg fa fm "read_expression" I.dM ["cursor"]
 orr:D K mg fa fm "read_or" I.nH ["cursor"]
 jd:D K mg fa fm "read_not" I.iM ["cursor"]
 compared:D K mg fa fm "read_compared" I.ft ["cursor"]
 joined:D K mg fa fm "read_joined" I.hJ ["cursor"]
 chain:D K mg fa fm "read_chain" I.cX ["cursor","weakest","strongest","read_part"]
 cZ:D K mg fa fm "join_last" I.cZ ["parts","signs","strength"]
 signed:D K mg fa fm "read_signed" I.d7 ["cursor"]
 bH:D K mg fa fm "read_reached" I.gD ["cursor"]
 listed:D K mg fa fm "read_listed" I.hW ["cursor","closing"]
 simple:D K mg fa fm "read_simple" I.hX ["cursor"]
 ZR:D K mg fa fm "read_record_or_bracketed" I.bu ["cursor"]
 fields:D K mg fa fm "read_record_fields" I.cM ["cursor"]
 function:D K mg fa fm "read_function" I.fw ["cursor"]
 parameters:D K mg fa fm "read_parameters" I.gH ["cursor"]
 mJ:D K mg fa fm "read_word_call" I.eI ["cursor","word"]
structure All(P:Program)(w:World)(K:PySem.W.Frag)(mg:Str->Option Value)(base:Heap)(C CC TC NC:Addr)(fa:Nat->Addr)(fm:Nat->FuncData)(n k:Nat)(F:jf):Prop where
 expr:aC P w K mg base (cQ P w C) k (fa I.dM) (fm I.dM) ["cursor"] (ow CC TC C NC F.expr)
 orr:aC P w K mg base (cQ P w C) k (fa I.nH) (fm I.nH) ["cursor"] (ow CC TC C NC F.orr)
 chain:aC P w K mg base (cQ P w C) k (fa I.cX) (fm I.cX) ["cursor","weakest","strongest","read_part"] (spC CC TC C NC (fa I.iM) (fa I.d7) F.chain)
 jd:aC P w K mg base (cQ P w C) k (fa I.iM) (fm I.iM) ["cursor"] (ow CC TC C NC F.jd)
 compared:aC P w K mg base (cQ P w C) k (fa I.ft) (fm I.ft) ["cursor"] (ow CC TC C NC F.compared)
 joined:aC P w K mg base (cQ P w C) k (fa I.hJ) (fm I.hJ) ["cursor"] (ow CC TC C NC F.joined)
 signed:aC P w K mg base (cQ P w C) k (fa I.d7) (fm I.d7) ["cursor"] (ow CC TC C NC F.signed)
 bH:aC P w K mg base (cQ P w C) k (fa I.gD) (fm I.gD) ["cursor"] (ow CC TC C NC F.bH)
 simple:aC P w K mg base (cQ P w C) k (fa I.hX) (fm I.hX) ["cursor"] (ow CC TC C NC F.simple)
 eR:aC P w K mg base (cQ P w C) k (fa I.bu) (fm I.bu) ["cursor"] (ow CC TC C NC F.eR)
 cp:aC P w K mg base (cQ P w C) k (fa I.cM) (fm I.cM) ["cursor"] (ow CC TC C NC F.cp)
 function:aC P w K mg base (cQ P w C) k (fa I.fw) (fm I.fw) ["cursor"] (ow CC TC C NC F.function)
 dj:aC P w K mg base (cQ P w C) k (fa I.eI) (fm I.eI) ["cursor","word"] (T3 CC TC C NC F.dj)
 listed:aC P w K mg base (cQ P w C) k (fa I.hW) (fm I.hW) ["cursor","closing"] (TZ CC TC C NC F.listed)
 block:aC P w K mg base (cQ P w C) k (fa I.iY) (fm I.iY) ["cursor"] (spL CC TC C NC F.block)
 stmts:aC P w K mg base (cQ P w C) k (fa I.dU) (fm I.dU) ["cursor","closing"] (TY CC TC C NC F.stmts)
 stmt:aC P w K mg base (cQ P w C) k (fa I.eG) (fm I.eG) ["cursor"] (ow CC TC C NC F.stmt)
 di:aC P w K mg base (cQ P w C) k (fa I.dO) (fm I.dO) ["cursor","kind"] (L' CC TC C NC F.di)
 telling:aC P w K mg base (cQ P w C) k (fa I.gE) (fm I.gE) ["cursor","kind"] (L' CC TC C NC F.telling)
 iff:aC P w K mg base (cQ P w C) k (fa I.nG) (fm I.nG) ["cursor"] (ow CC TC C NC F.iff)
 kK:aC P w K mg base (cQ P w C) k (fa I.iZ) (fm I.iZ) ["cursor"] (ow CC TC C NC F.kK)
 iT:aC P w K mg base (cQ P w C) k (fa I.lz) (fm I.lz) ["cursor"] (ow CC TC C NC F.iT)
theorem fg {CC TC C NC:Addr} {m:[753]}:[68,ow CC TC C NC m vs H Q E,1]:=λvs H Q E h=>by rw[15]
theorem Cb {CC TC C NC:Addr} {m:[722]}:[68,L' CC TC C NC m vs H Q E,2]:=λvs H Q E h=>by rw[14]
theorem PD {CC TC C NC:Addr} {m:([15])->Res [29]}:[68,spL CC TC C NC m vs H Q E,1]:=λvs H Q E h=>by rw[15]
theorem L8 {CC TC C NC:Addr}:[68,TY CC TC C NC m vs H Q E,2]:=λvs H Q E h=>by rw[14]
theorem L9 {CC TC C NC:Addr}:[68,TZ CC TC C NC m vs H Q E,2]:=λvs H Q E h=>by rw[14]
theorem Ma {CC TC C NC:Addr} {m:[722]}:[68,T3 CC TC C NC m vs H Q E,2]:=λvs H Q E h=>by rw[14]
theorem Py {CC TC C NC RG RH:Addr} {m:Bool->([15])->Res CN.T}:[68,spC CC TC C NC RG RH m vs H Q E,4]:=λvs H Q E h=>by rw[14]
section
variable {P:Program} {w:World} {K:PySem.W.Frag} {mg:[16]} {base:Heap} {C CC TC NC:Addr} {fa:[41]} {fm:[42]}
theorem AI {CX:CD} {k:Nat} {f:Addr} {fd:FuncData} {ps:[19]} {sp:Sp}(h:∀vs H Q E,¬[329]):aC P w K mg base CX k f fd ps sp:=⟨λvs H Q E z=>(h vs H Q E z).elim,λ_ _ _ _ _ _ _ _ _ _ _ _ _ z=>(h _ _ _ _ z).elim⟩
theorem all_zero {k:Nat}:[514,Fn 0]:=by
 constructor<;>refine AI λvs H Q E z=> ?_
 all_goals first
  |(obtain⟨_,_,_,_,_,_,_,z⟩:=z;exact z)
  |(obtain⟨_,_,_,_,_,_,_,_,z⟩:=z;exact z)
  |(obtain⟨_,_,_,_,_,_,_,_,_,z⟩:=z;exact z)
end
end
section
variable {H1 H2:Hp} {a:Addr} {ts r:[15]} {G:[18]}
theorem QJ:Vals [V.cg,V.cg,V.cg,V.cg,V.cg] [Value.none,Value.none,Value.none,Value.none,Value.none]:=[113,[113,[113,[113,[156,rfl]]]]]
theorem aB {H:Hp} {p:Addr} {o:HO}(h:[5,p]):aS H [47,p]:=λb u z=>by rw[0,aj (aq z h),z]
section
variable {α β:Type} {CC TC C NC l c:Addr} {all:[15]} {H0 H:Hp} {E:XK}
theorem mi {m:[65]} {f:α->([15])->Res β} {q:[10,β]} {q':[10,α]}(h:[182,m.bind f])(k:[1438]):GZ CC TC C l all c H (tV C E) m q':=by cases hm:m with
 |ok a r=>
  rw[hm] at h;exact k a r hm h
 |bad=>
  rw[hm] at h;exact λ_=>h
 |out=>
  rw[hm] at h;exact h.elim
theorem gj.dH {t:CN.T}(h:[56,jB H1,H2])(k:aE c H0 H1)(hc:[136,H1]):[56,jB H0,H2]:=[228,aV k hc e]
theorem bM.dH {t:[29]}(h:bM NC (jB H1) H2 a t)(k:aE c H0 H1)(hc:[136,H1]):bM NC (jB H0) H2 a t:=[228,aV k hc e]
theorem gj.keep {t:CN.T}(h:[164])(hc:[39])(k:[445]):gj NC G H2 a t:=h.ch (Ch.gU hc.is k)
theorem bM.keep {t:[29]}(h:[26,a,t])(hc:[39])(k:[445]):bM NC G H2 a t:=h.ch (Ch.gU hc.is k)
theorem gj.sm {t:CN.T}(h:[164])(s:[216]):gj NC G H2 a t:=h.ch [411]
theorem bM.sm {t:[29]}(h:[26,a,t])(s:[216]):bM NC G H2 a t:=h.ch [411]
theorem iG.sm {t:[190]}(h:[43,a,t])(s:[216]):iG NC G H2 a t:=h.ch [411]
theorem NN(k:[578])(hc:[39]):[53,bM NC (jB H0) H l [],.cg]:=[237,bM.nil e (aV k hc hl)]
theorem zl(k:[578])(hc:[39]):[53,iG NC (jB H0) H l [],.cg]:=[237,iG.nil e (aV k hc hl)]
theorem w8(k:[578])(hc:[39]):[53,cj H l []/\jB H0 l,.cg]:=[237,⟨⟨[],e,.nil⟩,aV k hc hl⟩]
theorem gT {ts:[29]}(h:[26,a,ts]):Am (λH l=>[582]) H [10]:= .inr ⟨a,rfl,h⟩
theorem gB {ts:[190]}(h:[43,a,ts]):Am (λH l=>[43,l,ts]) H [10]:= .inr ⟨a,rfl,h⟩
theorem bM.lit {p:Addr} {as:[14]} {ts:[29]}(hp:[5,p])(g:G p)(h:[899]):bM NC G [8,H,p,[70]] p ts:=bM.cons ag g [79,h,z.sm (aB hp)]
theorem iG.one {p b:Addr} {ts:[29]}(hp:[5,p])(g:G p)(h:[26,b,ts]):iG NC G (upd H p (.lst [[25]])) p [ts]:=[3,[b],ag,g,(λi b' ts' e1 e2=>by cases i with
 |zero=>rw[37];exact h.sm (aB hp)
 |succ i=>simp at e1)]
theorem bN {Q:[10,Addr]} {k:Kd} {pv bv nv Lc vv:V} {ps:[29]} {bss:[190]} {nm:[74]} {ns:[23]} {tv:CN.TV}(kc:[578])(cc:fL CC TC l all H c r) (q:[183,aE c H0 H'->([161])->([35])->gj NC (jB H0) H' a [799]->Q a H']) (hp:[53,bM NC (jB H0) H l ps,pv])(hb:[53,iG NC (jB H0) H l bss,bv])(hn:mW H nm nv)(qk:[53,[377]/\jB H0 l,Lc])(hv:y8 H tv vv)(l1:ps.length<=2000)(l2:[748]):[1449]:=yp hp hb hn qk hv l1 l2 λH' a s _ t=>q H' a (kc.trans (aE.same s)) (cc.same s) s t
end
theorem jQ {lx:Lex} {H:Hp} {v:V}(e:tk .name ts=[12,lx])(h:nV H lx v):mW H [163,lx] v:=by
 obtain⟨n,rfl,SG⟩:=rO e;exact ph SG h
theorem mW.keep {CC TC l c:Addr} {all:[15]} {H:Hp} {n:[74]} {v:V}(h:mW H n v)(hc:[39])(k:[445]):mW H2 n v:=[457,Ch.gU hc.is k]
theorem mW.sm {H:Hp} {n:[74]} {v:V}(h:mW H n v)(s:[216]):mW H2 n v:=[457,[411]]
section
variable {P:Program} {w:World} {K:PySem.W.Frag} {mg:[16]} {base:Heap} {C CC TC NC fI fA fS fT fF fN kj lF:Addr} {gR je de jc jv jw:FuncData} {bm:[6]} {newId aP B:String} {fa:[41]} {fm:[42]} {n k:Nat} {F:jf}
theorem eX(R:[43]):[305,nO CC TC C]/\[306,wG CC TC]/\[320,rG CC TC]/\[406,rF CC TC]/\[324,wC NC]:=by
 rw[qE,yN,wF,tT];exact⟨zK R.Z R.T R.G R.ml,Ea R.Z R.T R.ml,zJ R.Z R.T R.ml,By R.Z R.T R.ml,Ld R.Y⟩
theorem yH:[4,[60,"kind","expression"],[43,"kind"],I.gE]:=[11]
theorem D'(R:[43])(A:[69])(hk:8<=k):aC P w K mg base [62] (k+1) (fa I.gE) (fm I.gE) [43,"kind"] (L' CC TC C NC (CN.jt F)):=by
 rw[25,R.telling.F.okN yH Cb [57]];obtain⟨l,all,c,kd,ts,rfl,Sq,hc,h2,q⟩:=h;rw[13,ae (aF [119,[45]]) [23,[14,yH.nd,[225]],[46],[26,.p,[45],bG [61,pv 2] fq]]];unfold CN.jt at q;rw[1,[9,ni (hk:=Sq) hc q [808]],[950]];rw[3,[18,.semi,c2,[335]]];have K3:=[114,k3];refine⟨_,rfl,_,rfl,(by rw[2]),[92]⟩;have s4:=[301];have K4:=K3.trans [550];have c4:=[551];exact bN K4 c4 [76] (gT (bM.lit (as:=[a]) bQ (aV K3 c3 bQ) [55,[900]])) (zl K4 c4) rfl (w8 K4 c4) rfl [4] [4]
theorem LQ:[4,["cursor","kind","name","expression"],[43,"kind"],I.dO]:=[11]
theorem Tf(R:[43])(A:[69])(hk:8<=k):aC P w K mg base [62] (k+1) (fa I.dO) (fm I.dO) [43,"kind"] (L' CC TC C NC (CN.iz F)):=by
 rw[25,R.lj.F.okN LQ Cb [57]];obtain⟨l,all,c,kd,ts,rfl,Sq,hc,h2,q⟩:=h;rw[13,ae (aF [119,[45]]) [3,[14,LQ.nd,[175]],[46],[3,3,LQ.nd,[225]],[46],[26,.pn,[45],[71,[61,pv 3],pv 2]]]];unfold CN.iz at q;rw[1,[9,ni (hk:=Sq) hc q [808]],[634]];rw[3,[18,.eq,c2,[683]]];have K3:=[114,k3];rw[1,[55,c3,[1121]],[12,.semi,c4,λlx r5 e5 q H5 v k5 c5 hv=> ?_]];have K5:=K3.trans [527];refine⟨_,rfl,_,rfl,(by rw[2]),[92]⟩;have s6:=[301];have K6:=K5.trans [435];have c6:=[436];have nm:=(((jQ e2 N9).keep c2 k3).keep c3 [527]).sm s6;rw[6,bN K6 c6 [76] (gT (bM.lit (as:=[a]) bQ (aV K5 c5 bQ) [55,(ta.dH K3 c3).keep c4 k5])) (zl K6 c6) nm (w8 K6 c6) rfl [4] [4]]
end
end
section
variable {o:HO} {G:[18]} {a:Addr} {H1 H2:Hp} {ts:[15]} {xs ys:[13]}
abbrev GX(H:Hp)(p:Addr):[18]:=λb=>H b=none/\b≠p
theorem jV {H:Hp} {b p:Addr}(e:[75])(hp:[3,H p]):b≠p:=λz=>by
 rw[z,hp] at e;cases e
section
variable {CC TC C NC l c:Addr} {all:[15]} {H0 H:Hp} {E:XK}
theorem Ch.ex {NC p:Addr} {H:Hp}(hn:[5,p]):Ch NC G [339] H H:=[400,⟨e,g,aq e hn⟩]
theorem gj.off {p:Addr} {t:CN.T}(h:[164])(hn:[5,p]):[56,[339],H]:=h.ch (Ch.ex hn)
theorem bM.off {p:Addr} {t:[29]}(h:[26,a,t])(hn:[5,p]):[960]:=h.ch (Ch.ex hn)
theorem gj.on {p:Addr} {t:CN.T}(h:[56,[339],H]):[164]:=[228,e.1]
theorem bM.on {p:Addr} {t:[29]}(h:[960]):[26,a,t]:=[228,e.1]
theorem gj.Fd {p:Addr} {t:CN.T}(h:[56,jB H1,H2])(k:aE c H0 H1)(hc:[136,H1])(hp:[3,H1 p]):[56,GX H0 p,H2]:=[1385]
theorem bM.Fd {p:Addr} {t:[29]}(h:bM NC (jB H1) H2 a t)(k:aE c H0 H1)(hc:[136,H1])(hp:[3,H1 p]):bM NC (GX H0 p) H2 a t:=[1385]
theorem gj.wr {p:Addr} {t:CN.T}(h:[56,[339],H])(hp:[37,p]):gj NC [339] [51,p] a t:=[1198]
theorem bM.wr {p:Addr} {t:[29]}(h:[960])(hp:[37,p]):bM NC [339] [51,p] a t:=[1198]
theorem jS {p:Addr}(k:[578])(hn:H0 p=none):aE c H0 [47,p]:=λb u z n=>by rw[0,aj (aq z hn),k b u z n]
theorem cT {p:Addr}(h:[37,p])(hc:[39])(k:[445]):H2 p=some [60]:=yh h hc.is k
theorem iG.two {p b b2:Addr} {ts ts2:[29]}(hp:[5,p,.lst [[25],.ref b2]])(g:G p)(h:[26,b,ts])(h2:[26,b2,ts2]):[43,p,[ts,ts2]]:=[3,[b,b2],hp,g,(λi b' ts' e1 e2=>by cases i with
 |zero=>rw[37];exact h
 |succ i=>cases i with
  |zero=>rw[37];exact h2
  |succ i=>simp at e1)]
theorem iG.one' {p b:Addr} {ts:[29]}(hp:[5,p,.lst [[25]]])(g:G p)(h:[26,b,ts]):[43,p,[ts]]:=[3,[b],hp,g,(λi b' ts' e1 e2=>by cases i with
 |zero=>rw[37];exact h
 |succ i=>simp at e1)]
end
section
variable {P:Program} {w:World} {K:PySem.W.Frag} {mg:[16]} {base:Heap} {C CC TC NC fI fA fS fT fF fN kj lF:Addr} {gR je de jc jv jw:FuncData} {bm:[6]} {newId aP B:String} {fa:[41]} {fm:[42]} {n k:Nat} {F:jf}
theorem F1:[27,[43,"condition"],I.iZ]:=[11]
theorem Ll(R:[43])(A:[69])(hk:8<=k):[17,I.iZ,I.iZ,CN.nM F]:=by
 rw[15,R.kK.F.okN F1 fg [57],[23,[46],[16,F1.nd,[225]],[50,.pb,[71,bz [45],[793]]]]];unfold CN.nM at q;rw[1,[196,.while_],[950]];rw[27];refine[52,(by rw[2]),[92]];have s3:=[301];have K3:=K2.trans (aE.same s3);have c3:=c2.same s3;have tp:=bM.lit (as:=[a]) bQ (aV K2 c2 bQ) [55,ta.dH k1 c1];refine[55,c3,λt4 r4 e4 q H4 k4 c4 b tb hb=> ?_];have K4:=[353];refine⟨(by rw[2]),[552]⟩;have s5:=[898];have K5:=K4.trans (aE.same s5);have c5:=c4.same s5;exact bN K5 c5 [76] (gT ((tp.keep c3 k4).sm s5)) (gB (iG.one so (aV K4 c4 so) (tb.dH K3 c3))) rfl (w8 K5 c5) rfl [4] [96]
theorem LO:[27,[60,"name","expression"],I.lz]:=[11]
theorem Te(R:[43])(A:[69])(hk:8<=k):[17,I.lz,I.lz,CN.zR F]:=by
 rw[15,R.iT.F.okN LO fg [57],[3,[46],[16,LO.nd,[175]],[46],[14,LO.nd,[225]],[50,.pbn,bG [61,pv 2] [71,[793],pv 1]]]];unfold CN.zR at q;rw[1,[196,.iJ],[634]];rw[3,[18,.CL,c2,[683]]];have K3:=[114,k3];refine[55,c3,[1121]];have K4:=[353];refine[52,(by rw[2]),[92]];have s5:=[301];have K5:=K4.trans (aE.same s5);have c5:=c4.same s5;have tp:=bM.lit (as:=[a]) bQ (aV K4 c4 bQ) [55,ta.dH K3 c3];refine[55,c5,λt6 r6 e6 q H6 k6 c6 b tb hb=> ?_];have K6:=[684];refine⟨(by rw[2]),[552]⟩;have s7:=[898];have K7:=K6.trans (aE.same s7);have c7:=c6.same s7;have nm:=((((jQ e2 N9).keep c2 (k3.trans k4)).sm s5).keep c5 k6).sm s7;rw[6,bN K7 c7 [76] (gT ((tp.keep c5 k6).sm s7)) (gB (iG.one so (aV K6 c6 so) (tb.dH K5 c5))) nm (w8 K7 c7) rfl [4] [96]]
theorem TM:[27,[60,"condition","blocks"],I.nG]:=[11]
theorem ZC(R:[43])(A:[69])(hk:8<=k):[17,I.nG,I.nG,CN.Pf F]:=by
 rw[15,R.iff.F.okN TM fg [57],[3,[46],[16,TM.nd,[225]],[14,TM.nd,[793]],bf [239] [160,[9,A.block,R.block.m,R.block.F.kp,R.block.b]] aO,[50,.pb,[71,bz [45],pv 2]]]];unfold CN.Pf at q;rw[1,[196,.x8],[950]];rw[27];refine[55,c2,λt3 r3 e3 q H3 k3 c3 b tb hb=> ?_];have K3:=[212];refine⟨(by rw[2]),[552]⟩;have s4:=[898];have K4:=K3.trans [550];have c4:=[551];have gbl:=aV K3 c3 so;have ta4:=(([900].off so).sm s4);have tb4:=(((tb.dH K2 c2).off so).sm s4);refine[28,.uZ,c4,λhh H5 k5 c5=> ?_]
 ·rw[9];have Sh:=cT ag c4 k5;rw[38];rw[3,bY ⟨_,rfl,[14,Sh],_,rfl,l,all,c,_,rfl,c5,h2,q.bind λt6 r6 e6 q H6 k6 c6 b6 tb6 hb6=> ?_⟩];have Kb:=cT Sh c5 k6;have K6:=[684];refine⟨bl,_,_,rfl,rfl,Kb,(by show 1<sizeLine;decide),?_⟩;have K7:aE c H [1372]:=jS K6 gbl;have c7:fL CC TC l all [1372] c r6:=c6.fO Kb (c3.rP so);have k46:=k5.trans k6;have Ug:=[405,ta4.keep c4 k46];have tb7:=[405,tb4.keep c4 k46];have tc7:=[405,tb6.Fd K5 c5 Sh];refine[52,(by rw[2]),[92]];have s8:=[301];have K8:=K7.trans (aE.same s8);have c8:=c7.same s8;rw[6,bN K8 c8 [76] (gT (bM.lit (as:=[a]) bQ (aV K7 c7 bQ) [156,Ug])) (gB ((iG.two ag gbl tb7 tc7).sm s8)) rfl (w8 K8 c8) rfl [4] (by intro x hx;simp at hx;rcases hx with rfl|rfl<;>assumption)]
 ·rw[6];rw[3,bg [52,(by rw[2]),[92]]];have s8:=[301];have K8:=K4.trans (aE.same s8);have c8:=c4.same s8;rw[6,bN K8 c8 [76] (gT (bM.lit (as:=[a]) bQ (aV K4 c4 bQ) [156,ta4.on])) (gB ((iG.one' ag gbl tb4.on).sm s8)) rfl (w8 K8 c8) rfl [4] [96]]
theorem FY:[27,[43,"statements"],I.iY]:=[11]
theorem Le(R:[43])(A:[69])(hk:8<=k):aC P w K mg base [62] (k+1) (fa I.iY) (fm I.iY) [84] (spL CC TC C NC (CN.nJ F)):=by
 rw[15,R.block.F.okN FY PD [57],ae [46] [23,[16,FY.nd,au A.stmts hr rfl R.statements.m R.statements.F.kp R.statements.b .nil ao (aa (pv 0) [103])],[46],pv 1]];unfold CN.nJ at q;rw[1,[196,.qX],⟨_,rfl,l,all,c,.iL,_,rfl,c1,h2,q.bind λt r2 e2 q H2 k2 c2 a ta hl=> ?_⟩];rw[4,[12,.iL,c2,[335]],[9,q H3 [114,k3] c3 a [900] hl]]
def Zf(CC TC C NC l:Addr)(all:[15])(c pl:Addr)(H:Hp)(E:XK)(F:jf)(cl:Kd)(q:[10,[29]])(m:Nat)(σ:L2.St)(H':Hp):Prop:=[458,[210,[590]<=2000/\σ=[1248]/\[81]/\[466,CN.gg F cl fu acc r]]]
theorem FZ:[4,[60,"closing","statements"],[43,"closing"],I.dU]:=[11]
theorem Lk(R:[43])(A:[69])(hk:8<=k)(S:CN.M' F)(S0:∀a r,F.stmt []≠[12,a]):aC P w K mg base [62] (k+1) (fa I.dU) (fm I.dU) [43,"closing"] (TY CC TC C NC (CN.zU F)):=by
 rw[25,R.statements.F.okN FZ L8 [57]];obtain⟨l,all,c,cl,ts,rfl,hc,h2,q⟩:=h;rw[10,[37,FZ.nd,bz af,gd lL (sM (dg [411,[45]])) [160,[9,A.stmt,R.statement.m,R.statement.F.kp,R.statement.b]]],[579]];have s1:=[80,bQ];have Dt:[5,pl]:=bQ;have Qz:=hc.rP bQ;have:=ng hc;rw[6,Zf CC TC C NC l all c pl H E F cl _,⟨_,_,[],ts,[],rfl,[8],by rw[0],rfl,[549],hc.same s1,ag,.nil,q⟩];rw[116];unfold CN.gg at q;rw[3,Oy cc [146]];by_cases hh:hd r=cl
 ·rw[[41,[2,hd r,cl],hh]];rw[9];rw[4,bg [146],q H' kc cc pl (bM.cons hL Dt [98,z.on]) [2]]
 ·rw[[20,hd r,cl,hh]];rw[6];rw[1,bY [165,Zf CC TC C NC l all c pl H E F cl _ m' cR mV],⟨_,rfl,[14,hL],_,rfl,l,all,c,_,rfl,cc,h2,q.bind λt r3 e3 q H3 k3 c3 a ta=> ?_⟩];have eP:r3.length<=r.length -1:=S.stmt r t r3 e3;have hr0:r≠[]:=λz=>S0 _ _ (z▸e3);have hr00:0<r.length:=List.length_pos_iff.mpr hr0;have xX:=cT hL cc k3;have J':as.length=acc.length:=[252];rw[1,[2,pl,_,_,rfl,xX,(by rw[List.length_map,J'];rw[21,acc.length]),?_],⟨r3.length,[2],fu,acc++[t],r3,as++[a],rfl,[2],by rw[0],rfl,jS [434] Dt,c3.fO xX Qz,by rw[4],?_,q⟩];exact bB (G:=λb s=>gj NC (GX H pl) [8,H3,pl,[70],a] b s) ((ta.Fd kc cc hL).wr xX) [98,[603].wr xX]
end
end
section
theorem U9(k:Kd)(ks:List Kd):ya [31,k] (ks.map λx=>[45,x])=decide (k∈ks):=by
 have e:∀a:Kd,(kS a==kS k)=[2,k,a]:=λa=>by
  rw[Bool.eq_iff_iff,beq_iff_eq,decide_eq_true_eq];rw[3,λz=>(DI z).symm,[703]]
 induction ks with
  |nil=>rfl
  |cons a r ih=>
   show((kS a==kS k)||ya [31,k] (r.map λx=>[45,x]))=_;rw[ih,e];simp
theorem sS {ts:[15]} {l:Lex} {r:[15]}(h:tk .quoted ts=[12,l]):∃s,l= .quoted s:=by cases ts with
 |nil=>cases h
 |cons t r'=>
  rw[65];by_cases e:[31]= .quoted
  ·rw[23,[379]];cases hl:t.lex with
    |num n=>rw[59]
    |quoted n=>rw[3,n,rfl]
    |word v=>
     rw[111]
     ·rw[22,[11,[54,v],.name,CN.cw h]]
     ·rw[[60,CN.gQ hp]] at e;exact[126,([33,∀p∈CN.aW,p.2≠Kd.quoted]) p hp]
    |sign v=>
     rw[112]
     ·rw[22,[11,[90,v],.bad,CN.cw h]]
     ·rw[[60,CN.d5 hp]] at e;exact[126,([33,∀p∈CN.aU,p.2≠Kd.quoted]) p hp]
  ·rw[23,[343]]
section
variable {P:Program} {w:World} {K:PySem.W.Frag} {mg:[16]} {base:Heap} {C CC TC NC fI fA fS fT fF fN kj lF:Addr} {gR je de jc jv jw:FuncData} {bm:[6]} {newId aP B:String} {fa:[41]} {fm:[42]} {n k:Nat} {F:jf}
theorem o8:[27,["cursor","name","first","least","most"],I.hZ]:=[11]
theorem HU(R:[43]):[1319]:=by
 obtain⟨GT,GF,GS,GA,GN⟩:=[215,w];have GW:aC P w K mg base [62] 4 (fa I.lA) (fm I.lA) [84] (F8 CC TC C):=Lm R.whole.F R.Z R.T R.G R.ml;refine R.slider.F.okN o8 fg [57];have jx:=[23,1];rw[19];rw[22];have j6:=[23,4];obtain⟨l,all,c,ts,rfl,hc,h2,q⟩:=h;refine[34,[46],ae [16,o8.nd,[175]] (ae [46] (ae [14,o8.nd,[1042]] (ae [46] [3,[3,3,o8.nd,[1042]],[46],[3,4,o8.nd,[1042]],[46],[50,.nv,[71,pv 1,fk [13,pv 2,pv 3,pv 4]]]])))];unfold CN.jU at q;rw[1,[196,.cq],[634],[12,.eq,c2,[683]],[149,c3,λv4 r4 e4 q H4 k4 c4=> ?_]];rw[1,[1238],[149,c5,λv6 r6 e6 q H6 k6 c6=> ?_],[12,.comma,c6,λlx7 r7 e7 q H7 v k7 c7 hv7=> ?_],[149,c7,λv8 r8 e8 q H8 k8 c8=> ?_]];rw[3,[18,.semi,c8,[1122]]];have k39:=k3.trans (k4.trans (k5.trans (k6.trans (k7.trans (k8.trans k9)))));have K9:=[114,k39];refine⟨_,rfl,_,rfl,_,rfl,_,rfl,(by rw[26]),[352]⟩;have sA:=[97,.tup [V.int v4,.int v6,.int v8]];have KA:=K9.trans (aE.same sA);have cA:=c9.same sA;have nm:=((jQ e2 N9).keep c2 k39).sm sA;exact bN (tv:= .three v4 v6 v8) KA cA [76] (NN KA cA) (zl KA cA) nm (w8 KA cA) ⟨tp,rfl,ag⟩ [4] [4]
def Zc(CC TC C l:Addr)(all:[15])(c pl:Addr)(nv:V)(x:Bytes)(v0:Nat)(H:Hp)(E:XK)(q:[10,CN.T])(m:Nat)(σ:L2.St)(H':Hp):Prop:=∃(fu:Nat) (acc:[23]) (r:[15]),[210,[590]<=2000/\σ=[[4,c],some nv,[39,v0],[233]]/\[81]/\[161]/\cj H' pl acc/\mW H' [142] nv/\[226,[40,CN.gC fu acc r,[291,CN.eS .bW (name:=[142]) (value:= .choice v0 l)]]]]
theorem rD:[27,["cursor","name","number","said"],I.gZ]:=[11]
theorem HF(R:[43]):[1318]:=by
 rw[25,R.choice.F.okN rD fg [57]];obtain⟨l,all,c,ts,rfl,hc,h2,q⟩:=h;refine[57,ae [46] (ae [16,rD.nd,[175]] (ae [46] (ae [14,rD.nd,[175]] [3,[46],[3,3,rD.nd,[61,[175]]],gd lL [239] [67,pv 3,[175]],[46],[50,.nv,[71,pv 1,fk [18,pv 2,[120,R.mt,[368]]]]]])))];unfold CN.jT at q;rw[1,[196,.bW],[634],[12,.eq,c2,[683]],[12,.number,c3,λlx4 r4 e4 q H4 vn k4 c4 Y5=> ?_]];obtain⟨v0,rfl⟩:=Aa e4;obtain rfl:vn=[6,v0]:=Y5;rw[1,[1238],[12,.quoted,c5,λlx6 r6 e6 q H6 vq k6 c6 hv6=> ?_]];obtain⟨s0,rfl⟩:=sS e6;obtain⟨qb,rfl,hqb⟩:=hv6;have k36:=k3.trans (k4.trans (k5.trans k6));have K6:=[114,k36];refine⟨(by rw[2]),[92]⟩;have s7:=[178,V.ref qb];have K7:=K6.trans (aE.same s7);have c7:=c6.same s7;have nm:=((jQ e2 N9).keep c2 k36).sm s7;have Dt:[5,pl]:=aV K6 c6 bQ;have Qz:=c6.rP bQ;have hle:=ng c6;have hl6:=lC e6;have hl5:=ng c5;rw[6,Zc CC TC C l all c pl nv (wordOf S3) v0 H E _,⟨_,_,[s0],r6,rfl,[8],by rw[0],rfl,K7,c7,⟨[qb],ag,[55,s7 _ _ hqb]⟩,nm,q⟩];rintro m σ H' ⟨fu,acc,r,rfl,Yw,Fj,rfl,kc,cc,hN,x6,q⟩;rw[42];unfold CN.gC at q;refine[28,.comma,cc,λhh H8 k8 c8=> ?_]
 ·rw[9];rw[3,bY [165,Zc CC TC C l all c pl nv (wordOf S3) v0 H E _ m' cR mV]];have hN8:=hN.gU cc.is k8;obtain⟨as8,hL8,hP8⟩:=id hN8;rw[CN.Res.assoc] at q;refine[103,[14,hL8],[18,.quoted,c8,λlx9 r9 e9 q H9 vq k9 c9 hv9=> ?_]];obtain⟨s9,rfl⟩:=sS e9;obtain⟨qb9,rfl,hqb9⟩:=hv9;obtain⟨P5,X8,hP9⟩:=hN8.gU c8.is k9;have hal9:P5.length=acc.length:=Paired.length hP9;have vc:=lC e9;have hl4:=jE hh [3];refine[2,pl,_,_,rfl,X8,(by rw[List.length_map,hal9];rw[21,acc.length]),?_];have tp:[126,H9 b,[1004]]:=λb xs z=>by rw[0,aj [13,z,X8],z]
  have hnm9:mW [1004] [163,S3] nv:=by
   obtain⟨b,e,z⟩:=x6.keep cc (k8.trans k9);rw[0,b,e,tp _ _ z]
  exact⟨r9.length,[2],fu,acc++[s9],r9,rfl,[2],by rw[0],rfl,jS (kc.trans (k8.trans k9)) Dt,c9.fO X8 Qz,⟨P5++[qb9],by rw[4],bB (G:=λa n=>[290,[1004]]) (tp _ _ hqb9) [70,hP9,tp _ _ z]⟩,hnm9,q⟩
 ·rw[6];rw[3,bg [12,.semi,cc,[1122]]];obtain⟨P5,X8,hP9⟩:=hN.gU cc.is k9;have K9:=kc.trans k9;refine⟨_,rfl,_,rfl,_,rfl,pl,_,rfl,[31,bP.of X8,λtq htq=>⟨(by rw[8]),[352]⟩]⟩;have sA:=aB (o:= .tup (P5.map V.ref)) htq;have sB:=[97,[92,v0,.ref tq]];have sAB:=sA.trans sB;have KB:=K9.trans (aE.same sAB);have cB:=c9.same sAB;exact bN (tv:= .choice v0 acc) KB cB [76] (NN KB cB) (zl KB cB) ((x6.keep cc k9).sm sAB) (w8 KB cB) ⟨tp,tq,P5,rfl,ag,sB _ _ ag,[70,hP9,sAB _ _ z]⟩ [4] [4]
theorem LV:[27,[43,"kind"],I.eG]:=[11]
theorem Gj(k:Kd):[92,CN.pS k]↔k∈[800]:=by cases k<;>simp[CN.pS]
theorem OV(R:[43])(A:[69])(hk:8<=k):[17,I.eG,I.eG,CN.o5 F]:=by
 obtain⟨GT,GF,GS,GA,GN⟩:=[215,w];have GSl:[1319]:=HU R;have GCh:[1318]:=HF R;refine R.statement.F.okN LV fg [57];have jx:=[23,1];rw[19];rw[22];have j6:=[23,4];have Ku:=[23,5];rw[42,ae [16,LV.nd,[392]] (ae [19,[75,pv 1,aa ay [103]],au A.di hr rfl R.lj.m R.lj.F.kp R.lj.b .nil ao [302]] (ae [19,[75,pv 1,aa ay (aa ay (aa ay [593]))],au A.telling hr rfl R.telling.m R.telling.F.kp R.telling.b .nil ao [302]] (ae [134,[9,A.iff,R.iff.m,R.iff.F.kp,R.iff.b]] (ae [134,[9,A.kK,R.kK.m,R.kK.F.kp,R.kK.b]] (ae [134,[9,A.iT,R.iT.m,R.iT.F.kp,R.iT.b]] (ae [134,au GSl Ku rfl R.slider.m R.slider.F.kp R.slider.b .nil ao [137]] (ae [134,au GCh Ku rfl R.choice.m R.choice.F.kp R.choice.b .nil ao [137]] (ah (f' R.G.O R.G.FB rfl)))))))))];unfold CN.o5 at q;rw[3,[202,hc]];rw[List.drop_zero];refine[52,(by rw[8]),λt1 h1=>[83,t1,[886]]];have s1:=aB (o:= .tup [886]) h1;have c1:=hc.same s1;show[44,if[256] then _ else ya [64,[12]] [886]];rw[[187],U9];have nf:∀ {k:Kd},[12]=k->([144])->[568]:=λe z=>by
  rw[e];exact z
 refine[198]
 ·have hh:[631]:=[717];rw[9];exact⟨_,rfl,_,rfl,l,all,c,[12],ts,rfl,by rcases hh with z|z<;>rw[z]<;>decide,c1,h2,[176,q H' ([549].trans k') c' a (ta.dH [549] c1)]⟩
 have hh:¬[631]:=[717];rw[6];refine[52,(by show[24,6];decide),λt2 ht2=>[83,t2,[88,[800]]]];have s2:=s1.trans (aB (o:= .tup [88,[800]]) ht2);have c2:=hc.same s2;show[44,if[256] then _ else ya [64,[12]] [88,[800]]];rw[[187],U9];refine[198]
 ·have hw:=(Gj _).mpr [866];rw[7,hw];exact⟨_,rfl,_,rfl,l,all,c,[12],ts,rfl,(λz=>by rw[z] at hw;cases hw),c2,h2,[490]⟩
 have hw:¬[92,CN.pS [12]]:=[370,(Gj _).mp z];rw[10,hw];have eqs:∀k':Kd,[1250]:=λk'=>oM _ _;rw[1,[171],[198]]
 ·rw[if_pos [135,.x8]] at q;exact⟨_,rfl,l,all,c,ts,rfl,c2,h2,[490]⟩
 rw[30,.x8];rw[1,[171],[198]]
 ·rw[if_pos [135,.while_]] at q;exact⟨_,rfl,l,all,c,ts,rfl,c2,h2,[490]⟩
 rw[30,.while_];rw[1,[171],[198]]
 ·rw[if_pos [135,.iJ]] at q;exact⟨_,rfl,l,all,c,ts,rfl,c2,h2,[490]⟩
 rw[30,.iJ];rw[1,[171],[198]]
 ·rw[if_pos [135,.cq]] at q;exact⟨_,rfl,l,all,c,ts,rfl,c2,h2,[490]⟩
 rw[30,.cq];rw[1,[171],[198]]
 ·rw[if_pos [135,.bW]] at q;exact⟨_,rfl,l,all,c,ts,rfl,c2,h2,[490]⟩
 rw[30,.bW];exact q
end
end
section
section
variable {P:Program} {w:World} {K:PySem.W.Frag} {mg:[16]} {base:Heap} {C CC TC NC fI fA fS fT fF fN kj lF:Addr} {gR je de jc jv jw:FuncData} {bm:[6]} {newId aP B:String} {fa:[41]} {fm:[42]} {n k:Nat} {F:jf}
theorem Eo:[27,[60,"first","second"],I.dM]:=[11]
theorem OP(R:[43])(A:[69])(hk:8<=k):[17,I.dM,I.dM,CN.rq F]:=by
 rw[15,R.aT.F.okN Eo fg [57],[3,[16,Eo.nd,[1032]],[19,sM [239],pv 1],[14,Eo.nd,[1032]],[46],[50,.p,bG (bz [13,pv 1,pv 2,[1032]]) fq]]];unfold CN.rq at q;rw[1,[301,?_],[28,.quest,c1,[863]]]
 ·rw[9];rw[1,[9,[55]],[55,c2,λt3 r3 e3 q H3 k3 c3 a3 Q1=> ?_]];rw[3,[18,.colon,c3,λlx r4 e4 q H4 v k4 c4 hv=> ?_]];rw[27];have K4:=K2.trans (k3.trans k4);refine⟨_,rfl,_,rfl,_,rfl,l,all,c,_,rfl,c4,h2,q.bind λt5 r5 e5 q H5 k5 c5 a5 ta5=> ?_⟩;rw[38];refine⟨(by rw[26]),[92]⟩;have s6:=[54,[V.ref a1,V.ref a3,V.ref a5],bQ];have K6:=K5.trans [435];have c6:=[436];exact bN K6 c6 [76] (gT (bM.lit (as:=[a1,a3,a5]) bQ (aV K5 c5 bQ) (.cons (Gd.keep c1 (k2.trans (k3.trans [527]))) (.cons ((Q1.dH K2 c2).keep c3 [527]) [55,ta5.dH K4 c4])))) (zl K6 c6) rfl (w8 K6 c6) rfl [4] [4]
 ·rw[6];rw[6,bY [9,q H1 k1 c1 a1 Gd]]
theorem scOr:[27,[84],I.nH]:=[11]
theorem ZD(R:[43])(A:[69])(hk:8<=k):[17,I.nH,I.nH,F.chain false]:=by
 refine R.orr.F.okN scOr fg [57];obtain⟨l,all,c,ts,rfl,hc,h2,q⟩:=h;rw[4,[38,[17,au A.chain hr rfl R.chain.m R.chain.F.kp R.chain.b .nil ao (aa (pv 0) (aa aH (aa aH [16,bc (v:= .ref (fa I.iM)) rfl R.jd.m rfl])))],?_],[470,false]]
theorem LP:[27,[84],I.hJ]:=[11]
theorem HJ(R:[43])(A:[69])(hk:8<=k):[17,I.hJ,I.hJ,F.chain true]:=by
 refine R.joined.F.okN LP fg [57];obtain⟨l,all,c,ts,rfl,hc,h2,q⟩:=h;rw[4,[38,[17,au A.chain hr rfl R.chain.m R.chain.F.kp R.chain.b .nil ao (aa (pv 0) (aa aH (aa aH [16,bc (v:= .ref (fa I.d7)) rfl R.signed.m rfl])))],?_],[470,true]]
theorem ZY:[27,[84],I.iM]:=[11]
theorem Th(R:[43])(A:[69])(hk:8<=k):[17,I.iM,I.iM,CN.zS F]:=by
 rw[15,R.jd.F.okN ZY fg [57],ae [390,[61,[9,A.compared,R.compared.m,R.compared.F.kp,R.compared.b]]] [17,[9,A.compared,R.compared.m,R.compared.F.kp,R.compared.b]]];unfold CN.zS at q;refine[28,.not_,hc,[667]]
 ·rw[9];rw[3,bY [284,⟨(by rw[2]),[92]⟩]];rw[27];have s3:=[178,V.ref a2];have K3:=K2.trans (aE.same s3);have c3:=c2.same s3;exact bN K3 c3 [76] [1398] [419] rfl (w8 K3 c3) rfl [4] [4]
 ·rw[6];rw[6,[1291]]
theorem LU:[27,[84],I.d7]:=[11]
theorem HR(R:[43])(A:[69])(hk:8<=k):[17,I.d7,I.d7,CN.kG F]:=by
 rw[15,R.signed.F.okN LU fg [57],ae [390,[61,[9,A.bH,R.bH.m,R.bH.F.kp,R.bH.b]]] [17,[9,A.bH,R.bH.m,R.bH.F.kp,R.bH.b]]];unfold CN.kG at q;refine[28,.sub,hc,[667]]
 ·rw[9];rw[3,bY [284,⟨(by rw[2]),[92]⟩]];rw[27];have s3:=[178,V.ref a2];have K3:=K2.trans (aE.same s3);have c3:=c2.same s3;exact bN (k:= .minus) K3 c3 [76] [1398] [419] rfl (w8 K3 c3) rfl [4] [4]
 ·rw[6];rw[6,[1291]]
theorem qC:[27,[60,"left","sign"],I.ft]:=[11]
theorem Bz(R:[43])(A:[69])(hk:8<=k):[17,I.ft,I.ft,CN.iu F]:=by
 rw[15,R.compared.F.okN qC fg [57],[3,[16,qC.nd,[1375]],[14,qC.nd,[392]],[19,aK yz [485,pv 2] aH (aZ _),pv 1],aF [119,[376]],[26,.p,[376],bG (bz [18,pv 1,[1375]]) fq]]];unfold CN.iu at q;rw[1,[301,?_],[9,[202,c1]]];rw[List.drop_zero];refine⟨kj,lW,rfl,R.ks,_,rfl,.inr (kS (hd r1)),rfl,?_⟩;rw[z0];refine[21,rfl,_,?_];by_cases hh:CN.strength (hd r1)=4
 ·rw[9];have e:[1240]=true:=decide_eq_true (by rw[hh];rfl);rw[e];refine[55];have MW:hd r1≠.fin:=λz=>by
   rw[z] at hh;cases hh
  rw[3,vK c1 rfl MW λlx e2 H2 v k2 c2 hv=> ?_];rw[27];refine⟨_,rfl,_,rfl,_,rfl,l,all,c,_,rfl,c2,h2,q.bind λt3 r3 e3 q H3 k3 c3 a3 Q1=>⟨(by rw[8]),[92]⟩⟩;have K3:=[212];have s4:=[54,[V.ref a1,V.ref a3],bQ];have K4:=K3.trans [550];have c4:=[551];exact bN K4 c4 [76] (gT (bM.lit (as:=[a1,a3]) bQ (aV K3 c3 bQ) (.cons (Gd.keep c1 (k2.trans k3)) [55,Q1.dH K2 c2]))) (zl K4 c4) rfl (w8 K4 c4) rfl [4] [4]
 ·rw[6];have e:[8,[1240]]:=decide_eq_false (λz=>hh (by rw[0,[290]]));rw[e];exact bY [9,q H1 k1 c1 a1 Gd]
def Ze(CC TC C NC l:Addr)(all:[15])(c pl:Addr)(H:Hp)(E:XK)(F:jf)(cl:Kd)(q:[10,[29]])(m:Nat)(σ:L2.St)(H':Hp):Prop:=[458,[210,[590]<=2001/\σ=[1248]/\[81]/\[466,[40,CN.dY F fu acc r,[20,cl,[12,l]]]]]]
theorem BZ:[4,[60,"closing","parts"],[43,"closing"],I.hW]:=[11]
theorem HL(R:[43])(A:[69])(hk:8<=k)(S:CN.M' F):aC P w K mg base [62] (k+1) (fa I.hW) (fm I.hW) [43,"closing"] (TZ CC TC C NC (CN.jq F)):=by
 rw[25,R.listed.F.okN BZ L9 [57]];obtain⟨l,all,c,cl,ts,rfl,ID,hc,h2,q⟩:=h;rw[13,[3,[19,dg (aD (pv 0) R.Z.cl R.Z.mF GF eP R.Z.bF .nil ao [45]),bz af],[14,BZ.nd,[61,[225]]],gd lL [239] [160,[225]],aF [119,[45]],pv 2]];unfold CN.jq at q;refine[9,S5 (hk:=ID) hc [667] [156]]
 ·rw[9];rw[3,bY [579]];have s2:=[80,bQ];exact q _ [874] [553] pl (bM.nil ag (aV k1 c1 bQ)) [3]
 rw[6];rw[3,bg [301,⟨(by rw[2]),[92]⟩]];have s2:=[178,V.ref a1];have Dt:=aV k1 c1 bQ;have Qz:=c1.rP bQ;have hle:=ng c1;rw[6,Ze CC TC C NC l all c pl H E F cl _,⟨_,_,[t1],r1,[a1],rfl,[8],by rw[0],rfl,[874],[553],ag,[55,(Gd.off bQ).sm s2],q⟩];rw[116];unfold CN.dY at q;have J':as.length=acc.length:=[252];refine[28,.comma,cc,λhh H3 k3 c3=> ?_]
 ·rw[if_pos hh,CN.Res.assoc] at q;rw[3,bY [165,Ze CC TC C NC l all c pl H E F cl _ m' cR mV]];have xX:=cT hL cc k3;have K3:=[434];refine⟨_,rfl,[14,xX],_,rfl,l,all,c,_,rfl,c3,h2,q.bind λt4 r4 e4 q H4 k4 c4 a4 ta4=> ?_⟩;have AL:=cT xX c3 k4;have hl4:=jE hh [3];have j6:r4.length<=[122].length:=S.expr _ t4 r4 e4;rw[1,[2,pl,_,_,rfl,AL,(by rw[List.length_map,J'];exact[137,[27,acc.length<=2001]]),?_],⟨r4.length,[2],fu,acc++[t4],r4,as++[a4],rfl,[2],by rw[0],rfl,jS [353] Dt,c4.fO AL Qz,by rw[4],?_,q⟩];exact bB (G:=λa t=>gj NC (GX H pl) [8,H4,pl,[70],a4] a t) ((ta4.Fd K3 c3 xX).wr AL) [98,([603].keep c3 k4).wr AL]
 ·rw[6];rw[3,bg [9,ni (hk:=ID) cc q [335]]];have vc:=lC e3;rw[6,q H3 [434] c3 pl (bM.cons (cT hL cc k3) Dt [98,[603].on]) [2]]
theorem QS:[27,[43,"expression"],I.bu]:=[11]
theorem Ti(R:[43])(A:[69])(hk:8<=k):[17,I.bu,I.bu,CN.js F]:=by
 rw[15,R.ZR.F.okN QS fg [57],ae [46] [3,bf [239] (ae [46] [17,gA R.Y.M GN j6 rfl R.Y.mC R.Y.b QJ a6 [103]]) aO,[19,[69,dg [411,[103]],[174,[392]]],[9,A.cp,R.fields.m,R.fields.F.kp,R.fields.b]],[16,QS.nd,[225]],[46],pv 1]];unfold CN.js at q;rw[1,[12,.lpar,hc,[867]],[28,.colon,c1,[863]]]
 ·rw[9];rw[3,bY [919]];have K3:=[114,k3];exact bN K3 c3 [76] (NN K3 c3) [419] rfl (w8 K3 c3) rfl [4] [4]
 rw[6];rw[3,[55]];have rest:¬[1206]->[508,if[1206] then F.cp r1 else[1200]]->[508,[1200]]:=λhn z=>by
  rw[if_neg hn] at z;exact z
 by_cases hn:hd r1= .name
 ·rw[3,[995]];rw[8,[41,[2,hd r1,.name],hn],bY [9,nh (n:=1) c1 [21,rfl,_,?_]]];by_cases hcn:hd (r1.drop 1)= .colon
  ·rw[7,⟨hn,hcn⟩];rw[0,[44,[2,V.str (kS (hd (r1.drop 1))),V.str ":"],(oM _ .colon).trans (decide_eq_true hcn)],bY ⟨_,rfl,l,all,c,_,rfl,c1,h2,[176,q H' (k1.trans k') c' a (ta.dH k1 c1)]⟩]
  ·have q:=rest (λz=>hcn z.2) q;rw[[66,[2,V.str (kS (hd (r1.drop 1))),V.str ":"],(oM _ .colon).trans (decide_eq_false hcn)]];rw[1,bg [284,?_],[919]];rw[6,q H3 [114,k3] c3 a2 ((Ah.dH k1 c1).keep c2 k3)]
 ·have q:=rest (λz=>hn z.1) q;rw[3,[995]];rw[[20,hd r1,.name,hn]];rw[1,bg (bg [284,?_]),[919]];rw[6,q H3 [114,k3] c3 a2 ((Ah.dH k1 c1).keep c2 k3)]
end
end
section
section
variable {P:Program} {w:World} {K:PySem.W.Frag} {mg:[16]} {base:Heap} {C CC TC NC fI fA fS fT fF fN kj lF:Addr} {gR je de jc jv jw:FuncData} {bm:[6]} {newId aP B:String} {fa:[41]} {fm:[42]} {n k:Nat} {F:jf}
theorem qD:[27,[60,"own_name","parameters"],I.fw]:=[11]
theorem BB(R:[43])(A:[69])(hk:8<=k):[17,I.fw,I.fw,CN.iy F]:=by
 obtain⟨GT,GF,GS,GA,GN⟩:=[215,w];have GP:aC P w K mg base [62] 4 (fa I.gH) (fm I.gH) [84] (B9 CC TC C):=HN R.parameters.F R.Z R.T R.G R.ml;refine R.function.F.okN qD fg [57];have jx:=[23,1];rw[19];rw[22];have j6:=[23,4];rw[42,[3,[46],[16,qD.nd,wb (dg [411,[103]]) [175] zO],[46],[14,qD.nd,au GP j6 rfl R.parameters.m R.parameters.F.kp R.parameters.b .nil ao [137]],[50,.bnn,bG [793] [71,pv 1,pv 2]]]];unfold CN.iy at q;rw[1,[12,.qK,hc,[867]],[9,[995]]];by_cases hh:hd r1= .name
 ·rw[[41,[2,hd r1,.name],hh]];rw[if_pos hh,CN.Res.assoc] at q;refine bY [634];rw[27];have nm:=jQ e2 N9;rw[3,[18,.lpar,c2,[335]]];have K3:=[212];have hle:=ng c3;refine⟨_,rfl,l,all,c,_,rfl,c3,[2],[1180]⟩;have K4:=[353];refine[55,c4,λt5 r5 e5 q H5 k5 c5 b5 tb5 hb5=>⟨(by rw[2]),[552]⟩];rw[38];have s6:=[54,[V.ref b5],so];have K6:=K5.trans [435];have c6:=[436];have ns6:=[1425];exact[91,[509,[1363]]]
 ·rw[[20,hd r1,.name,hh]];rw[6];refine[55];have K2:=k1;have c2:=c1;have nm:mW H1 none .cg:=rfl;rw[3,[18,.lpar,c2,[335]]];have K3:=[212];have hle:=ng c3;refine⟨_,rfl,l,all,c,_,rfl,c3,[2],[1180]⟩;have K4:=[353];refine[55,c4,λt5 r5 e5 q H5 k5 c5 b5 tb5 hb5=>⟨(by rw[2]),[552]⟩];rw[38];have s6:=[54,[V.ref b5],so];have K6:=K5.trans [435];have c6:=[436];have ns6:=[1425];exact[91,[509,[1363]]]
theorem wu:[4,[60,"word","parts"],[43,"word"],I.eI]:=[11]
theorem BF(R:[43])(A:[69])(hk:8<=k):aC P w K mg base [62] (k+1) (fa I.eI) (fm I.eI) [43,"word"] (T3 CC TC C NC (CN.iA F)):=by
 rw[25,R.mJ.F.okN wu Ma [57]];rw[21];obtain⟨l,all,c,kd,ts,rfl,hp,hc,h2,q⟩:=h;have Sq:kd≠.fin:=λz=>by
  rw[z] at hp;cases hp
 rw[13,[3,aF [119,[45]],[46],[14,wu.nd,[1044]],[391,[14,yz,[218,[376]],[31,lF,R.mp,pv 1]]],[26,.p,[45],bG (pv 2) fq]]];unfold CN.iA at q;rw[1,[9,ni (hk:=Sq) hc q [867]],[12,.lpar,c1,[1081]]];rw[27];refine⟨_,rfl,l,all,c,.rpar,_,rfl,[3],c2,h2,q.bind [1123]⟩;have K3:=[212];obtain⟨Uz,xX,_,J',_⟩:=id Q1;obtain⟨⟨p,m⟩,AX⟩:=Option.isSome_iff_exists.mp hp;have AZ:gh wg (.inr (kS kd))=some [6,m]:=by
  rw[LB,AX];rfl
 refine⟨_,rfl,a3,_,rfl,[67,xX],_,rfl,lF,_,rfl,.inl [3,wg,.inr (kS kd),R.kp,AZ.symm],rfl,_,rfl,?_⟩;have hlen:[78,Uz.map V.ref]=[2,t3.length]:=by rw[List.length_map,J']
 rw[hlen];rw[AX] at q;by_cases hh:t3.length=m
 ·have e:[1241]=true:=decide_eq_true (by rw[hh]);rw[e];rw[if_pos (by show some t3.length=some m;rw[hh])] at q;rw[4,bg [91,?_],[1478]]
 ·have e:[8,[1241]]:=decide_eq_false (λz=>hh (by rw[0,[290]]));rw[e];rw[if_neg (by show¬some t3.length=some m;intro z;exact hh (Option.some.inj z))] at q;exact bY q
def Og(CC TC C NC l:Addr)(all:[15])(c:Addr)(H:Hp)(E:XK)(F:jf)(q:[10,CN.T])(m:Nat)(σ:L2.St)(H':Hp):Prop:=∃(fu:Nat) (x:CN.T) (r:[15]) (a:Addr),[210,σ=[[4,c],[412]]/\[81]/\[161]/\gj NC (jB H) H' a x/\[226,CN.eZ F fu x r]]
theorem mG:[27,[43,"reached"],I.gD]:=[11]
theorem D6(R:[43])(A:[69])(hk:8<=k)(S:CN.M' F)(S2:CN.Fit F):[17,I.gD,I.gD,CN.jr F]:=by
 rw[15,R.bH.F.okN mG fg [57],[23,[16,mG.nd,[9,A.simple,R.simple.m,R.simple.F.kp,R.simple.b]],gd lL [75,[392],[593]] (ah (bf [239] (ah [16,mG.nd,[50,.p,bG (jo Eb (bz [45]) [1044]) fq]]) (ah (bf [239] (ae [16,mG.nd,[50,.p,bG (bz [18,pv 1,[225]]) fq]] (ah [46])) (ae [46] (ah [16,mG.nd,[50,.pn,[71,bz [45],[175]]]])))))),pv 1]];unfold CN.jr at q;rw[1,[301,?_],[21,Og CC TC C NC l all c H E F _,⟨_,_,t1,r1,a1,rfl,[8],rfl,k1,c1,Gd,q⟩]];rintro m σ H' ⟨fu,x,r,a,rfl,Yw,rfl,kc,cc,ta,q⟩;rw[42];unfold CN.eZ at q;rw[3,[202,cc]];rw[List.drop_zero];refine⟨(by rw[26]),[238,[88,[391]]]⟩;have s2:=[97,.tup [88,[391]]];have K2:=kc.trans (aE.same s2);have c2:=cc.same s2;have Ah:=ta.sm s2;show[44,if[256] then _ else ya [64,hd r] [88,[391]]];rw[[187],U9];by_cases h1:hd r= .lpar
 ·rw[7,h1];rw[[48,[63,hd r,[391]],(by rw[h1];decide)]];rw[1,bY [165,[1072]],[141,λ_ H3 k3 c3=> ?_,λz=>absurd h1 z]];rw[3,bY [52,(by rw[2]),[92]]];have K3:=[212];have s4:=[301];have K4:=K3.trans [550];have c4:=[551];refine⟨_,rfl,l,all,c,.rpar,_,rfl,[3],c4,h2,q.bind λt5 r5 e5 q H5 k5 c5 a5 ta5 hl5=> ?_⟩;rw[38];have R3:=cT ag c4 k5;obtain⟨as5,hA5,g5,J9⟩:=(ta5.dH K4 c4).paired;have Fj:as5.length=t5.length:=[685];refine⟨pl,a5,_,_,rfl,rfl,R3,hA5,by rw[List.length_map,Fj];exact Nat.le_of_lt [137,(show[[104]].length+t5.length<=2001 by rw[0])],λp5 SA=> ?_⟩;have s6:=[110,[[104]]++as5.map V.ref,SA];have K6:=K5.trans [435];have c6:=[436];have vc:=jE h1 [3];have Ku:r5.length<=[122].length:=S.listed _ _ t5 r5 e5;have hz:=S2.listed _ _ t5 r5 e5;have U8:=CN.zx t5;have hz3:=ng cc;refine bN (k:= .call) (ps:=x::t5) (nm:=none) (nv:= .cg) (tv:= .none) (vv:= .cg) K6 c6 (λH' a' kk cc _ t=> ?_) (gT ?_) (zl K6 c6) rfl (w8 K6 c6) rfl (by rw[44]) [4]
  ·exact[1452]
  exact bM.lit (as:=a::as5) SA (aV K5 c5 SA) (.cons (((Ah.keep c2 k3).sm s4).keep c4 k5) J9)
 rw[10,h1];by_cases h3:hd r= .iU
 ·rw[7,h3];rw[[48,[63,hd r,[391]],(by rw[h3];decide)]];rw[1,bY [165,[1072]],[141,[190,h1],[918]]];rw[3,ll (k:= .iU) c2 (λ_ H3 k3 c3=> ?_) λz=>absurd h3 z];have K3:=[212];rw[3,bY ⟨_,rfl,_,rfl,l,all,c,_,rfl,c3,h2,q.bind λt5 r5 e5 q H5 k5 c5 a5 ta5=>⟨(by rw[8]),[92]⟩⟩];have K5:=K3.trans k5;have s6:=[54,[[104],V.ref a5],bQ];have K6:=K5.trans [435];have c6:=[436];have vc:=jE h3 [3];have Ku:r5.length<=[122].length:=S.expr _ t5 r5 e5;rw[1,bN (k:= .element) (nm:=none) (nv:= .cg) (tv:= .none) (vv:= .cg) K6 c6 (λH7 a7 k7 c7 s7 t7=> ?_) (gT (bM.lit (as:=[a,a5]) bQ (aV K5 c5 bQ) (.cons (Ah.keep c2 (k3.trans k5)) [55,ta5.dH K3 c3]))) (zl K6 c6) rfl (w8 K6 c6) rfl [4] [4],[12,.pQ,c7,λlx r8 e8 q H8 v k8 c8 hv=> ?_]];have CH:=lC e8;exact⟨r8.length,[2],fu,_,r8,a7,rfl,[2],rfl,k7.trans k8,c8,t7.keep c7 k8,q⟩
 rw[10,h3];by_cases h4:hd r= .dot
 ·rw[7,h4];rw[[48,[63,hd r,[391]],(by rw[h4];decide)]];rw[1,bY [165,[1072]],[141,[190,h1],[918]],[9,ll (k:= .iU) c2 [190,h3] [918]],[9,FG (k:= .dot) c2 h4 [3] [1124]]];have K3:=[212];refine[52,(by rw[2]),[92]];have s4:=[301];have K4:=K3.trans [550];have c4:=[551];have tp:=bM.lit (as:=[a]) bQ (aV K3 c3 bQ) [55,Ah.keep c2 k3];rw[3,[18,.name,c4,λlx5 r5 e5 q H5 nv k5 c5 hv5=> ?_]];rw[38];have vc:=jE h4 [3];have hl5:=lC e5;rw[4,bN (k:= .field) (tv:= .none) (vv:= .cg) K5 c5 (λH' a' kk cc _ t=> ?_) (gT (tp.keep c4 k5)) (zl K5 c5) (jQ e5 hv5) (w8 K5 c5) rfl [4] [4],[1452]]
 rw[10,h4];rw[0,[66,[63,hd r,[391]],decide_eq_false (by simp[h1,h3,h4])],bg [9,q _ K2 c2 a Ah]]
end
end
section
abbrev GY(H:Hp)(p s:Addr):[18]:=λb=>H b=none/\b≠p/\b≠s
theorem gj.M6 {NC p:Addr} {G:[18]} {H:Hp} {xs ys:[13]} {a:Addr} {t:CN.T}(h:[164])(hp:[37,p])(hg:¬G p):gj NC G [51,p] a t:=h.ch (Ch.upd hp hg)
theorem gj.weak {NC:Addr} {G G':[18]} {H:Hp} {a:Addr} {t:CN.T}(h:[164])(g:∀b,G b->G' b):gj NC G' H a t:=h.ch (Ch.weak g)
section
variable {P:Program} {w:World} {K:PySem.W.Frag} {mg:[16]} {base:Heap} {C CC TC NC fI fA fS fT fF fN kj lF:Addr} {gR je de jc jv jw:FuncData} {bm:[6]} {newId aP B:String} {fa:[41]} {fm:[42]} {n k:Nat} {F:jf}
theorem B1:[27,[43,"kind"],I.hX]:=[11]
theorem HS(R:[43])(A:[69])(hk:8<=k):[17,I.hX,I.hX,CN.kH F]:=by
 rw[25,R.simple.F.okN B1 fg [57]];rw[21];rw[42,ae [16,B1.nd,[392]] (ae [19,[75,pv 1,aa ay [103]],[26,.v,[45],bG [119,[45]] fq]] (ae [134,[26,.n,[45],bG [119,[45]] fq]] (ae [134,[9,A.eR,R.ZR.m,R.ZR.F.kp,R.ZR.b]] (ae [134,[9,A.function,R.function.m,R.function.F.kp,R.function.b]] (ae [19,nE (zN hu (pv 1) [80,lF,R.mp]),au A.dj hr rfl R.mJ.m R.mJ.F.kp R.mJ.b .nil ao [302]] (ae [390,[1044]] (ae (bf [75,pv 1,[593]] (ae (aF [119,[45]]) [17,gA R.Y.M GN j6 rfl R.Y.mC R.Y.b QJ a6 [45]]) aO) (ah (f' R.G.O R.G.FB rfl)))))))))];unfold CN.kH at q;rw[3,[202,hc]];rw[List.drop_zero];refine[52,(by rw[8]),λt1 h1=>[83,t1,[957]]];have s1:=aB (o:= .tup [957]) h1;have c1:=hc.same s1;have K1:=aE.same (c:=c) s1;show[44,if[256] then _ else ya [64,[12]] [957]];rw[[187],U9];by_cases hn:[12]= .number
 ·rw[7,hn];rw[[48,[63,[12],[964]],(by rw[hn];decide)],hn];refine bY [409,.number];rw[69];obtain⟨m,rfl⟩:=Aa e2;obtain rfl:v=[6,m]:=hv;exact bN (k:= .number) (tv:= .num m) K2 c2 [76] (NN K2 c2) (zl K2 c2) rfl (w8 K2 c2) rfl [4] [4]
 rw[10,hn];by_cases hq:[12]= .quoted
 ·rw[7,hq];rw[[48,[63,[12],[964]],(by rw[hq];decide)],hq];refine bY [409,.quoted];rw[69];obtain⟨m,rfl⟩:=sS e2;exact bN (k:= .quoted) (tv:= .quoted m) K2 c2 [76] (NN K2 c2) (zl K2 c2) rfl (w8 K2 c2) hv [4] [4]
 rw[10,hq];rw[8,[66,[63,[12],[964]],decide_eq_false (by simp[hn,hq])],[55]];have eqs:∀k':Kd,[1250]:=λk'=>oM _ _;rw[1,[171],[198]]
 ·have hh:[12]= .name:=[135,.name];rw[9];rw[hh];refine[409,.name];rw[69];exact bN (k:= .name) K2 c2 [76] (NN K2 c2) (zl K2 c2) (jQ e2 hv) (w8 K2 c2) rfl [4] [4]
 rw[30,.name];rw[1,[171],[198]]
 ·rw[if_pos [135,.lpar]] at q;exact⟨_,rfl,l,all,c,ts,rfl,c1,h2,[996]⟩
 rw[30,.lpar];rw[1,[171],[198]]
 ·rw[if_pos [135,.qK]] at q;exact⟨_,rfl,l,all,c,ts,rfl,c1,h2,[996]⟩
 rw[30,.qK];refine⟨_,rfl,lF,_,rfl,.inl [3,wg,.inr (kS [12]),R.kp,rfl],_,rfl,?_⟩;rw[LB,Option.isSome_map];refine[198]
 ·rw[9];exact⟨_,rfl,_,rfl,l,all,c,[12],ts,rfl,hh,c1,h2,[996]⟩
 rw[6];refine[9,ll (k:= .iU) c1 (λhb H2 k2 c2=> ?_) [249]]
 ·rw[7,hb];rw[69];rw[3,bY ⟨_,rfl,l,all,c,.pQ,_,rfl,[3],c2,h2,q.bind [1123]⟩];have K3:=[212];exact[1478]
 rw[10,hb];rw[1,[9,[55]],[52,(by rw[26]),λt2 ht2=>[83,t2,[1030]]]];have s2:=aB (o:= .tup [1030]) ht2;have c2:=[553];have K2:=K1.trans (aE.same (c:=c) s2);show[44,if[256] then _ else ya [64,[12]] [1030]];rw[[187],U9];refine er [156] [156]
 ·have hm:=[866];have hy:[1007]:=by simpa using hm
  have hf:[568]:=λz=>by
   rw[z] at hy;simp at hy
  rw[7,hy];rw[3,vK c2 rfl hf [1124]];have K3:=[212];rw[6,bN K3 c3 [76] (NN K3 c3) [419] rfl (w8 K3 c3) rfl [4] [4]]
 ·have hy:¬[1007]:=[370,[849]];rw[10,hy];exact q
end
end
section
theorem cj.wr {H:Hp} {p l:Addr} {xs ys:[13]} {ns:[23]}(h:[377])(hp:[37,p])(gx:l≠p):cj [51,p] l ns:=by
 obtain⟨as,hL,hP⟩:=h;rw[0,as,(by rw[0,aj gx,hL]),[70,hP,(by rw[0,aj [13,z,hp],z])]]
def SO(CC TC C NC l:Addr)(all:[15])(c nl pl:Addr)(H:Hp)(E:XK)(F:jf)(q:[10,CN.T])(m:Nat)(σ:L2.St)(H':Hp):Prop:=∃(fu:Nat) (ns:[23]) (ps:[29]) (r:[15]) (as:[14]),[210,ps.length=ns.length/\ns.length+r.length<=2000/\σ=[[4,c],[4,nl],[233]]/\[81]/\[161]/\cj H' nl ns/\[5,H' pl,[181],[30,λa t=>[56,[508],H'],ps],[226,[4,ns,[],[98,CN.lg F r,CN.dk F [90] [x.1] [x.2] r],CN.dk F fu ns ps r]]]]
section
variable {P:Program} {w:World} {K:PySem.W.Frag} {mg:[16]} {base:Heap} {C CC TC NC fI fA fS fT fF fN kj lF:Addr} {gR je de jc jv jw:FuncData} {bm:[6]} {newId aP B:String} {fa:[41]} {fm:[42]} {n k:Nat} {F:jf}
theorem wt:[27,[60,"names","parts"],I.cM]:=[11]
theorem HH(R:[43])(A:[69])(hk:8<=k)(S:CN.M' F):[17,I.cM,I.cM,CN.ic F]:=by
 rw[25,R.fields.F.okN wt fg [57]];obtain⟨l,all,c,ts,rfl,hc,h2,q⟩:=h;rw[10,[3,[16,wt.nd,bz af],[14,wt.nd,bz af],gd lL (PW.pt (LA [128,[218,[45]]] (Eh [239]))) (ae (aF [78,pv 1,[175]]) (ae [46] [160,[225]])),[46],[50,.pns,[71,pv 2,pv 1]]],[179,λnl xb=>[579]]];have s1:=[80,xb];have s2:=[80,bQ];have s12:=[250];have RX:[5,nl]:=xb;have Dt:[5,pl]:=by cases z:H pl with
  |none=>rfl
  |some o=>
   rw[[101]] at bQ;cases bQ
 have xo:pl≠nl:=λz=>by
  rw[z,ag] at bQ;cases bQ
 have htn:=hc.rP xb;have ou:=(hc.same s1).rP bQ;have hle:=ng hc;rw[6,SO CC TC C NC l all c nl pl H E F _,⟨_,_,[],[],ts,[],rfl,[8],rfl,by rw[0],rfl,aE.same s12,hc.same s12,⟨[],[15,ag],.nil⟩,ag,.nil,q⟩];rintro m σ H' ⟨fu,ns,ps,r,as,rfl,Yw,SE,hnsl,rfl,kc,cc,nm,hL,hP,q⟩;obtain⟨zE,hN,hNP⟩:=id nm;have YL:[78,[554]]=[2,ns.length]:=by rw[47,hNP]
 refine⟨_,rfl,nl,_,rfl,[67,hN],rfl,_,rfl,?_⟩;rw[YL];by_cases qk:ns=[]
 ·have hps:ps=[]:=List.length_eq_zero_iff.mp (by rw[SE,qk];rfl);rw[7,qk];rw[8,[48,[2,[13,ns.length],[211]],(by rw[qk];rfl)],bY (bY ?_)];unfold CN.lg at q;have Zp:=nm;have c3:=cc;have K3:=kc;have xX:=hL;have UN:=hP;simp only[CN.Res.assoc] at q;rw[6,[336,SO CC TC C NC l all c nl pl H E F _ m' cR mV],[203]];obtain⟨nas3,X9,hNP3⟩:=id Zp;refine[103,[14,X9],[18,.name,c3,[1125]]];obtain⟨n4,rfl,Kv⟩:=rO e4;obtain⟨Br,rfl,Sw⟩:=ph Kv Y5;obtain⟨ny,NV,J8⟩:=Zp.gU c3.is k4;have AL:=cT xX c3 k4;have Sv:ny.length=ns.length:=Paired.length J8;refine[2,nl,_,_,rfl,NV,(by rw[List.length_map,Sv];rw[21,ns.length]),?_];have tp5:[126,H4 b,[149]]:=λb xs z=>by rw[0,aj [13,z,NV],z]
  have nm5:cj [149] nl (ns++[n4]):=⟨ny++[Br],by rw[4],bB (G:=λa n=>[290,[149]]) (tp5 _ _ Sw) [70,J8,tp5 _ _ z]⟩;have K5:aE c H [149]:=jS [353] RX;have c5:[1225]:=c4.fO NV htn;have R3:([149]) pl=some [181]:=by rw[0,aj xo,AL]
  have J9:[30,λa t=>gj NC [508] [149] a t,ps]:=[79,UN,[1276]];rw[3,[18,.colon,c5,[1126]]];have Zq:=nm5.gU c5.is k6;have CF:=cT R3 c5 k6;have K6:=[684];refine[1306];have w9:=cT CF c6 k7;have nm7:=Zq.gU c6.is k7;have Fj:as.length=ps.length:=[685];refine[2,pl,_,_,rfl,w9,(by rw[List.length_map,Fj];rw[21,ps.length]),?_];have l4:=lC e4;have l6:=lC e6;have l7:r7.length<=r6.length:=S.expr _ t7 r7 e7;obtain⟨nas6,R4,hNP6⟩:=id Zq;have ta8:[1382]:=[1343];have hP8:[1312]:=bB (G:=[826]) ta8 [1337];refine⟨r7.length,[2],r7.length+1,ns++[n4],ps++[t7],r7,as++[a7],rfl,[8],by simp[SE],by rw[0],rfl,[951],c7.fO w9 ou,nm7.wr w9 (Ne.symm xo),by rw[4],hP8,?_⟩;rw[[214],qk,hps];exact q
 ·have gx:¬([13,ns.length]=[211]):=λz=>qk (List.length_eq_zero_iff.mp (by rw[0,[290]]));rw[[20,[13,ns.length],[211],gx]];rw[10,qk];rw[42];unfold CN.dk at q;refine bg [28,.comma,cc,λhh H3 k3 c3=> ?_]
  ·rw[9];unfold CN.lg at q;simp only[CN.Res.assoc] at q;rw[3,bY ?_];have Zp:=[914];have K3:=[434];have xX:=cT hL cc k3;have UN:=[98,[603]];have vc:=jE hh [3];rw[6,[336,SO CC TC C NC l all c nl pl H E F _ m' cR mV],[203]];obtain⟨nas3,X9,hNP3⟩:=id Zp;refine[103,[14,X9],[18,.name,c3,[1125]]];obtain⟨n4,rfl,Kv⟩:=rO e4;obtain⟨Br,rfl,Sw⟩:=ph Kv Y5;obtain⟨ny,NV,J8⟩:=Zp.gU c3.is k4;have AL:=cT xX c3 k4;have Sv:ny.length=ns.length:=Paired.length J8;refine[2,nl,_,_,rfl,NV,(by rw[List.length_map,Sv];rw[21,ns.length]),?_];have tp5:[126,H4 b,[149]]:=λb xs z=>by rw[0,aj [13,z,NV],z]
   have nm5:cj [149] nl (ns++[n4]):=⟨ny++[Br],by rw[4],bB (G:=λa n=>[290,[149]]) (tp5 _ _ Sw) [70,J8,tp5 _ _ z]⟩;have K5:aE c H [149]:=jS [353] RX;have c5:[1225]:=c4.fO NV htn;have R3:([149]) pl=some [181]:=by rw[0,aj xo,AL]
   have J9:[30,λa t=>gj NC [508] [149] a t,ps]:=[79,UN,[1276]];rw[3,[18,.colon,c5,[1126]]];have Zq:=nm5.gU c5.is k6;have CF:=cT R3 c5 k6;have K6:=[684];refine[1306];have w9:=cT CF c6 k7;have nm7:=Zq.gU c6.is k7;have Fj:as.length=ps.length:=[685];refine[2,pl,_,_,rfl,w9,(by rw[List.length_map,Fj];rw[21,ps.length]),?_];have l4:=lC e4;have l6:=lC e6;have l7:r7.length<=r6.length:=S.expr _ t7 r7 e7;obtain⟨nas6,R4,hNP6⟩:=id Zq;have ta8:[1382]:=[1343];have hP8:[1312]:=bB (G:=[826]) ta8 [1337];refine⟨r7.length,[2],fu,_,_,r7,as++[a7],rfl,[2],by simp[SE],by rw[0],rfl,[951],c7.fO w9 ou,nm7.wr w9 (Ne.symm xo),by rw[4],hP8,?_⟩;rw[0,[214],q]
  ·rw[6];rw[3,bg [12,.rpar,cc,[335]]];have K3:=[434];have xX:=cT hL cc k3;exact[91,bN K3 c3 [76] (gT (bM.cons xX Dt [98,[603].weak λb e=>e.1])) [419] rfl [6,nl,rfl,[914],RX] rfl [2] [4]]
end
end
section
variable {s:Addr} {H H1:Hp} {o:HO}
def xJ(NC:Addr)(G:[18])(H:Hp)(pl sl:Addr)(x:CN.T)(gI:[362]):Prop:=∃(ax:Addr) (Vg:[14]),H pl=some (.lst (Vg.reverse.map V.ref++[.ref ax]))/\[5,H sl,.lst (gI.reverse.map [326]),gj NC G H ax x,Paired (λa p=>gj NC G H a p.1) Vg gI]
def gP(p s:Addr)(H H':Hp):Prop:=∀b o,[3,H b]->b≠p->b≠s->[3,H' b]
theorem gP.trans {p:Addr} {H2:Hp}(a:gP p s H H1)(b:gP p s H1 H2):gP p s H H2:=λx o h n m=>b x o (a x o h n m) n m
theorem gP.same {p:Addr}(a:[294]):gP p s H H1:=λx o h _ _=>a x o h
theorem gP.Uk {p:Addr}:gP p s H [47,p]:=λx u h n _=>by rw[0,aj n,h]
theorem gP.updS {p:Addr}:gP p s H [47,s]:=λx u h _ n=>by rw[0,aj n,h]
theorem vT {p b:Addr} {H':Hp} {o':HO}(k:gP p s H H')(hp:[3,H' p])(hs:H' s=some o')(e:[337]):[75]:=by cases z:H b with
 |none=>rfl
 |some u=>rw[22,k b u z (λy=>by rw[y,hp] at e;cases e) (λy=>by rw[y,hs] at e;cases e)]
def spJ(NC:Addr):Sp:=λvs H Q _=>∃(G:[18]) (pl sl:Addr) (st:Nat) (x:CN.T) (gI:[362]),vs=[.ref pl,.ref sl,[6,st]]/\pl≠sl/\¬G pl/\¬G sl/\(∀b,([75])->G b)/\gI.length<=2000/\[1189]/\xJ NC G H pl sl x gI/\∀H',gP pl sl H H'->xJ NC G H' pl sl [309].1 [309].2->[199]
theorem vB(ys:[13])(y:V):(ys++[y])[[42,ys,y] -1]? =some y:=[4]
theorem Ol(ys:[13])(y:V):MQ (ys++[y]) (-1)=some y:=by
 unfold MQ;have e:QC [42,ys,y] (-1)=some ys.length:=by
  unfold QC;rw[List.length_append];rw[0]
 rw[e];simp
section
variable {P:Program} {w:World} {K:PySem.W.Frag} {mg:[16]} {base:Heap} {C CC TC NC fI fA fS fT fF fN kj lF:Addr} {gR je de jc jv jw:FuncData} {bm:[6]} {newId aP B:String} {fa:[41]} {fm:[42]} {n k:Nat} {F:jf}
theorem Ep:[4,["parts","signs","strength","right","left"],[1092],I.cZ]:=[11]
def Zd(NC:Addr)(G:[18])(pl sl:Addr)(st:Nat)(H:Hp)(goal:CN.T×[362])(m:Nat)(σ:L2.St)(H':Hp):Prop:=∃(x:CN.T) (gI:[362]) (v3 v4:[71]),m=gI.length/\σ=[[233],[4,sl],[39,st],v3,v4]/\gP pl sl H H'/\xJ NC G H' pl sl x gI/\[309]=goal/\[1189]/\gI.length<=2000
theorem OR(R:[43]):[1428]:=by
 have GN:[324,wC NC]:=Ld R.Y;refine R.cZ.F.ok Ep [20] [21]
 ·rw[48]
 have j6:=hr;rw[21];obtain⟨G,pl,sl,st,x,gI,rfl,gx,gp,gs,gf,hlen,vg,hS,q⟩:=h;rw[10,ah (gd PassesOwn.never [69,aK vV [218,[45]] aH (aZ _),[14,yy,[31,kj,R.ms,eW cI (pv 1) (QL Mz aH) [157]],pv 2]] (ae [3,3,Ep.nd,[410,pv 0]] (ae [3,4,Ep.nd,[410,pv 0]] [67,pv 0,[26,.p,[16,[410,pv 1]],bG (bz [18,pv 4,pv 3]) fq]]))),[21,Zd NC G pl sl st H [309],⟨_,x,gI,none,none,rfl,rfl,λb o z _ _=>z,hS,rfl,vg,hlen⟩]];rintro m σ H' ⟨x',stk',v3,v4,rfl,rfl,kk,⟨ax,Vg,hL,hT,tx,hP⟩,hj,vh,Ki⟩;refine⟨_,rfl,sl,_,rfl,[67,hT],_,_,rfl,rfl,_,rfl,?_⟩;have hl:[11,(stk'.reverse.map [326]).length]=[2,stk'.length]:=[4];rw[hl];cases hP with
  |nil=>
   refine[55];have q:=q H' kk;rw[<-hj] at q;exact q ⟨ax,[],hL,hT,tx,.nil⟩
  | @cons la ls ra rs r1 hP=>
   obtain⟨lt,sg⟩:=ls;rw[8,[48,decide ([2,0]<[11,[641].length]),(by rw[44])],bY ?_];have Yg:[86,sl,[657]++[[45,sg]]]:=by
    rw[hT];simp
   have hsg:[686]≠0:=vh (lt,sg) [4];refine⟨_,rfl,1,rfl,sl,_,-1,[45,sg],rfl,rfl,bP.of Yg,Ol _ _,kj,_,rfl,.inl [3,lW,.inr (kS sg),R.ks,(rK hsg).symm],_,rfl,_,_,rfl,rfl,_,rfl,?_⟩;by_cases Yx:st<=[686]
   ·have e:[10,[140],[2,[686]]]=true:=decide_eq_true [2];rw[e];have YB:CN.join st (CN.eS sg [lt,x']) rs=[309]:=by
     rw[<-hj];show _=CN.join st x' [641];rw[CN.join,if_pos Yx]
    refine bY [21,λcR mV=>[77,[641].length,Zd NC G pl sl st H [309] m' cR mV],[203]];have UM:[86,pl,[33,[437],la]++[V.ref ax]]:=by
     rw[hL];simp
    refine⟨_,rfl,[14,UM],pl,_,_,rfl,rfl,UM,vB _ _,?_⟩;rw[List.dropLast_concat];have h1:([8,H',pl,[437],la]) pl=some (.lst [33,[437],la]):=ag;refine⟨_,rfl,[14,h1],pl,_,_,rfl,rfl,h1,vB _ _,?_⟩;rw[List.dropLast_concat];generalize hH2:upd (upd H' pl (.lst (ra.reverse.map V.ref++[V.ref la]))) pl (.lst (ra.reverse.map V.ref))=H2;have c2:Ch NC G G H' H2:=by
     rw[<-hH2];exact(Ch.upd UM gp).trans (Ch.upd h1 gp)
    have k2:gP pl sl H H2:=by
     rw[<-hH2];exact kk.trans (gP.Uk.trans gP.Uk)
    have U0:H2 pl=some (.lst [437]):=by
     rw[<-hH2];exact ag
    have DF:H2 sl=some (.lst ([657]++[[45,sg]])):=by
     rw[<-hH2,aj (Ne.symm gx),aj (Ne.symm gx)];exact Yg
    refine⟨_,rfl,[14,U0],_,rfl,[14,DF],sl,_,_,rfl,rfl,DF,vB _ _,?_⟩;rw[List.dropLast_concat];have hp3:[30,[771],pl,[437]]:=by rw[0,aj gx,U0]
    have U3:[30,[771],sl,[657]]:=ag;have c3:Ch NC G G H' [771]:=c2.trans (Ch.upd DF gs);have k3:gP pl sl H [771]:=k2.trans gP.updS;generalize upd H2 sl (.lst (rs.reverse.map λp=>V.str (kS p.2)))=H3 at hp3 U3 c3 k3;refine⟨_,rfl,_,rfl,(by rw[8]),λql YU=> ?_⟩;have gq:=gf _ (vT k3 hp3 U3 YU);have s4:=[54,[V.ref la,V.ref ax],YU];have k4:=k3.trans (gP.same s4);have hp4:=s4 _ _ hp3;have hs4:=s4 _ _ U3;have fr:∀b,(upd H3 ql (.lst [V.ref la,V.ref ax])) b=none->G b:=λb e=>gf _ (vT k4 hp4 hs4 e);refine yp (k:=sg) (nm:=none) (nv:= .cg) (tv:= .none) (vv:= .cg) (ns:=[]) (bss:=[]) (gT (bM.lit (as:=[la,ax]) YU gq (.cons (r1.ch c3) [55,tx.ch c3]))) [237,iG.nil e (fr _ hl)] rfl [237,⟨⟨[],e,.nil⟩,fr _ hl⟩] rfl [4] [4] λH5 a5 s5 _ t5=> ?_;have SA:=s5 _ _ hp4;have hs5:=s5 _ _ hs4;have k5:=k4.trans (gP.same s5);have hrl:ra.length=rs.length:=[252];have hlr:rs.length+1<=2000:=by simpa using Ki
    refine[2,pl,_,_,rfl,SA,(by rw[List.length_map,List.length_reverse,hrl];rw[21,rs.length]),?_];have c5:Ch NC G G H' [8,H5,pl,[437],a5]:=[29,c3.trans (Ch.same s4),Ch.same s5,Ch.upd SA gp];exact⟨rs.length,[4],CN.eS sg [lt,x'],rs,_,_,rfl,rfl,k5.trans gP.Uk,⟨a5,ra,ag,by rw[0,aj (Ne.symm gx),hs5],t5.M6 SA gp,[25,hP,z.ch c5]⟩,YB,λp hp=>vh p (by simp[hp]),[2]⟩
   ·have e:[8,[10,[140],[2,[686]]]]:=[652];rw[e];refine[55];have q:=q H' kk;have YB:CN.join st x' [641]=(x',[641]):=by rw[CN.join,if_neg Yx]
    rw[<-hj,YB] at q;exact q ⟨ax,la::ra,hL,hT,tx,.cons r1 hP⟩
end
end
section
variable {H:Hp} {s c:Addr}
theorem mX.k2 {TC:Addr} {H':Hp} {a p:Addr} {t:Vanbka.Tok} {xs ys:[13]}(h:[370])(hp:[37,p])(hs:[5,s,.lst ys])(k:gP p s H H'):[670]:=by
 obtain⟨dx,v,e,q⟩:=h;refine[15,dx,v,[1338]];have tp:∀b bs,[1222]:=λb bs z=>k _ _ z [13,z,hp] [13,z,hs];revert q;cases t.lex with
  |word w=>
   intro q;show[221,[140,[8,b,HO.tup (bV w)]]];have q:[735]:=q;by_cases c:[572]
   ·rw[if_pos c] at q ⊢;exact q
   ·rw[if_neg c] at q ⊢;obtain⟨b,e,q⟩:=q;rw[0,b,e,tp _ _ q]
  |num n=>exact λq=>q
  |quoted s=>rw[95]
  |sign s=>exact λq=>q
theorem fL.k2 {CC TC tl:Addr} {all:[15]} {H H':Hp} {c p s:Addr} {ts:[15]} {xs ys:[13]}(h:[245,H])(hp:[37,p])(hs:[5,s,.lst ys])(n1:tl≠p)(n2:tl≠s)(k:gP p s H H'):[245,H']:=by
 obtain⟨dx,i,e,⟨as,hL,hP⟩,r⟩:=h;exact⟨dx,i,[1338],⟨as,k _ _ hL n1 n2,[98,z.k2 hp hs k]⟩,r⟩
theorem A6 {p:Addr} {H1 H2:Hp}(k:aE c H H1)(k2:gP p s H1 H2)(hp:[5,p])(hs:[5,s]):[445]:=λb o z n=>k2 b o (k b o z n) (aq z hp) (aq z hs)
theorem A2 {lo:Nat}:∀(gI:[362]) (x:CN.T),([1205])->(CN.join lo x gI).2=[]
 | [],x,_=>rfl
 |(l,s)::gI,x,h=>by
  rw[CN.join,if_pos (h (l,s) [4])];exact A2 gI _ λp hp=>h p (by simp[hp])
theorem A3 {st:Nat}:∀(gI:[362]) (x:CN.T),(∀p∈[309].2,p∈gI)/\[309].2.length<=gI.length
 | [],x=>⟨λp h=>h,[8]⟩
 |(l,s)::gI,x=>by
  rw[CN.join];split
  ·obtain⟨h1,h2⟩:=A3 gI (CN.eS s [l,x]);rw[3,λp h=>[357,h1 p h],Nat.le_succ_of_le h2]
  ·exact⟨λp h=>h,[8]⟩
def QB(CC TC C NC l:Addr)(all:[15])(c pl sl fp:Addr)(H:Hp)(E:XK)(part:[753])(lo hi:Nat)(q:[10,CN.T])(m:Nat)(σ:L2.St)(H':Hp):Prop:=∃(fu:Nat) (x:CN.T) (gI:[362]) (r:[15]),[210,gI.length+r.length<=2000/\σ=[1464]/\[81]/\[161]/\xJ NC [314] H' pl sl x gI/\[1205]/\[226,CN.ec part lo hi fu x gI r]]
section
variable {P:Program} {w:World} {K:PySem.W.Frag} {mg:[16]} {base:Heap} {C CC TC NC fI fA fS fT fF fN kj lF:Addr} {gR je de jc jv jw:FuncData} {bm:[6]} {newId aP B:String} {fa:[41]} {fm:[42]} {n k:Nat} {F:jf}
abbrev zD:[19]:=["cursor","weakest","strongest","read_part","parts","signs","sign"]
theorem rC:[4,zD,[1308],I.cX]:=[11]
theorem uT(R:[43])(hk:8<=k) {fp:Addr} {fdp:FuncData} {part:[753]}(GP:[2,k,fp,fdp,[84],ow CC TC C NC part])(kp:[85,K,.ref fp])(bp:Binds K fdp [84] []) (hp:∀ts,[65,part ts]) {lo hi:Nat}(hlo:1<=lo) {bU:Value} {A':Around} {outer:[123]} {s:Shared} {Q:VK} {E:XK}(hr:ij k (A'.deeper (envOfC "read_chain" (ai (top I.cX)) s.heap.objs.size (fa I.cX) bU))) {l:Addr} {all ts:[15]}(hc:[39])(h2:all.length<=2000)(q:[119,[98,part ts,CN.ec part lo hi [90] x [] r],[420]]):∃t,Af [1488] (fc (top I.cX)) t/\[200,L2.start zD [.ref c,[6,lo],[6,hi],.ref fp]]:=by
 obtain⟨GT,GF,GS,GA,GN⟩:=[215,w];have GJ:[1428]:=OR R;have jx:=[23,1];rw[19];rw[22];have j6:=[23,4];have Ku:=[23,5];rw[21];rw[1,[34,[3,4,rC.nd,[61,[1465]]],[3,[3,5,rC.nd,bz af],[3,6,rC.nd,[392]],gd lL (Lz oh oh (pv 1) [485,pv 6] (pv 2)) (ae (aF [119,[16,pv 6]]) (ae (aF [501,[31,kj,R.ms,pv 6]]) (ae (aF [78,pv 5,pv 6]) (ae (aF [78,pv 4,[1465]]) (ah [3,6,rC.nd,[392]]))))),aF [501,pv 1],eW cI (pv 4) aH [157]]],⟨rfl,_,rfl,l,all,c,_,rfl,hc,h2,q.bind λx1 r1 e1 q H1 k1 c1 a1 Gd=>⟨(by rw[2]),λpl bQ=>[179,λsl Qy=> ?_]⟩⟩];have s2:=[178,V.ref a1];have s3:=[80,Qy];have s23:=[403];have K3:=k1.trans (aE.same s23);have c3:=c1.same s23;have Dt:[5,pl]:=aV k1 c1 bQ;have gsl:[5,sl]:=aV [874] [553] Qy;have gx:pl≠sl:=λz=>by
  rw[<-z,ag] at Qy;cases Qy
 have ou:=c1.rP bQ;have hts:=[553].rP Qy;rw[3,[202,c3]];rw[List.drop_zero];have hle:=ng c1;have st0:xJ NC [314] (upd (upd H1 pl (.lst [V.ref a1])) sl [106]) pl sl x1 []:=⟨a1,[],s3 _ _ ag,ag,(((Gd.off bQ).sm s2).off Qy).sm s3|>.weak λb z=>⟨z.1.1,z.1.2,z.2⟩,.nil⟩;rw[6,QB CC TC C NC l all c pl sl fp H E part lo hi _,⟨_,_,x1,[],r1,rfl,[8],by rw[0],rfl,K3,c3,st0,[4],q⟩];rintro m σ H' ⟨fu,x,gI,r,rfl,Yw,hsz,rfl,kc,cc,hS,vg,q⟩;rw[42];unfold CN.ec at q;have fr:∀ {mV:Hp} {r':[15]} {o o':HO},aE c H mV->fL CC TC l all mV c r'->[3,mV pl]->mV sl=some o'->∀b,mV b=none->GY H pl sl b:=λkk cc hp hs b e=>⟨aV kk cc e,jV e hp,jV e hs⟩;refine⟨_,rfl,kj,lW,rfl,R.ks,_,rfl,.inr (kS (hd r)),rfl,[2,lo],[2,[132]],rfl,z0 _,_,rfl,?_⟩;have fin:¬(lo<=[132]/\[132]<=hi)->Cm (F' (Mm (spJ NC) [] E0 (o9 (rL 4) (o9 (rL 5) (o9 (rL 1) Il))))) (Ud (Uc (ZM [1488].K) (rL 4) (tC [211]))) {nx:=λ_ H'=>[199],rt:=Q} [1464] H':=by
  intro hn;rw[10,hn];obtain⟨ax,Vg,hL,hT,_,_⟩:=id hS;refine⟨_,rfl,_,rfl,_,rfl,[314],pl,sl,lo,x,gI,rfl,gx,[529],[521],fr kc cc hL hT,[2],λp hp=>by rw[0,vg p hp],hS,λH4 k4 Sa=> ?_⟩;rw[A2 gI x vg] at Sa;obtain⟨ax4,sas4,AL,hT4,tx4,R5⟩:=Sa;cases R5;rw[4,⟨_,rfl,pl,_,0,V.ref ax4,rfl,rfl,bP.of AL,[203,0],?_⟩,q H4 (A6 kc k4 Dt gsl) (cc.k2 hL hT ou hts k4) ax4 (tx4.weak λb z=>z.1)]
 by_cases h1:lo<=[132]
 ·rw[8,[138,lo,[132]],bY ⟨_,rfl,[2,[132]],[2,hi],z0 _,rfl,_,rfl,?_⟩];by_cases h3:[132]<=hi
  ·rw[[138,[132],hi]];rw[7,⟨h1,h3⟩];refine bY [165,QB CC TC C NC l all c pl sl fp H E part lo hi _ m' cR mV];have SK:[132]≠0:=[2];have MW:hd r≠.fin:=λz=>by
    rw[z] at SK;exact SK rfl
   obtain⟨ax,Vg,hL,hT,tx,hP⟩:=id hS;rw[3,vK cc rfl MW λlx e4 H4 v k4 c4 hv=> ?_];have AL:=cT hL cc k4;have hT4:=cT hT cc k4;have K4:=kc.trans k4;have Sa:xJ NC [314] H4 pl sl x gI:=⟨ax,Vg,AL,hT4,tx.keep cc k4,[25,hP,z.keep cc k4]⟩;have IF:=CN.eE (ts:=r) rfl MW;refine⟨_,rfl,_,rfl,_,rfl,kj,_,rfl,.inl [3,lW,.inr (kS (hd r)),R.ks,(rK SK).symm],[314],pl,sl,[132],x,gI,rfl,gx,[529],[521],fr K4 c4 AL hT4,[2],λp hp=>by rw[0,vg p hp],Sa,λH5 k5 hS5=> ?_⟩;have K5:=A6 K4 k5 Dt gsl;have c5:=c4.k2 AL hT4 ou hts k5;obtain⟨ax5,LN,R3,hT5,tx5,J9⟩:=hS5;obtain⟨js1,js2⟩:=A3 (st:=[132]) gI x;refine⟨_,rfl,[14,hT5],_,rfl,sl,_,_,rfl,rfl,hT5,by rw[List.length_map,List.length_reverse];rw[21,_],?_⟩;generalize hT6':(List.map (λp:CN.T×Kd=>V.str (kS p.2)) (CN.join (CN.strength (hd r)) x gI).2.reverse++[V.str (kS (hd r))])=sg6;have CF:([1022]) pl=some (.lst [33,LN.reverse.map V.ref,ax5]):=by rw[0,aj gx,R3]
   have c6:fL CC TC l all [1022] c [122]:=c5.fO hT5 hts;have K6:aE c H [1022]:=jS K5 gsl;refine⟨_,rfl,[14,CF],rfl,_,rfl,l,all,c,_,rfl,c6,h2,q.bind λy r7 e7 q H7 k7 c7 a7 Ug=> ?_⟩;have w9:=cT CF c6 k7;have hT7:=cT (ag (H:=H5) (a:=sl)) c6 k7;have hr7:r7.length<=[122].length:=hp _ y r7 e7;have hsl5:LN.length=(CN.join [132] x gI).2.length:=[685];refine[2,pl,_,_,rfl,w9,(by rw[List.length_append,List.length_map,List.length_reverse,hsl5];exact[137,(show _<=2000 by rw[0])]),?_];have c8:fL CC TC l all [1409] c r7:=c7.fO w9 ou;rw[3,[202,c8]];rw[List.drop_zero];have wr:∀ {a:Addr} {t:CN.T},[56,[314],H5]->gj NC [314] [1409] a t:=λz=>((z.M6 hT5 [521]).keep c6 k7).M6 w9 [529];refine⟨r7.length,[2],fu,y,_,r7,rfl,[2],by simp only[List.length_cons];omega,rfl,[951],c8,⟨a7,ax5::LN,by rw[ag];simp,?_,(Ug.weak (G':=[314]) λb e=>⟨aV K6 c6 e,jV e CF,jV e ag⟩).M6 w9 [529],.cons (wr tx5) [25,J9,wr z]⟩,?_,q⟩
   ·rw[aj (Ne.symm gx),hT7,<-hT6'];simp
   ·intro p hp;rcases List.mem_cons.mp hp with rfl|hp;rw[2,h1,vg p (js1 p hp)]
  ·rw[0,[195,[10,[2,[132]],[2,hi]]],bg (fin λz=>h3 z.2)]
 ·rw[0,[195,[10,[2,lo],[2,[132]]]],bg [9,bg (fin λz=>h1 z.1)]]
theorem Lg(R:[43])(A:[69])(hk:8<=k)(S:CN.M' F):aC P w K mg base [62] (k+1) (fa I.cX) (fm I.cX) [1308] (spC CC TC C NC (fa I.iM) (fa I.d7) (CN.lV F)):=by
 refine R.chain.F.okN rC Py [57];obtain⟨l,all,c,j,ts,rfl,hc,h2,q⟩:=h;cases j with
  |false=>exact uT R hk A.jd R.jd.F.kp R.jd.b S.jd (lo:=1) (hi:=2) [3] hr hc h2 q
  |true=>exact uT R hk A.signed R.signed.F.kp R.signed.b S.signed (lo:=5) (hi:=7) [3] hr hc h2 q
theorem Mi:∀(n:Nat) (a:CN.T) (r:[15]),(Fn n).stmt []≠[12,a]
 |0,_,_=>[222]
 |n+1,_,_=>λz=>by
  change CN.o5 (Fn n) []=_ at z;have e:CN.o5 (Fn n) []= .bad:=rfl;rw[e] at z;cases z
theorem IV(R:[43])(A:[514,Fn n])(hk:8<=k):All P w K mg base C CC TC NC fa fm (n+1) (k+1) (Fn (n+1)) where
 expr:=OP R A hk
 orr:=ZD R A hk
 chain:=Lg R A hk (CN.shr n)
 jd:=Th R A hk
 compared:=Bz R A hk
 joined:=HJ R A hk
 signed:=HR R A hk
 bH:=D6 R A hk (CN.shr n) (CN.fits n)
 simple:=HS R A hk
 eR:=Ti R A hk
 cp:=HH R A hk (CN.shr n)
 function:=BB R A hk
 dj:=BF R A hk
 listed:=HL R A hk (CN.shr n)
 block:=Le R A hk
 stmts:=Lk R A hk (CN.shr n) (Mi n)
 stmt:=OV R A hk
 di:=Tf R A hk
 telling:=D' R A hk
 iff:=ZC R A hk
 kK:=Ll R A hk
 iT:=Te R A hk
theorem Vx(R:[43]):∀n,All P w K mg base C CC TC NC fa fm n (n+8) (Fn n)
 |0=>all_zero
 |n+1=>IV R (Vx R n) [2]
end
end
end CP
end
section
namespace CP
open PySem PySem.Spec PyProof.Rows L2
open Vanbka (Bytes Lex reserved allowed tokens tooDeepAt)
open CN (Kd kdOf hd tk Res jf Fn wordOf numOf d6 cU)
section
structure Ra(K:PySem.W.Frag)(mg:Str->Option Value)(CC RF:Addr)(Dg:FuncData):Prop where
 mC:mg "Cursor"=some (.ref CC)
 M:Mk K CC RF
 F:ot K "__init__" "Cursor.__init__" (inClass (top I.Cursor) 0) RF Dg
 b:Binds K Dg ["self","tokens"] []
def Z8(CC:Addr):Sp:=λvs H Q _=>∃(x dx l:Addr),[11,[12,x,[40]],CC,CC,pM l 0]
theorem scCI:[25,["self","tokens"],["self","tokens"],I.Cursor]:=[11]
def aae(K:PySem.W.Frag)(NC C:Addr):Sp:=λvs H Q E=>[325,match Vanbka.read bs with
 | .error _=>[118]
 | .ok p=>[1057]]
theorem BQ {bs:Bytes}:(bs.findIdx? λc=> ! allowed c)=none↔[861]=true:=by
 rw[List.findIdx?_eq_none_iff,List.all_eq_true];simp
section
variable {P:Program} {w:World} {K:PySem.W.Frag} {mg:[16]} {base:Heap} {C CC TC NC fI fA fS fT fF fN kj lF RF fD fCu:Addr} {gR je de jc jv jw Dg UG fdCu:FuncData} {bm:[6]} {newId aP B:String} {fa:[41]} {fm:[42]} {n k:Nat} {F:jf}
theorem Zv(Z:[395])(CI:Ra K mg CC RF Dg):[1393]:=by
 refine CI.F.okN scCI [20] [21]
 ·rw[31]
 obtain⟨x,dx,l,rfl,hx,q⟩:=h;rw[10,ae [277] (ah [638]),[2,_,rfl,x,CC,dx,[],rfl,hx,Z.cl,Z.nt,(by rw[2,0]),?_]];rw[4,⟨_,rfl,x,CC,dx,_,rfl,ag,Z.cl,Z.np,(by rw[2,1]),?_⟩,(q _ ag λb o e hb=>by rw[[28],[28]];exact e)]
theorem Po:[4,["text","tokens","cursor","statements"],[95],I.ff]:=[11]
theorem ZE(R:[43])(CI:Ra K mg CC RF Dg)(dRP:[1204])(dC:[106,"cut_tokens",I.kX])(GC:aC P w K mg base [62] 5 (fa I.kX) (fm I.kX) [95] (QU K TC C)) (dD:D K mg fa fm "brackets_too_deep" I.fb ["tokens"])(GD:aC P w K mg base [62] 1 (fa I.fb) (fm I.fb) ["tokens"] (L7 TC)) {tk0:PySem.Tok}(md:mg "MOST_DEPTH"=some (.int 40 tk0))(hlen:∀(bs:Bytes) (ts:[15]),[526]= .ok ts->ts.length<=bs.length):aC P w K mg base [62] 389 (fa I.ff) (fm I.ff) [95] (aae K NC C):=by
 have A:=Vx R 380;have GP:aC P w K mg base fi 1 (fa I.gL) (fm I.gL) ["nodes"] (T2 NC):=QK R.Y.dP.F R.Y.toNodeCls R.Y.mm;have GI:[1393]:=Zv R.Z CI;refine dRP.F.okN Po [20] [57]
 ·rw[32]
 obtain⟨t,bs,rfl,hS,kn,q⟩:=h;have jx:=[23,1];rw[19];have Ku:=[23,5];refine[34,[16,Po.nd,au GC Ku rfl dC.m dC.F.kp dC.b .nil ao [137]],[3,[391,dg (au GD jx rfl dD.m dD.F.kp dD.b .nil ao [45])],[14,Po.nd,gA CI.M GI og rfl CI.mC CI.b .nil ao [45]],[3,3,Po.nd,au A.stmts hr rfl R.statements.m R.statements.F.kp R.statements.b .nil ao (aa (pv 2) [103])],[391,[14,vV,au GP jx rfl R.Y.dP.m R.Y.dP.F.kp R.Y.dP.b .nil a6 [368],[23,40,md]]],pv 3]];unfold Vanbka.read at q;refine⟨_,rfl,t,bs,rfl,hS,kn,[249],[249]⟩
 ·cases e:(bs.findIdx? λc=> !allowed c) with
  |none=>
   rw[BQ.mp e] at hb;cases hb
  |some p=>
   rw[e] at q;exact λ_=>q
 rw[BQ.mpr hb] at q;cases e:tokens bs with
  |error p=>
   rw[e] at q;exact λ_=>q
  |ok ts=>
   rw[e] at q;have q:match(match tooDeepAt 0 ts with
    |some p=>[158,3,p]
    |none=>match Vanbka.program ts with
     | .error left=> .error (4,Vanbka.placeAt ts bs.length left)
     | .ok s=>if 40<s.depth then .error (5,s.depth) else .ok s) with
    | .error _=>[118]
    | .ok p=>[1057]:=q;intro H1 tl s1 ht;have Qz:=hlen bs ts e;refine⟨_,rfl,tl,ts,rfl,ht,λH2 s2=>[146]⟩;cases e3:tooDeepAt 0 ts with
    |some p=>
     rw[e3] at q;exact bY q
    |none=>
     rw[e3] at q;refine[55];have He:=CN.tQ ts e3 380 [3];rw[3,λx dx hx Dz gx=>⟨x,dx,tl,rfl,ag,λH3 hx3 k3=>[124]⟩];have s3:aS H2 H3:=[236,k3];have ht3:mY TC H3 tl ts:=(ht.mono s2).mono s3;have cur3:fL CC TC tl ts H3 x ts:=⟨dx,0,hx3,ht3,[33],rfl⟩;have Vf:aS H H3:=[250].trans s3;have hxH:[5,x]:=by cases z:H x with
      |none=>rfl
      |some o=>
       rw[([250]) _ _ z] at hx;cases hx
     refine⟨_,rfl,tl,ts,x,.fin,ts,rfl,cur3,[2],?_⟩;cases e4:(Fn 380).stmts .fin ts with
      |out=>
       rw[e4] at He;exact He
      |bad=>
       rw[e4] at He;obtain⟨kk,N2⟩:=He;rw[N2] at q;exact λ_=>q
      |ok ps r=>
       rw[e4] at He;obtain⟨_,p,hp,rfl⟩:=He;rw[hp] at q;have hsz:=[496,e4];intro H4 k4 c4 a ta hl;have s4:aS H H4:=λb o z=>k4 b o (Vf b o z) (λy=>by rw[y,hxH] at z;cases z);refine⟨_,rfl,_,a,_,rfl,ta,hl,λH5 s5=>[1067]⟩;have hd:=CN.oG p;have q:match(if 40<p.depth then[158,5,p.depth] else .ok p) with
        | .error _=>[118]
        | .ok p=>[1057]:=q;by_cases h40:40<p.depth
       ·rw[7,h40];rw[0,[48,[1209],[2]],bY q]
       ·rw[10,h40];rw[8,[195,[1209]],bg [9,q H5 a (s4.trans s5) ((ta.ch (Ch.weak λb z=> ?_)).sm s5) [2] [2]]];cases y:H b with
         |none=>exact y
         |some o=>exact absurd (show H3 b=none from z) (by rw[Vf _ _ y];simp)
end
end
end CP
end
section
namespace CP
open PySem PySem.Spec PyProof.Rows L2
open Vanbka (Bytes)
open CN (Kd W Pl Us Vi)
section
variable {K:PySem.W.Frag} {a z NC:Addr} {xs ys:[13]} {g:TG} {tb:TS} {σ:L2.St} {S:[293]} {f:Str} {o:HO}
theorem NF {D:Ends} {H:Hp}(Pv:Nat->[217])(h0:Pv 0 σ H)(hl:[983]) (hs:∀i x σ H,([359])->[2,xs,xs.length -1 -i,x]->([507])->[1300])(hd:[955]):∃W:[162,[217]],(∃m,W 0 m σ H)/\∀i m σ H,([596])->([741].stop i H/\[236])\/([741].go i H/\∃N:[217],[646]/\∀x H',[741].M7 i H x H'->[778]):=by
 rw[6,[974],⟨xs.length,[4],[33],h0⟩];rintro i m σ H ⟨rfl,hi,p⟩;have q:=[1048];by_cases ez:[359]
 ·refine[6,⟨ez,xs,xs[xs.length -1 -i]'[2],q,by rw[List.getElem?_eq_getElem [2]]⟩,Pv (i+1),[905],[676]];obtain⟨e,y⟩:=y;rw[5,hs i x σ _ ez (y xs q) p]
 ·have e:i=xs.length:=[2];rw[5,[31,[8],hd σ H p]]
theorem JG {D:Ends} {H:Hp}(Pv:Nat->[217])(h0:Pv 0 σ H)(hl:[983]) (hs:∀i x σ H T,([206])->([507])->[5,T]->g (.ref T) σ [1297] λlX H2=>tb [105,Pv (i+1),Pv (i+1)] lX H2)(hd:[955]):∃W:[162,[217]],(∃m,W 0 m σ H)/\∀i m σ H,([596])->((Vr K a).stop i H/\[236])\/((Vr K a).go i H/\∃N:[217],[646]/\∀x H',(Vr K a).M7 i H x H'->[778]):=by
 rw[6,[974],⟨xs.length,[4],[33],h0⟩];rintro i m σ H ⟨rfl,hi,p⟩;have q:=[1048];by_cases ez:[359]
 ·refine[6,[783],Pv (i+1),[905],λv H' y=> ?_];obtain⟨T,x,rfl,hT,rfl,y⟩:=y;exact hs i x σ H T (y xs q) p hT
 ·have e:i=xs.length:=[2];rw[5,[31,⟨xs,q,[8]⟩,hd σ H p]]
def S9(f:Str):[293]
 | .ins _ _ fs=>[334]=none
 |_=>True
def Zs:[293]
 | .lst _=>False
 |_=>True
def Keeps(S:[293])(H H':Hp):Prop:=[392,S o]
theorem Keeps.gy {H H':Hp}(s:[35]):[710]:=λb o h _=>s b o h
theorem da {C dx:Addr} {fs:[67]} {v:V} {H:Hp}(h:[5,z,[48,C]])(hf:[334]=some v):Keeps (S9 f) H [47,z]:=λb u hb hS=>by rw[0,aj (λe=>by rw[90];have hS:[334]=none:=hS;rw[hf] at hS;cases hS),hb]
theorem f6 {H:Hp}(h:[37,z]):Keeps Zs H [51,z]:=λb u hb hS=>by rw[0,aj (λe=>by rw[90];exact hS),hb]
def Ib(nd:V)(k:Int)(n:V)(lv hm st us:Int):[67]:=[10,"used",us,[10,"statement",st,[10,"home",hm,[10,"level",lv,aL "name" n [10,"kind",k,[997]]]]]]
def usF(nd:V)(bd os lv:Int)(n:V)(st:Int):[67]:=[10,"statement",st,aL "name" n [10,"level",lv,[10,"of_set",os,[10,"bound",bd,[997]]]]]
def viF(nd:V)(lv st:Int):[67]:=[10,"statement",st,[10,"level",lv,[997]]]
def F7(fp fu pe ue:Int):[67]:=[10,"use_end",ue,[10,"place_end",pe,[10,"first_use",fu,aL "first_place" (.int fp) []]]]
def ui(pl ul fl vl hl:Addr)(met lv st:Int):[67]:=[10,"statement",st,[10,"level",lv,[10,"blocks_met",met,[1429]]]]
def CY(BC:Addr)(H:Hp)(a:Addr)(p:Pl)(u:Nat):Prop:=[44,BC,Ib nd [500] [25] [501] [325] [499] [2,u],[22,[46,p.name]]]
def oy(UC:Addr)(H:Hp)(a:Addr)(u:Us):Prop:=[44,UC,usF nd (Vanbkc.refTold u.bound) [59,u.isSet,1] [2,u.level] [25] [2,u.st],[22,[46,u.name]]]
def uJ(VC NC:Addr)(G:[18])(H:Hp)(a:Addr)(v:Vi):Prop:=∃dx na:Addr,H a=some [9,VC,viF (.ref na) [2,v.level] [2,v.st]]/\gj NC G H na v.node
abbrev hV(l:[30]):[13]:=l.map λ(n:Nat)=>[13,n]
structure Cs where
 WC:Addr
 BC:Addr
 UC:Addr
 VC:Addr
 SC:Addr
 NC:Addr
 TG:Addr->Prop
structure KS(S:HO->Prop):Prop where
 tup:∀xs,S (.tup xs)
 nd:∀C dx k p b n ns v d,S (.ins C dx (kq k p b n ns v d))
 us:∀C dx nd bd os lv n st,S (.ins C dx (usF nd bd os lv n st))
 vi:∀C dx nd lv st,S (.ins C dx (viF nd lv st))
theorem uy:KS (S9 "holding"):=[1024]
theorem uz:KS (S9 "used"):=[1024]
theorem qr:KS (S9 "place_end"):=[1024]
theorem jk:KS Zs:=[42,True.intro,True.intro,True.intro]
theorem oy.ks(s:KS S) {UC:Addr} {H H':Hp}(k:[710]) {u:Us}(h:oy UC H a u):oy UC H' a u:=by
 obtain⟨dx,nd,b,h1,h2⟩:=h;exact⟨dx,nd,b,k _ _ h1 (s.us _ _ _ _ _ _ _ _),k _ _ h2 (s.tup _)⟩
theorem uJ.ks(s:KS S) {VC:Addr} {G:[18]} {H H':Hp}(k:[710])(c:[454]) {v:Vi}(h:uJ VC NC G H a v):uJ VC NC G H' a v:=by
 obtain⟨dx,na,h1,h2⟩:=h;rw[0,dx,na,k _ _ h1 (s.vi _ _ _ _ _),h2.ch c]
theorem Ch.ks(s:KS S) {G:[18]} {H H':Hp}(k:[710])(l:∀b xs,[22,[60]]->G b->[8,b,[60]]):[454]:=[40,[283,l b xs h g],λb xs h=>k _ _ h (s.tup _),k _ _ h (s.nd _ _ _ _ _ _ _ _ _)]
theorem Ch.sub {T G:[18]} {H H':Hp}(h:∀b,T b->G b)(c:[454]):Ch NC T T H H':=⟨λb xs e g=>⟨(c.ls b xs e (h b g)).1,g⟩,c.tp,c.nd⟩
structure lZ(c:Cs)(G:Addr->Prop)(H:Hp)(wa:Addr)(w:W)(lv st:Nat)(dx pl ul fl vl hl:Addr)(cK eK gN fM:List Addr):Prop where
 wk:H wa=some (.ins c.WC dx (ui pl ul fl vl hl (w.met:Int) (lv:Int) (st:Int)))
 p:H pl=some (.lst (cK.map V.ref))
 u:H ul=some (.lst (eK.map V.ref))
 f:H fl=some (.lst (gN.map V.ref))
 v:H vl=some (.lst (fM.map V.ref))
 h:H hl=some (.lst (hV w.holding))
 nd: [pl,ul,fl,vl,hl].Nodup
 g:∀b∈ [pl,ul,fl,vl,hl],¬G b
 pn:cK.Nodup
 uf:cK.length=w.places.length
 pp:∀(i:Nat) (a:Addr) (p:Pl),cK[i]? =some a->w.places[i]? =some p->CY c.BC H a p (CN.dq w i)
 up:Paired (λa u=>oy c.UC H a u) eK w.uses
 vp:Paired (λa v=>uJ c.VC c.NC c.TG H a v) fM w.cE
 Dj:gN.length<=w.cE.length
 ur:CN.inR w.places.length w.uses
 hb:∀k∈w.holding,k<w.places.length
 gf:∀b,H b=none->¬G b
 gk:∀b,c.TG b->G b
def dr(c:Cs)(G:[18])(H:Hp)(wa:Addr)(w:W)(lv st:Nat):Prop:=∃(dx pl ul fl vl hl:Addr) (cK eK gN fM:[14]),[86]
structure Fr(c:Cs)(G:Addr->Prop)(wa:Addr)(H H':Hp):Prop where
 ch:Ch c.NC G G H H'
 sp:∀b dx fp fu pe ue,H b=some (.ins c.SC dx (F7 fp fu pe ue))->H' b=some (.ins c.SC dx (F7 fp fu pe ue))
 th:∀b,H' b=none->H b=none
theorem Fr.trans {c:Cs} {G:[18]} {wa:Addr} {H H1 H2:Hp}(a:[120,H1])(b:Fr c G wa H1 H2):[120,H2]:=⟨a.ch.trans b.ch,λx dx fp fu pe ue h=>b.sp _ _ _ _ _ _ (a.sp _ _ _ _ _ _ h),λx e=>a.th x (b.th x e)⟩
theorem Fr.same {c:Cs} {G:[18]} {wa:Addr} {H H1:Hp}(s:[294]):[120,H1]:=⟨[411],λ_ _ _ _ _ _ h=>s _ _ h,λb e=>by cases z:H b with
 |none=>rfl
 |some o=>rw[22,s _ _ z]⟩
theorem jP {H:Hp} {o':HO}(h:[3,H z]):∀b,(upd H z o') b=none->[75]:=λb e=>by
 by_cases y:b=z
 ·rw[y,ag] at e;cases e
 ·rwa [aj y] at e
theorem Fr.ks {S:[293]}(s:KS S)(hs:∀C dx fp fu pe ue,S [9,C,F7 fp fu pe ue]) {c:Cs} {G:[18]} {wa:Addr} {H H1:Hp}(k:Keeps S H H1)(l:∀b xs,[22,[60]]->G b->H1 b=some [60])(t:∀b,H1 b=none->[75]):[120,H1]:=⟨Ch.ks s k l,λ_ _ _ _ _ _ h=>k _ _ h (hs _ _ _ _ _ _),t⟩
theorem jZ {H H':Hp}(k:Keeps (S9 f) H H'):[1219]:=λb xs h=>[83,h]
section
variable {c:Cs} {G:[18]} {H H':Hp} {wa:Addr} {w:W} {lv st:Nat} {dx pl ul fl vl hl:Addr} {cK eK gN fM:[14]}
theorem lZ.same(d:[86])(s:[35]):[333,H'] where
 wk:=s _ _ d.wk
 p:=s _ _ d.p
 u:=s _ _ d.u
 f:=s _ _ d.f
 v:=s _ _ d.v
 h:=s _ _ d.h
 nd:=d.nd
 g:=d.g
 pn:=d.pn
 uf:=d.uf
 pp:=λi a p e1 e2=>by
  obtain⟨dx,nd,b,h1,h2⟩:=d.pp i a p e1 e2;exact⟨dx,nd,b,s _ _ h1,s _ _ h2⟩
 up:=[1277]
 vp:=[1364]
 Dj:=d.Dj
 ur:=d.ur
 hb:=d.hb
 gf:=λb e=>d.gf b (by cases z:H b with
  |none=>rfl
  |some o=>rw[22,s _ _ z])
 gk:=d.gk
theorem lZ.fields(d:[86]) {hl':Addr} {w':W} {lv' st':Nat}(e1:w'.places=w.places)(e2:w'.uses=w.uses)(e3:w'.cE=w.cE)(hh:[5,hl',.lst (hV w'.holding)]) (hn:[pl,ul,fl,vl,hl'].Nodup)(hg:¬G hl')(hb:∀k∈w'.holding,[299]):lZ c G [1069] wa w' lv' st' dx pl ul fl vl hl' cK eK gN fM:=by
 have k:Keeps (S9 "holding") H [1069]:=da d.wk rfl;have kl:=jZ k;have ch:Ch c.NC c.TG c.TG H [1069]:=Ch.ks uy k [787];exact{
  wk:=ag
  p:=kl _ _ d.p
  u:=kl _ _ d.u
  f:=kl _ _ d.f
  v:=kl _ _ d.v
  h:=kl _ _ hh
  nd:=hn
  g:=λb hb=>by have:=d.g b;simp only[List.mem_cons,List.not_mem_nil,or_false] at hb this;rcases hb with z|z|z|z|z;rw[2,this [150],this (.inr [150])];rw[2,this (.inr (.inr [150])),this [189,[150]]];·rw[z];exact hg
  pn:=d.pn
  uf:=by rw[e1];exact d.uf
  pp:=λi a p h1 h2=>by rw[e1] at h2;obtain⟨dx,nd,b,h3,h4⟩:=d.pp i a p h1 h2;(have eu:CN.dq w' i=[573]:=by unfold CN.dq;rw[e2]);rw[eu];exact⟨dx,nd,b,k _ _ h3 rfl,[83,h4]⟩
  up:=by rw[e2];exact[185,z.ks uy k]
  vp:=by rw[e3];exact[186,z.ks uy k ch]
  Dj:=by rw[e3];exact d.Dj
  ur:=by rw[e1,e2];exact d.ur
  hb:=by rw[e1];exact hb
  gf:=[197,d.wk]
  gk:=d.gk}
theorem kO(d:[86]):[71,[47,wa]]:=Fr.ks uy (λ_ _ _ _ _ _=>rfl) (da d.wk rfl) [132,d.wk,"holding"] (jP d.wk)
theorem jR(h:[37,z])(hg:¬G z):[71,[51,z]]:=Fr.ks jk (λ_ _ _ _ _ _=>True.intro) (f6 h) (λb us hb g=>by rw[0,aj (λe:b=z=>hg (by rw[<-e];exact g)),hb]) (jP h)
theorem lZ.E3(d:[86])(h:[37,z])(hg:¬G z):Ch c.NC G G H [51,z]:=(jR (c:=c) (wa:=wa) h hg).ch
end
end
section
variable {z:Addr}
section
variable {c:Cs} {G:[18]} {H H':Hp} {wa:Addr} {w:W} {lv st:Nat} {dx pl ul fl vl hl:Addr} {cK eK gN fM:[14]}
theorem lZ.ne(d:[86]):(pl≠ul/\pl≠fl/\pl≠vl/\pl≠hl)/\(ul≠fl/\ul≠vl/\ul≠hl)/\(fl≠vl/\fl≠hl)/\vl≠hl:=by
 have nd:=d.nd;simp only[List.nodup_cons,List.mem_cons,List.not_mem_nil,or_false,not_or,List.nodup_nil,and_true,not_false_eq_true] at nd;obtain⟨⟨a,b,c',d'⟩,⟨e,f,g⟩,⟨h,i⟩,j⟩:=nd;rw[0,⟨a,b,c',d'⟩,⟨e,f,g⟩,⟨h,i⟩,j]
structure Wr(c:Cs)(G:Addr->Prop)(H H':Hp)(wa:Addr)(w:W)(lv st:Nat)(dx pl ul fl vl hl:Addr)(cK eK fM:List Addr)(z:Addr):Prop where
 wk:H' wa=some (.ins c.WC dx (ui pl ul fl vl hl (w.met:Int) (lv:Int) (st:Int)))
 pp:∀(i:Nat) (a:Addr) (p:Pl),cK[i]? =some a->w.places[i]? =some p->CY c.BC H' a p (CN.dq w i)
 up:Paired (λa u=>oy c.UC H' a u) eK w.uses
 vp:Paired (λa v=>uJ c.VC c.NC c.TG H' a v) fM w.cE
 gf:∀b,H' b=none->¬G b
 ls:∀b us,b≠z->H b=some (.lst us)->H' b=some (.lst us)
theorem lZ.wr(d:[86]) {xs ys:[13]}(hz:[37,z])(hg:¬G z):Wr c G H [51,z] wa w lv st dx pl ul fl vl hl cK eK fM z:=by
 have k:=f6 (ys:=ys) hz;exact⟨[83,d.wk],λi a p e1 e2=>by obtain⟨dx,nd,b,h1,h2⟩:=d.pp i a p e1 e2;exact⟨dx,nd,b,[83,h1],[83,h2]⟩,[185,z.ks jk k],[186,z.ks jk k (Ch.sub d.gk (d.E3 hz hg))],[197,hz],λb us hb h=>by rw[0,[28],h]⟩
theorem lZ.gz(d:[86]):¬G pl/\¬G ul/\¬G fl/\¬G vl/\¬G hl:=⟨[620],[620],[620],[620],[620]⟩
theorem lZ.lG(d:[86]) {a:Addr} {v:Vi}(hv:uJ c.VC c.NC c.TG H a v):lZ c G [8,H,vl,[438],a] wa (w.lG v) lv st dx pl ul fl vl hl cK eK gN (fM++[a]):=by
 rw[1,[33,[438],a],d.v,d.gz.2.2.2.1];exact⟨r.wk,r.ls _ _ n3 d.p,r.ls _ _ n6 d.u,r.ls _ _ n8 d.f,by rw[4],[62,S8,d.h],d.nd,d.g,d.pn,d.uf,r.pp,r.up,bB (G:=λb v=>uJ c.VC c.NC c.TG [8,H,vl,[438],a] b v) (hv.ks jk (f6 d.v) (Ch.sub d.gk (d.E3 d.v d.gz.2.2.2.1))) r.vp,by show _<=[42,w.cE,v];have:=d.Dj;rw[0],d.ur,d.hb,r.gf,d.gk⟩
theorem Cw {w:W}(h:CN.inR w.places.length w.uses) {i:Nat}(hi:w.places.length<=i):[573]=0:=by
 unfold CN.dq;rw[List.length_eq_zero_iff,List.filter_eq_nil_iff];intro u hu hb;rw[0,h u hu i [96]]
theorem lZ.put(d:[86]) {a:Addr} {p:Pl}(hp:CY c.BC H a p 0)(hn:a∉cK):lZ c G [8,H,pl,[336],a] wa (w.put p) lv st dx pl ul fl vl hl (cK++[a]) eK gN fM:=by
 rw[1,[33,[336],a],d.p,d.gz.1];refine⟨r.wk,by rw[4],[62,n1,d.u],[62,n2,d.f],[62,n3,d.v],[62,n4,d.h],d.nd,d.g,?_,by show _=[42,w.places,p];simp[d.uf],?_,r.up,r.vp,d.Dj,?_,λk hk=>by have:=d.hb k hk;show k<[42,w.places,p];rw[0],r.gf,d.gk⟩
 ·rw[List.nodup_append];rw[0,d.pn,[4],(λx hx y hy=>by rw[List.mem_singleton.mp hy];intro z;exact hn (z▸hx))]
 ·intro i b q e1 e2;have e2:(w.places++[p])[i]? =some q:=e2;have eu:CN.dq (w.put p) i=[573]:=rfl;rw[eu];by_cases hi:i<cK.length
  ·rw[List.getElem?_append_left hi] at e1;rw[List.getElem?_append_left (by rw[<-d.uf];exact hi)] at e2;exact r.pp i b q e1 e2
  ·have mK:i=cK.length:=by
    have:=[25,e1];simp at this;omega
   subst mK;rw[[871]] at e1;rw[d.uf,[871]] at e2;rw[37];rw[d.uf,Cw d.ur [8]];obtain⟨dx,nd,b',h1,h2⟩:=hp;exact⟨dx,nd,b',[108,d.p,h1],[108,d.p,h2]⟩
 ·intro u hu k hk;have:=d.ur u hu k hk;show k<[42,w.places,p];rw[0]
theorem lZ.hold(d:[86])(l:[30])(hl':∀k∈l,[299]):lZ c G [8,H,hl,[280]++hV l] wa (w.hold l) lv st dx pl ul fl vl hl cK eK gN fM:=by
 rw[1,[280]++hV l,d.h,d.gz.2.2.2.2];exact⟨r.wk,r.ls _ _ n4 d.p,r.ls _ _ n7 d.u,r.ls _ _ n9 d.f,r.ls _ _ S8 d.v,by rw[ag];show _=some (HO.lst (hV (w.holding++l)));rw[[11,hV (w.holding++l),[280]++hV l,List.map_append]],d.nd,d.g,d.pn,d.uf,r.pp,r.up,r.vp,d.Dj,d.ur,λk hk=>(List.mem_append.mp hk).elim (d.hb k) (hl' k),r.gf,d.gk⟩
theorem lZ.fn(d:[86])(a:Addr)(IF:gN.length+1<=w.cE.length):lZ c G [8,H,fl,[555],a] wa w lv st dx pl ul fl vl hl cK eK (gN++[a]) fM:=by
 rw[1,[33,[555],a],d.f,d.gz.2.2.1];exact⟨r.wk,r.ls _ _ n2 d.p,r.ls _ _ n5 d.u,by rw[4],[62,n8,d.v],[62,n9,d.h],d.nd,d.g,d.pn,d.uf,r.pp,r.up,r.vp,by rw[0],d.ur,d.hb,r.gf,d.gk⟩
theorem lZ.span(d:[86]) {C B3:Addr} {fs:[67]} {v:V} {o:HO}(hz:[5,z,.ins C B3 fs])(hf:[138,"place_end"]=some v):lZ c G [47,z] wa w lv st dx pl ul fl vl hl cK eK gN fM:=by
 have k:=da (o:=o) hz hf;have kl:=jZ k;exact⟨k _ _ d.wk rfl,kl _ _ d.p,kl _ _ d.u,kl _ _ d.f,kl _ _ d.v,kl _ _ d.h,d.nd,d.g,d.pn,d.uf,λi a p e1 e2=>by obtain⟨dx,nd,b,h1,h2⟩:=d.pp i a p e1 e2;exact⟨dx,nd,b,k _ _ h1 rfl,[83,h2]⟩,[185,z.ks qr k],[186,z.ks qr k (Ch.ks qr k [787])],d.Dj,d.ur,d.hb,[197,hz],d.gk⟩
theorem lZ.use0(d:[86]) {a:Addr} {u:Us}(hu:oy c.UC H a u)(hb:u.bound=none):[1490]:=by
 rw[1,[33,[398],a],d.u,d.gz.2.1];refine⟨r.wk,r.ls _ _ n1 d.p,by rw[4],[62,n5,d.f],[62,n6,d.v],[62,n7,d.h],d.nd,d.g,d.pn,d.uf,?_,bB (G:=λb v=>oy c.UC [534] b v) (hu.ks jk (f6 d.u)) r.up,r.vp,d.Dj,?_,d.hb,r.gf,d.gk⟩
 ·intro i b p e1 e2;have eu:CN.dq (w.use u) i=[573]:=by
   show((w.uses++[u]).filter _).length=_;rw[List.filter_append];have:([u].filter [988])=[]:=by simp[hb]
   rw[this,List.append_nil];rfl
  rw[eu];exact r.pp i b p e1 e2
 ·intro x hx k hk;rcases List.mem_append.mp hx with z|z
  ·exact d.ur x z k hk
  ·rw[[891],hb] at hk;cases hk
end
end
section
section
variable {c:Cs} {G:[18]} {H H':Hp} {wa:Addr} {w:W} {lv st:Nat} {dx pl ul fl vl hl:Addr} {cK eK gN fM:[14]}
structure Uy(c:Cs)(G:Addr->Prop)(H:Hp)(wa:Addr)(w:W)(k:Nat)(lv st:Nat)(dx pl ul fl vl hl:Addr)(cK eK gN fM:List Addr):Prop where
 wk:H wa=some (.ins c.WC dx (ui pl ul fl vl hl (w.met:Int) (lv:Int) (st:Int)))
 p:H pl=some (.lst (cK.map V.ref))
 u:H ul=some (.lst (eK.map V.ref))
 f:H fl=some (.lst (gN.map V.ref))
 v:H vl=some (.lst (fM.map V.ref))
 h:H hl=some (.lst (hV w.holding))
 pp:∀(i:Nat) (a:Addr) (p:Pl),cK[i]? =some a->w.places[i]? =some p->CY c.BC H a p (CN.dq w i+if i=k then 1 else 0)
 up:Paired (λa u=>oy c.UC H a u) eK w.uses
 vp:Paired (λa v=>uJ c.VC c.NC c.TG H a v) fM w.cE
 gf:∀b,H b=none->¬G b
theorem Uy.same {k:Nat}(d:[423,H])(s:[35]):[423,H']:=⟨s _ _ d.wk,s _ _ d.p,s _ _ d.u,s _ _ d.f,s _ _ d.v,s _ _ d.h,λi a p e1 e2=>by obtain⟨dx,nd,b,h1,h2⟩:=d.pp i a p e1 e2;exact⟨dx,nd,b,s _ _ h1,s _ _ h2⟩,[1277],[1364],λb e=>d.gf b ((Fr.same (c:=c) (G:=G) (wa:=wa) s).th b e)⟩
theorem lZ.bump(d:[86]) {k:Nat} {ak:Addr} {p:Pl}(e1:[2,cK,k,ak])(e2:[2,w.places,k,p]) {VD b:Addr} {nd:V}(hp:[5,ak,.ins c.BC VD (Ib nd [500] [25] [501] [325] [499] [498])])(hb:[22,[46,p.name]]):Uy c G [1010] wa w k lv st dx pl ul fl vl hl cK eK gN fM/\[71,[1010]]:=by
 have kk:Keeps (S9 "used") H [1010]:=da hp rfl;have kl:=jZ kk;rw[7,⟨kk _ _ d.wk rfl,kl _ _ d.p,kl _ _ d.u,kl _ _ d.f,kl _ _ d.v,kl _ _ d.h,?_,[185,z.ks uz kk],[186,z.ks uz kk (Ch.ks uz kk [787])],[197,hp]⟩,Fr.ks uz (λ_ _ _ _ _ _=>rfl) kk [787] (jP hp)];intro i a q h1 h2;by_cases hi:i=k
 ·subst hi;rw[e1] at h1;cases h1;rw[e2] at h2;cases h2;refine⟨VD,nd,b,?_,[242,hb]⟩;rw[ag,[381]];rfl
 ·rw[if_neg hi,Nat.add_zero];obtain⟨Jp,nd',b',h3,h4⟩:=d.pp i a q h1 h2;have gx:a≠ak:=λz=>hi (by subst z;exact Zm d.pn h1 e1);exact⟨Jp,nd',b',by rw[0,aj gx,h3],[242,h4]⟩
theorem Uy.use1 {k:Nat}(d:[423,H])(d0:[333,H']) {a:Addr} {u:Us}(hu:oy c.UC H a u)(hb:u.bound=some k)(hk:[299]):[1490]:=by
 have kk:=f6 (ys:=[33,[398],a]) d.u;have ls:∀b us,b≠ul->[22,.lst us]->([534]) b=some (.lst us):=λb us hb h=>by rw[0,[28],h]
 have ch:Ch c.NC c.TG c.TG H [534]:=Ch.sub d0.gk (jR (c:=c) (wa:=wa) d.u d0.gz.2.1).ch;obtain⟨⟨n1,n2,n3,n4⟩,⟨n5,n6,n7⟩,⟨n8,n9⟩,S8⟩:=d0.ne;refine⟨[242,d.wk],ls _ _ n1 d.p,by rw[4],ls _ _ (Ne.symm n5) d.f,ls _ _ (Ne.symm n6) d.v,ls _ _ (Ne.symm n7) d.h,d0.nd,d0.g,d0.pn,d0.uf,?_,bB (G:=λb v=>oy c.UC [534] b v) (hu.ks jk kk) [185,z.ks jk kk],[186,z.ks jk kk ch],d0.Dj,?_,d0.hb,[197,d.u],d0.gk⟩
 ·intro i b p e1 e2;have eu:CN.dq (w.use u) i=[573]+[4,i,k,1,0]:=by
   show((w.uses++[u]).filter _).length=_;rw[List.filter_append,List.length_append];have:[6,[u].filter [988],[4,i,k,1,0]]:=by
    rw[List.filter_cons,hb];by_cases hi:i=k
    ·subst hi;simp
    ·rw[if_neg [127,λz=>hi z.symm],if_neg hi];rfl
   rw[this];rfl
  rw[eu];obtain⟨Jp,nd',b',h3,h4⟩:=d.pp i b p e1 e2;exact⟨Jp,nd',b',[242,h3],[242,h4]⟩
 ·intro x hx j hj;rcases List.mem_append.mp hx with z|z
  ·exact d0.ur x z j hj
  ·rw[[891],hb] at hj;cases hj;exact hk
end
end
section
def nD(bs:Bytes):List PyData:=bs.map λx=>PyData.int [2,x.toNat]
theorem E9 {K:PySem.W.Frag} {H:Hp}:∀bs:Bytes,uG K H (bV bs) (nD bs)
 | []=> .nil
 |c::r=> .cons (.int _) (E9 r)
theorem Jn {K:PySem.W.Frag} {H:Hp} {b:Addr} {bs:Bytes}(h:[22,[46,bs]]):Dp K H [25] [713]:= .tup (kT.of h) (E9 bs)
theorem Bc:∀bs:Bytes,PyData.canLayAll0 (nD bs)=true/\PyData.depthAll (nD bs)<=1
 | []=>[18,(by show PyData.depthAll []<=1;unfold PyData.depthAll;omega)]
 |c::r=>by
  obtain⟨h1,h2⟩:=Bc r;refine[30,?_]
  ·show PyData.canLayAll0 (PyData.int _::nD r)=true;unfold PyData.canLayAll0;rw[h1];rfl
  ·show PyData.depthAll (PyData.int _::nD r)<=1;unfold PyData.depthAll;have:PyData.depth (PyData.int [141])<=1:=by
    unfold PyData.depth;omega
   omega
theorem tS(bs:Bytes):SeqAt.shaped [713]=true:=by
 obtain⟨h1,h2⟩:=Bc bs;unfold SeqAt.shaped;rw[Bool.and_eq_true];refine⟨?_,decide_eq_true ?_⟩
 ·show PyData.canLay0 [713]=true;unfold PyData.canLay0;exact h1
 ·show PyData.depth [713]<=64;unfold PyData.depth;omega
theorem AF:∀a b:Bytes,PyData.eqvAll (nD a) (nD b)=(a==b)
 | [],[]=>by
  show PyData.eqvAll [] []=_;unfold PyData.eqvAll;rfl
 | [],c::r=>by
  show PyData.eqvAll [] (PyData.int _::nD r)=_;unfold PyData.eqvAll;rfl
 |c::r,[]=>by
  show PyData.eqvAll (PyData.int _::nD r) []=_;unfold PyData.eqvAll;rfl
 |c::r,c'::r'=>by
  show PyData.eqvAll (PyData.int [141]::nD r) (PyData.int [2,c'.toNat]::nD r')=_;unfold PyData.eqvAll;rw[AF r r'];have e:PyData.eqv [6,c.toNat] [6,c'.toNat]=(c==c'):=by
   unfold PyData.eqv;rw[Bool.eq_iff_iff,beq_iff_eq,beq_iff_eq];rw[3,λz=>[439],[703]]
  rw[e];rfl
theorem NB(a b:Bytes):PyData.eqv (.tuple (nD a)) (.tuple (nD b))=(a==b):=by
 unfold PyData.eqv;exact AF a b
structure IL(K:PySem.W.Frag)(mg:Str->Option Value)(x qual:Str)(i:Nat)(C f:Addr)(fd:FuncData)(ps fs:List Str):Prop where
 cl:CQ K C
 na:∀y∈fs,eB K C y
 mC:mg x=some (.ref C)
 M:Mk K C f
 F:ot K "__init__" qual (inClass (top i) 0) f fd
 b:Binds K fd ps []
abbrev ZI:[19]:=["self","node","kind","name","level","home","statement"]
abbrev fsB:[19]:=["node","kind","name","level","home","statement","used"]
abbrev ZK:[19]:=["self","node","bound","of_set","level","statement"]
abbrev fsU:[19]:=["node","bound","of_set","level","name","statement"]
abbrev ZL:[19]:=["self","node","level","statement"]
abbrev fsV:[19]:=["node","level","statement"]
abbrev ZJ:[19]:=["self","first_place","first_use"]
abbrev fsS:[19]:=["first_place","first_use","place_end","use_end"]
abbrev fsW:[19]:=["places","uses","functions","visits","holding","blocks_met","level","statement"]
structure Wd(P:Program)(w:World)(K:PySem.W.Frag)(mg:Str->Option Value)(c:Cs)(fB fU fV fS fW j7:Addr)(ja kM kN de jy:FuncData)(fa:Nat->Addr)(fm:Nat->FuncData):Prop where
 B:IL K mg "BindingPlace" "BindingPlace.__init__" I.mM c.BC fB ja ZI fsB
 U:IL K mg "Use" "Use.__init__" I.Use c.UC fU kM ZK fsU
 V:IL K mg "Visit" "Visit.__init__" I.IQ c.VC fV kN ZL fsV
 S:IL K mg "FunctionSpan" "FunctionSpan.__init__" I.mU c.SC fS de ZJ fsS
 W:IL K mg "Walk" "Walk.__init__" I.Walk c.WC fW jy ["self"] fsW
 N:NodeCls K c.NC
 ml:mg "len"=none
 S7:mg "reversed"=none
 men:mg "enumerate"=none
 Bj:∃t,mg "FREE"=some (.int (-1) t)
 S4:∃t,mg "FOR"=some (.int 3 t)
 Ow:∃t,mg "OWN_NAME"=some (.int 4 t)
 Ox:∃t,mg "PARAMETER"=some (.int 5 t)
 Ov:∃t,mg "OUTERMOST_BLOCK"=some (.int 0 t)
 mMk:mg "MAKING"=some (.ref j7)
 kMk:kR P w K j7 [(.inr "let",.int 0),(.inr "slider",.int 1),(.inr "choice",.int 2)]
 node:D K mg fa fm "walk_node" I.gi ["walk","node","home"]
 making:D K mg fa fm "walk_making" I.ig ["walk","node","home"]
 iT:D K mg fa fm "walk_for" I.lE ["walk","node","home"]
 function:D K mg fa fm "walk_function" I.fH ["walk","node"]
 other:D K mg fa fm "walk_other" I.i4 ["walk","node","home"]
 parts:D K mg fa fm "walk_parts" I.eN ["walk","node","home"]
 block:D K mg fa fm "walk_block" I.eM ["walk","statements","block","numbers"]
 t8:D K mg fa fm "new_block" I.f9 ["walk"]
 qd:D K mg fa fm "add_place" I.fR ["walk","node","kind","name","home"]
 Gn:D K mg fa fm "add_use" I.mZ ["walk","node"]
 near:D K mg fa fm "nearest" I.bK ["walk","name"]
section
variable {P:Program} {w:World} {K:PySem.W.Frag} {mg:[16]} {base:Heap} {c:Cs} {fB fU fV fS fW j7:Addr} {ja kM kN de jy:FuncData} {fa:[41]} {fm:[42]}
def Z6(BC:Addr):Sp:=λvs H Q _=>∃(x dx:Addr) (nd nv:V) (k lv hm st:Int),[11,[[54],nd,.int k,nv,.int lv,.int hm,.int st],BC,BC,Ib nd k nv lv hm st 0]
theorem scBI:[25,ZI,ZI,I.mM]:=[11]
theorem Zu(R:[49]):[1381]:=by
 refine R.B.F.ok scBI [20] [21]
 ·rw[49]
 obtain⟨x,dx,nd,nv,k,lv,hm,st,rfl,hx,q⟩:=h;rw[1,[57,ae [277] (ae [408] (ae [444] (ae [566] (ae [56,pv 5] (ae [56,pv 6] (ah [638]))))))],[2,_,rfl,x,_,dx,[],rfl,hx,R.B.cl,[82],(by rw[2,0]),?_],[2,_,rfl,x,_,dx,_,rfl,ag,R.B.cl,[82],(by rw[2,1]),?_],[2,_,rfl,x,_,dx,_,rfl,ag,R.B.cl,[82],(by rw[2,2]),?_]];rw[1,[2,_,rfl,x,_,dx,_,rfl,ag,R.B.cl,[82],(by rw[2,3]),?_],[2,_,rfl,x,_,dx,_,rfl,ag,R.B.cl,[82],(by rw[2,4]),?_],[2,_,rfl,x,_,dx,_,rfl,ag,R.B.cl,[82],(by rw[2,5]),?_],⟨_,rfl,x,_,dx,_,rfl,ag,R.B.cl,[82],(by rw[2,6]),?_⟩];exact q _ ag λb o e hb=>by
  rw[[28],[28],[28],[28],[28],[28],[28]];exact e
def aaj(VC:Addr):Sp:=λvs H Q _=>∃(x dx:Addr) (nd:V) (lv st:Int),[11,[[54],nd,.int lv,.int st],VC,VC,viF nd lv st]
theorem scVI:[25,ZL,ZL,I.IQ]:=[11]
theorem Zz(R:[49]):[1380]:=by
 refine R.V.F.ok scVI [20] [21]
 ·rw[14]
 obtain⟨x,dx,nd,lv,st,rfl,hx,q⟩:=h;rw[1,[57,ae [277] (ae [408] (ah [444]))],[2,_,rfl,x,_,dx,[],rfl,hx,R.V.cl,[482],(by rw[2,0]),?_],[2,_,rfl,x,_,dx,_,rfl,ag,R.V.cl,[482],(by rw[2,1]),?_],[2,_,rfl,x,_,dx,_,rfl,ag,R.V.cl,[482],(by rw[2,2]),?_]];exact q _ ag λb o e hb=>by
  rw[[28],[28],[28]];exact e
def aag(SC:Addr):Sp:=λvs H Q _=>∃(x dx:Addr) (p u:Int),[11,[[54],.int p,.int u],SC,SC,F7 p u p u]
theorem scSI:[25,ZJ,ZJ,I.mU]:=[11]
theorem Zx(R:[49]):[1378]:=by
 refine R.S.F.ok scSI [20] [21]
 ·rw[15]
 obtain⟨x,dx,p,u,rfl,hx,q⟩:=h;rw[1,[143,[277],[408]],[2,_,rfl,x,_,dx,[],rfl,hx,R.S.cl,[310],(by rw[2,0]),?_],[2,_,rfl,x,_,dx,_,rfl,ag,R.S.cl,[310],(by rw[2,1]),?_],[2,_,rfl,x,_,dx,_,rfl,ag,R.S.cl,[310],(by rw[2,2]),?_]];rw[4,[2,_,rfl,x,_,dx,_,rfl,ag,R.S.cl,[310],(by rw[2,3]),?_],(q _ ag λb o e hb=>by rw[[28],[28],[28],[28]];exact e)]
def aah(UC NC:Addr):Sp:=λvs H Q _=>∃(x dx na oW:Addr) (bd os lv st:Int) (k:Str) (p b n ns v:V) (d:Int),vs=[[54],.ref na,.int bd,.int os,.int lv,.int st]/\H x=some [104,UC]/\H na=some (.ins NC oW [270])/\∀H':Hp,[8,x,[9,UC,usF (.ref na) bd os lv n st]]->([402])->[199]
theorem scUI:[25,ZK,ZK,I.Use]:=[11]
theorem Zy(R:[49]):[1379]:=by
 refine R.U.F.ok scUI [20] [21]
 ·obtain⟨_,_,_,_,_,_,_,_,_,_,_,_,_,_,_,rfl,_⟩:=h;rfl
 obtain⟨x,dx,na,oW,bd,os,lv,st,k,p,b,n,ns,v,d,rfl,hx,hn,q⟩:=h;have gx:na≠x:=dw hn hx λz=>by
  injection z with _ _ z;exact Bt rfl z.symm
 rw[1,[34,[277],ae [408] (ae [444] (ae [566] (ae [56,[77]] (ah [56,pv 5]))))],[2,_,rfl,x,_,dx,[],rfl,hx,R.U.cl,[197],(by rw[2,0]),?_],[2,_,rfl,x,_,dx,_,rfl,ag,R.U.cl,[197],(by rw[2,1]),?_],[2,_,rfl,x,_,dx,_,rfl,ag,R.U.cl,[197],(by rw[2,2]),?_]];rw[1,[2,_,rfl,x,_,dx,_,rfl,ag,R.U.cl,[197],(by rw[2,3]),?_],⟨_,rfl,na,_,oW,_,n,rfl,by rw[aj gx,aj gx,aj gx,aj gx];exact hn,R.N.cl,R.N.n4,[421],_,rfl,x,_,dx,_,rfl,ag,R.U.cl,[197],(by rw[2,4]),?_⟩];rw[4,[2,_,rfl,x,_,dx,_,rfl,ag,R.U.cl,[197],(by rw[2,5]),?_],(q _ ag λb o e hb=>by rw[[28],[28],[28],[28],[28],[28]];exact e)]
end
end
section
theorem iF {n:Nat}(h:n<=9000):n<sizeLine:=Nat.lt_of_le_of_lt h [3]
section
variable {P:Program} {w:World} {K:PySem.W.Frag} {mg:[16]} {base:Heap} {c:Cs} {fB fU fV fS fW j7:Addr} {ja kM kN de jy:FuncData} {fa:[41]} {fm:[42]}
def PH(c:Cs):Sp:=λvs H Q _=>∃(G:[18]) (wa:Addr) (w:W) (lv st:Nat),vs=[[163]]/\[182]/\∀H',([201])->dr c G H' wa w.block lv st->Q [6,w.met] H'
theorem scNB:[4,["walk"],["walk"],I.f9]:=[11]
theorem zI(R:[49]):[791]:=by
 refine R.t8.F.ok scNB [20] [21]
 ·rw[14]
 obtain⟨G,wa,w,lv,st,rfl,⟨dx,pl,ul,fl,vl,hl,cK,eK,gN,fM,d⟩,q⟩:=h;rw[1,[34,[739],[17,jo sJ [37] aH]],⟨_,rfl,wa,_,dx,_,_,rfl,d.wk,R.W.cl,[22],rfl,_,_,rfl,rfl,dx,_,d.wk,(by rw[2,8]),?_⟩];have d':=d.fields (w':=w.block) (lv':=lv) (st':=st) rfl rfl rfl d.h d.nd d.gz.2.2.2.2 d.hb;refine⟨_,rfl,wa,_,dx,_,_,rfl,ag,R.W.cl,[22],rfl,_,_,rfl,rfl,?_⟩;have e:([2,w.met]+1 -1)=[2,w.met]:=[2];have q':=q _ (kO d) [287,d'];rw[<-e] at q';exact q'
def Px(c:Cs):Sp:=λvs H Q _=>∃(G:[18]) (wa b:Addr) (nd:V) (k:Vanbkc.Kind) (x:Bytes) (home:Nat) (w:W) (lv st:Nat),vs=[[163],nd,[6,k.number],[25],[6,home]]/\[182]/\[5,H b,[46,x],w.places.length<=9000,∀H',([201])->[175,[105,k]]->Q [6,w.places.length] H']
theorem scAP:[4,[814],[814],I.fR]:=[11]
theorem zG(R:[49]):[792]:=by
 have GB:[1381]:=Zu R;refine R.qd.F.ok scAP [20] [21]
 ·rw[113]
 obtain⟨G,wa,b,nd,k,x,home,w,lv,st,rfl,⟨dx,pl,ul,fl,vl,hl,cK,eK,gN,fM,d⟩,hb,hlen,q⟩:=h;rw[1,[34,aF [78,[37],gA R.B.M GB hr rfl R.B.mC R.B.b .nil a6 (aa (pv 1) (aa (pv 2) (aa (pv 3) [13,[37],pv 4,[37]])))],[17,jo sJ [372] aH]],⟨_,rfl,wa,_,dx,_,_,rfl,d.wk,R.W.cl,[22],rfl,[14,d.p],_,rfl,_,rfl,_,rfl,_,rfl,wa,_,dx,_,_,rfl,d.wk,R.W.cl,[22],rfl,_,rfl,_,rfl,wa,_,dx,_,_,rfl,d.wk,R.W.cl,[22],rfl,λa adx ha hadx gx=> ?_⟩];refine⟨a,adx,nd,[25],[721],[179],[2,home],[140],rfl,ag,λH2 ha2 k2=>[124]⟩;have s2:[216]:=aS.made ha hadx k2;have d2:=d.same s2;have hn:a∉cK:=λz=>by
  obtain⟨i,hi,e⟩:=List.mem_iff_getElem.mp z;have mK:i<w.places.length:=by
   rw[<-d.uf];exact hi
  obtain⟨_,_,_,h1,_⟩:=d.pp i a _ (by rw[[601],e]) (List.getElem?_eq_getElem mK);rw[ha] at h1;cases h1
 have d3:=d2.put (a:=a) (p:=[103,k]) ⟨adx,nd,b,ha2,[15,hb]⟩ hn;rw[1,[2,pl,_,_,rfl,d2.p,(by rw[List.length_map,d.uf];exact iF hlen),?_],⟨_,rfl,wa,_,dx,_,_,rfl,d3.wk,R.W.cl,[22],rfl,pl,_,rfl,[67,d3.p],_,_,rfl,rfl,?_⟩];have e:[78,(cK++[a]).map V.ref] -1=[2,w.places.length]:=by
  rw[List.length_map,List.length_append,d.uf];simp
 have q':=q _ ((Fr.same s2).trans (jR d2.p d2.gz.1)) ⟨dx,pl,ul,fl,vl,hl,_,eK,gN,fM,d3⟩;rw[<-e] at q';exact q'
def aac(c:Cs):Sp:=λvs H Q _=>∃(G:[18]) (wa b:Addr) (x:Bytes) (w:W) (lv st:Nat),vs=[12,wa,[25]]/\[182]/\H b=some [46,x]/\Q (.int (Vanbkc.refTold [149,x])) H
theorem ZZ:[4,["walk","name","number"],["walk","name"],I.bK]:=[11]
theorem OS(R:[49]):[1396]:=by
 refine R.near.F.ok ZZ [20] [21]
 ·rw[91]
 obtain⟨G,wa,b,x,w,lv,st,rfl,⟨dx,pl,ul,fl,vl,hl,cK,eK,gN,fM,d⟩,hb,q⟩:=h;obtain⟨tF,mF⟩:=R.Bj;rw[1,[34,j9 PassesOwn.never rfl (BL rfl R.S7 [324]) [91,2,ZZ.nd] (ah [19,aK (Tn hr.units) [375,pv 2] (pv 1) (aZ _),pv 2]),[17,[292,mF]]],⟨_,rfl,wa,_,dx,_,_,rfl,d.wk,R.W.cl,[22],rfl,hl,_,rfl,bP.of d.h,NF (K:=K) (a:=hl) (xs:=[280]) (λi σ H'=>H'=H/\[133,[[4,wa],[4,b],v]]/\[149,x]=[1127].find? (CN.isNm w.places x)) [76,[41,none],rfl] (λi σ H' _ z=>by rw[0,z.1,bP.of d.h]) ?_ ?_⟩]
 ·rintro i y σ H' hi hy ⟨rfl,⟨v,rfl⟩,e⟩;have hlen:[1155]:=[556];rw[hlen] at hi hy;have hi2:i<w.holding.reverse.length:=by
   rw[List.length_reverse];exact hi
  obtain⟨n,hn⟩:∃n,[2,w.holding,w.holding.length -1 -i,n]:=[115,[2]];have hy:y=[13,n]:=by
   rw[List.getElem?_map,hn] at hy;exact[173,hy]
  subst hy;have Qv:[3,w.holding.reverse,n]:=by rw[0,List.getElem?_reverse hi,hn]
  have oJ:n∈w.holding:=List.mem_of_getElem? hn;have hnp:=d.hb n oJ;obtain⟨p,hp⟩:∃p,[2,w.places,n,p]:=[76,hnp];obtain⟨a,ha⟩:∃a,[2,cK,n,a]:=[115,(by rw[d.uf];exact hnp)];obtain⟨FL,O6,pb,h1,h2⟩:=d.pp n a p ha hp;have ed:[1127]=n::w.holding.reverse.drop (i+1):=by
   rw[46,hi2];rw[List.getElem?_eq_getElem hi2] at Qv;rw[Option.some.inj Qv]
  rw[ed,List.find?_cons] at e;have en:CN.isNm w.places x n=(p.name==x):=by
   unfold CN.isNm;rw[hp]
  rw[en] at e;refine⟨_,rfl,wa,_,dx,_,_,rfl,d.wk,R.W.cl,[22],rfl,_,rfl,pl,_,_,_,rfl,rfl,bP.of d.p,at_of (j:=n) (v:=[104]) rfl (by rw[89]),a,_,FL,_,_,rfl,h1,R.B.cl,[82],rfl,_,rfl,_,_,Jn h2,Jn hb,tS _,tS _,_,rfl,?_⟩;rw[NB];refine er [156] [156]
  ·rw[hh] at e;rw[e] at q;rw[6,q]
  ·rw[Bool.eq_false_iff.mpr hh] at e;rw[0,rfl,[53],e]
 ·rintro σ H' ⟨rfl,_,e⟩;have hlen:[6,[280],w.holding.reverse.length]:=by rw[List.length_map,List.length_reverse]
  rw[hlen,List.drop_length] at e;rw[12]
def Z5(c:Cs):Sp:=λvs H Q _=>∃(G:[18]) (wa a:Addr) (t:CN.T) (w:W) (lv st:Nat),vs=[12,wa,[10]]/\[182]/\[656]/\[609]/\w.uses.length<=9000/\[85,[1365]]
theorem Ph:[4,["walk","node","bound","place","of_set"],[528],I.mZ]:=[11]
theorem OG {c:Cs} {G:[18]} {H:Hp} {wa:Addr} {w:W} {lv st:Nat} {dx pl ul fl vl hl:Addr} {cK eK gN fM:[14]}(d:[86]) {x:Bytes} {k:Nat}(h:[149,x]=some k):[299]:=d.hb k (by rw[33,[1098]])
end
end
section
section
variable {P:Program} {w:World} {K:PySem.W.Frag} {mg:[16]} {base:Heap} {c:Cs} {fB fU fV fS fW j7:Addr} {ja kM kN de jy:FuncData} {fa:[41]} {fm:[42]}
theorem OL(R:[49]):[1389]:=by
 have GN:[1396]:=OS R;have GU:[1379]:=Zy R;refine R.Gn.F.ok Ph [20] [21]
 ·rw[91]
 obtain⟨G,wa,a,t,w,lv,st,rfl,⟨dx,pl,ul,fl,vl,hl,cK,eK,gN,fM,d⟩,ta,⟨y,hy⟩,hlen,q⟩:=h;obtain⟨tF,mF⟩:=R.Bj;rw[33];obtain⟨oW,Tb,Hz,MZ,nv,vv,hN,_,_,x6,_,_,_⟩:=ta.inv;rw[hy] at x6 q;obtain⟨nb,rfl,AU⟩:=x6;have q:[85,[35,y,[149,y],[235]]]:=q;rw[1,[34,[14,Ph.nd,au GN jx rfl R.near.m R.near.F.kp R.near.b .nil a6 [18,pv 0,[77]]],ae (bf [14,yz,pv 2,[292,mF]] (ae [3,3,Ph.nd,eW cI [37] (pv 2) [157]] (ah (kP (pv 3) aH vk))) aO) (ae [3,4,Ph.nd,wb [174,[77]] aH aH] [67,[37],gA R.U.M GU hr rfl R.U.mC R.U.b .nil a6 (aa (pv 1) (aa (pv 2) [13,pv 4,[37],[37]]))])],⟨_,rfl,_,rfl,a,_,oW,_,_,rfl,hN,R.N.cl,R.N.n4,[421],G,wa,nb,y,w,lv,st,rfl,[287,d],AU,?_⟩];refine[171];have N8:eK.length=w.uses.length:=Paired.length d.up;cases Qv:CN.bK w.places w.holding y with
  |none=>
   refine[55];have H1e:aS H H:=[251];have fin:∀(H2:Hp) (x:Addr),([216])->oy c.UC H2 x [1293]->[71,[533]]/\[1251]:=λH2 x s2 hu=>by
    have d2:=d.same s2;rw[3,(Fr.same s2).trans (jR d2.u d2.gz.2.1),[437,d2.use0 hu Qv]]
   rw[<-Qv];have C9:=d.wk;have du:=d.u;have Dv:=hN;have Kn:=AU;generalize hH1:H=H1 at C9 du Dv Kn fin ⊢;rw[hH1] at q;refine[81,oW,Dv];have RC:[2,[178],V.str "set"]=[235]:=oM _ .dy;rw[RC];have go:∀os:Int,os=[5,[235],1,0]->∀x:Addr,∀H2:Hp,∀xc:Addr,([371])->H2 x=some (.ins c.UC xc [1455])->Q .cg [533]:=λos eos x H2 xc s2 A0=>by
    obtain⟨f1,f2⟩:=fin H2 x s2 [1443];exact q _ f1 f2
   by_cases zr:[503]
   ·rw[[41,[235],zr]] at go ⊢;refine bY ⟨_,rfl,wa,_,dx,_,_,rfl,C9,R.W.cl,[22],rfl,[14,du],_,rfl,_,rfl,_,rfl,_,rfl,wa,_,dx,_,_,rfl,C9,R.W.cl,[22],rfl,_,rfl,wa,_,dx,_,_,rfl,C9,R.W.cl,[22],rfl,[557]⟩;rw[72];refine⟨x,xc,a,oW,_,1,[179],[140],_,_,_,.ref nb,_,_,_,rfl,ag,(by rw[75]),[701]⟩;have s2:[371]:=[733];exact[2,ul,_,_,rfl,[15,du],(by rw[68]),[330,1]]
   ·rw[[20,t.kind,.dy,zr]] at go ⊢;refine bg ⟨_,rfl,wa,_,dx,_,_,rfl,C9,R.W.cl,[22],rfl,[14,du],_,rfl,_,rfl,_,rfl,_,rfl,wa,_,dx,_,_,rfl,C9,R.W.cl,[22],rfl,_,rfl,wa,_,dx,_,_,rfl,C9,R.W.cl,[22],rfl,[557]⟩;rw[72];refine⟨x,xc,a,oW,_,0,[179],[140],_,_,_,.ref nb,_,_,_,rfl,ag,(by rw[75]),[701]⟩;have s2:[371]:=[733];exact[2,ul,_,_,rfl,[15,du],(by rw[68]),[330,0]]
  |some k=>
   have hk:=OG d Qv;obtain⟨p,hp⟩:∃p,[2,w.places,k,p]:=[76,hk];obtain⟨ak,UP⟩:∃a,[2,cK,k,a]:=[115,(by rw[d.uf];exact hk)];obtain⟨FL,O6,pb,h1,h2⟩:=d.pp k ak p UP hp;obtain⟨bd,xj⟩:=d.bump UP hp h1 h2;have gx:¬([747]=V.int (-1)):=λz=>by
    have z:=[290];have:[11,k]= -1:=z;omega
   rw[[20,[747],V.int (-1),gx]];rw[1,bY ⟨_,rfl,wa,_,dx,_,_,rfl,d.wk,R.W.cl,[22],rfl,_,rfl,pl,_,_,_,rfl,rfl,bP.of d.p,at_of (j:=k) (v:=V.ref ak) rfl (by rw[List.getElem?_map,UP];rfl),?_⟩,⟨_,rfl,ak,_,FL,_,_,rfl,h1,R.B.cl,[82],rfl,_,_,rfl,rfl,FL,_,h1,(by rw[2,7]),?_⟩];have fin:∀(H2:Hp) (x:Addr),aS [776] H2->oy c.UC H2 x [1293]->[71,[533]]/\[1251]:=λH2 x s2 hu=>by
    have d2:=bd.same s2;rw[3,(xj.trans (Fr.same s2)).trans (jR d2.u d.gz.2.1),[437,d2.use1 d hu Qv hk]]
   rw[<-Qv];have C9:=bd.wk;have du:=bd.u;have Dv:([776]) a=_:=[1479];have Kn:([776]) nb=_:=xj.ch.tp _ _ AU;have EZ:[1403]=[776]:=rfl;generalize hH1:upd H ak (.ins c.BC FL (Ib O6 (p.kind.number:Int) (.ref pb) (p.level:Int) (p.home:Int) (p.st:Int) ((CN.dq w k:Int)+1)))=H1 at C9 du Dv Kn fin;rw[hH1] at EZ;have goal1:=EZ;refine(λz=> ?_:_->_) EZ;show[211,[1403]];rw[EZ];refine[81,oW,Dv];have RC:[2,[178],V.str "set"]=[235]:=oM _ .dy;rw[RC];have go:∀os:Int,os=[5,[235],1,0]->∀x:Addr,∀H2:Hp,∀xc:Addr,([371])->H2 x=some (.ins c.UC xc [1455])->Q .cg [533]:=λos eos x H2 xc s2 A0=>by
    obtain⟨f1,f2⟩:=fin H2 x s2 [1443];exact q _ f1 f2
   by_cases zr:[503]
   ·rw[[41,[235],zr]] at go ⊢;refine bY ⟨_,rfl,wa,_,dx,_,_,rfl,C9,R.W.cl,[22],rfl,[14,du],_,rfl,_,rfl,_,rfl,_,rfl,wa,_,dx,_,_,rfl,C9,R.W.cl,[22],rfl,_,rfl,wa,_,dx,_,_,rfl,C9,R.W.cl,[22],rfl,[557]⟩;rw[72];refine⟨x,xc,a,oW,_,1,[179],[140],_,_,_,.ref nb,_,_,_,rfl,ag,(by rw[75]),[701]⟩;have s2:[371]:=[733];exact[2,ul,_,_,rfl,[15,du],(by rw[68]),[330,1]]
   ·rw[[20,t.kind,.dy,zr]] at go ⊢;refine bg ⟨_,rfl,wa,_,dx,_,_,rfl,C9,R.W.cl,[22],rfl,[14,du],_,rfl,_,rfl,_,rfl,_,rfl,wa,_,dx,_,_,rfl,C9,R.W.cl,[22],rfl,_,rfl,wa,_,dx,_,_,rfl,C9,R.W.cl,[22],rfl,[557]⟩;rw[72];refine⟨x,xc,a,oW,_,0,[179],[140],_,_,_,.ref nb,_,_,_,rfl,ag,(by rw[75]),[701]⟩;have s2:[371]:=[733];exact[2,ul,_,_,rfl,[15,du],(by rw[68]),[330,0]]
end
end
end CP
end
section
namespace CP
open PySem PySem.Spec PyProof.Rows L2
open Vanbka (Bytes)
open CN (Kd W Pl Us Vi wN bh bI fh WF eY iN)
section
structure ox(w:W)(m:Nat):Prop where
 p:w.places.length+m<=9000
 u:w.uses.length+m<=9000
 v:w.cE.length+m<=9000
 h:w.holding.length+m<=9000
theorem ox.gr {w w':W} {m n k:Nat}(r:ox w m)(g:CN.Gr w w' k)(e:k+n<=m):ox w' n:=⟨by rw[12,r.p,g.p],by rw[12,r.u,g.u],by rw[12,r.v,g.v],by rw[12,r.h,g.h]⟩
def Md(c:Cs)(n:Nat):Sp:=[316,WF n t/\ox w (3*t.sz)/\[85,[975]]]
theorem vH {K:PySem.W.Frag} {c:Cs} {n:Nat} {G:[18]} {wa l:Addr} {H:Hp} {w:W} {lv st home iw ip ih:Nat} {σ0:L2.St} {as:[14]} {ts:[29]} {D:Ends}(e1:σ0[iw]? =some [4,wa])(e2:σ0[ih]? =some [567])(e3:ip<σ0.length)(n1:ip≠iw)(n2:ip≠ih) (hL:[5,l,[181]])(gl:G l)(hT:∀(i:Nat) (a:Addr) (t:CN.T),([369])->[3,ts,t]->[656])(hlen:as.length=ts.length)(Ft:∀t∈ts,WF n t)(hr:ox w (3*eY ts))(hw:[182]) (fin:∀(v:[71]) (H':Hp),([201])->[175,bh (wN n) ts home lv st w]->D.nx (σ0.set ip v) H'):∃W:[162,[217]],(∃m,W 0 m (σ0.set ip (σ0[ip]?.getD none)) H)/\∀i m σ H,([596])->((EO K l).stop i H/\[236])\/((EO K l).go i H/\∃N:[217],[646]/\∀x H',(EO K l).M7 i H x H'->AJ ip x σ H' λlX H2=>F' (Mm (Md c n) [] E0 (o9 (rL iw) (o9 (rL ip) (o9 (rL ih) Il)))) [105,N,N] lX H2):=by
 have gk:[604]:=by
  obtain⟨_,_,_,_,_,_,_,_,_,_,d⟩:=hw;exact d.gk
 refine gS (K:=K) (a:=l) (xs:=[70]) (λi σ H'=>(∃v,σ=σ0.set ip v)/\[201]/\[175,[166,[510]]]) ⟨[53],Fr.same [251],hw⟩ (λi σ H' _ z=>bP.of (z.2.1.ch.ls _ _ hL gl).1) ?_ ?_
 ·rintro i y σ H' hi ⟨⟨v,rfl⟩,fr,wk⟩;obtain⟨a,ha,rfl⟩:∃a,[70,as]:=by
   rw[List.getElem?_map] at hi;cases e:as[i]? with
    |none=>rw[7]
    |some z=>rw[10]
  have mK:i<ts.length:=by rw[29,ha]
  rw[70];have hz:=CN.Cj ht;have gr:=CN.gG (CN.nX n) home lv st [510] w;show F' _ _ ((σ0.set ip v).set ip (some [104])) H';rw[List.set_set];refine⟨V.ref wa,by rw[0,List.getElem?_set_ne n1,e1],[104],by rw[List.getElem?_set_self e3],[13,home],by rw[0,List.getElem?_set_ne n2,e2],G,wa,a,t,home,_,lv,st,rfl,wk,[985].ch [110,fr.ch],Ft t [864],hr.gr gr [2],[558]⟩;rw[<-CN.Cz (wN n) ts home lv st w ht] at Ai;rw[0,[53],fr.trans xl,Ai]
 ·rintro σ H' ⟨⟨v,rfl⟩,fr,wk⟩;rw[List.length_map,hlen,List.take_length] at wk;exact fin v H' fr wk
section
variable {P:Program} {w:World} {K:PySem.W.Frag} {mg:[16]} {base:Heap} {c:Cs} {fB fU fV fS fW j7:Addr} {ja kM kN de jy:FuncData} {fa:[41]} {fm:[42]} {n k:Nat}
def PL(c:Cs)(n:Nat):Sp:=[316,[583]/\ox w (3*eY t.parts)/\[85,[933]]]
theorem Z2:[4,["walk","node","home","part"],[228],I.eN]:=[11]
theorem Lj(R:[49])(GN:[33,I.gi,I.gi,Md c n]):[36,I.eN,I.eN,PL c n]:=by
 refine R.parts.F.ok Z2 [20] [21]
 ·rw[49]
 obtain⟨G,wa,a,t,home,w,lv,st,rfl,wk,ta,Ft,pO,q⟩:=h;rw[13,ah [10,[77],3,Z2.nd,[413,[256,pv 3]]]];obtain⟨oW,Tb,Hz,MZ,nv,vv,hN,⟨cK,hL,gl,hl,hT⟩,_⟩:=ta.inv;refine⟨_,rfl,a,_,oW,_,_,rfl,hN,R.N.cl,R.N.n2,Bu _ _ _ _ _ _ _,Tb,rfl,[73,hL],?_⟩;have gk:[604]:=by
  obtain⟨_,_,_,_,_,_,_,_,_,_,d⟩:=wk;exact d.gk
 exact vH (σ0:=[[4,wa],[412],[567],none]) (iw:=0) (ip:=3) (ih:=2) rfl rfl [4] [3] [3] hL (gk _ gl) hT hl Ft pO wk λv H' fr wk'=>q H' fr wk'
def PJ(c:Cs)(n:Nat):Sp:=λvs H Q _=>∃(G:[18]) (wa bl nl:Addr) (ts:[29]) (home:Nat) (nums:[30]) (w:W) (lv st:Nat),vs=[[163],.ref bl,[6,home],.ref nl]/\[182]/\bM c.NC c.TG H bl ts/\H nl=some (.lst (hV nums))/\(∀k∈nums,[299])/\(∀p∈ts,WF n p)/\ox w (nums.length+3*eY ts)/\[85,bI (wN n) ts home lv st nums w]
theorem TX:[4,["walk","statements","block","numbers","held_before","node"],[818],I.eM]:=[11]
theorem Ru(l:[30])(n:Nat):xh (hV l) none (some [63])=hV (l.take n):=by
 unfold xh;rw[HT.rA,HT.LK,List.drop_zero,Nat.sub_zero,List.length_map];show(hV l).take (min n l.length)=_;have e:l.take (min n l.length)=l.take n:=by
  rcases Nat.le_total n l.length with h|h
  ·rw[Nat.min_eq_left h]
  ·rw[Nat.min_eq_right h,List.take_length,List.take_of_length_le h]
 rw[<-e];exact List.map_take.symm
theorem HX(R:[49])(GN:[33,I.gi,I.gi,Md c n]):aC P w K mg base fi (k+1) (fa I.eM) (fm I.eM) [818] (PJ c n):=by
 refine R.block.F.ok TX [20] [21]
 ·rw[113]
 obtain⟨G,wa,bl,nl,ts,home,nums,w,lv,st,rfl,⟨dx,pl,ul,fl,vl,hl,cK,eK,gN,fM,d⟩,⟨as,hL,gl,hlen,hT⟩,xb,YN,Ft,pO,q⟩:=h;rw[1,[34,[3,4,TX.nd,[372]],ae (aF [41,sF,[37],pv 3]) (ae [10,pv 1,5,TX.nd,[413,[256,pv 5]]] (ah [56,wc zW [37] O7 (rk (pv 4))]))],⟨_,rfl,wa,_,dx,_,_,rfl,d.wk,R.W.cl,[22],rfl,hl,_,rfl,[67,d.h],?_⟩];have d1:=d.hold nums YN;have hlh:[1155]:=[556];have UU:[6,hV nums,nums.length]:=[556];refine⟨_,rfl,wa,_,dx,_,_,rfl,d.wk,R.W.cl,[22],rfl,[14,d.h],_,rfl,hl,nl,_,_,rfl,rfl,d.h,xb,by rw[hlh,UU];exact Nat.le_of_lt (iF (by rw[0,pO.h])),?_⟩;have xj:[71,[8,H,hl,[280]++hV nums]]:=jR d.h d.gz.2.2.2.2;have hL1:=(xj.ch.ls _ _ hL (d.gk _ gl)).1;rw[1,[22,bl,[73,hL1],?_],vH (σ0:=[[4,wa],[4,bl],[567],[4,nl],[39,[280].length],none]) (iw:=0) (ip:=5) (ih:=2) rfl rfl [4] [3] [3] hL1 (d.gk _ gl) (λi a t e1 e2=>(hT i a t e1 e2).ch (Ch.sub d.gk xj.ch)) hlen Ft (pO.gr (CN.zo w nums) [2]) [287,d1] λv H2 xl Ai=> ?_];obtain⟨IB,Vc,Vk,UH,Vm,Hi,Lq,Mx,JA,MC,d2⟩:=Ai;refine⟨_,rfl,wa,_,IB,_,_,rfl,d2.wk,R.W.cl,[22],rfl,_,rfl,_,rfl,Hi,_,rfl,bP.of d2.h,[244]⟩;rw[hlh,Ru];have s3:=[110,hV [433,CN.bh (wN n) ts home lv st [285]],hp];have d3:=d2.same s3;have d4:=d3.fields (w':=(bh (wN n) ts home lv st [285]).back w.holding.length) (lv':=lv) (st':=st) (hl':=p) rfl rfl rfl ag (by have nd:=d3.nd;simp only[List.nodup_cons,List.mem_cons,List.not_mem_nil,or_false,not_or,List.nodup_nil,and_true,not_false_eq_true] at nd ⊢;rw[0,⟨nd.1.1,nd.1.2.1,nd.1.2.2.1,aq d2.p hp⟩,⟨nd.2.1.1,nd.2.1.2.1,aq d2.u hp⟩,⟨nd.2.2.1.1,aq d2.f hp⟩,aq d2.v hp]) (d2.gf p hp) (λk hk=>d2.hb k (List.mem_of_mem_take hk));rw[4,⟨_,rfl,wa,_,IB,_,rfl,d3.wk,R.W.cl,[22],(by rw[2,8]),?_⟩,q _ ([559].trans ((Fr.same s3).trans (kO d3))) ⟨IB,Vc,Vk,UH,Vm,p,Lq,Mx,JA,MC,d4⟩]
end
end
end CP
end
section
namespace CP
open PySem PySem.Spec PyProof.Rows L2
open Vanbka (Bytes)
open CN (Kd W Pl Us Vi wN bh bI fh pq wU Gi lD jA WF eY iN)
section
abbrev yu:[218]:=[[15,"let",0],[15,"slider",1],[15,"choice",2]]
theorem DS:∀k∈uO,[1366]:=[32]
theorem mk_val(k:Kd):[1366]:=DS k (kL k)
section
variable {c:Cs} {G:[18]} {H H':Hp} {wa nl:Addr} {w:W} {lv st:Nat}
abbrev Gm(G:[18])(nl:Addr):[18]:=λb=>G b\/b=nl
theorem dr.more {xs:[13]}(h:[182])(hn:[5,nl]):dr c [166] (upd H nl [60]) wa w lv st:=by
 obtain⟨dx,pl,ul,fl,vl,hl,cK,eK,gN,fM,d⟩:=h;have d2:=d.same (aB (o:=[60]) hn);refine⟨dx,pl,ul,fl,vl,hl,cK,eK,gN,fM,d2.wk,d2.p,d2.u,d2.f,d2.v,d2.h,d2.nd,?_,d2.pn,d2.uf,d2.pp,d2.up,d2.vp,d2.Dj,d2.ur,d2.hb,?_,λb e=> .inl (d2.gk b e)⟩
 ·intro b hb z;rcases z with z|z
  ·exact d.g b hb z
  ·subst z;simp only[List.mem_cons,List.not_mem_nil,or_false] at hb;rcases hb with z|z|z|z|z
   ·rw[z,d.p] at hn;cases hn
   ·rw[z,d.u] at hn;cases hn
   ·rw[z,d.f] at hn;cases hn
   ·rw[z,d.v] at hn;cases hn
   ·rw[z,d.h] at hn;cases hn
 ·intro b e z;rcases z with z|z
  ·exact d2.gf b e z
  ·rw[z,ag] at e;cases e
theorem dr.less(h:dr c [166] H wa w lv st)(gk:[604]):[182]:=by
 obtain⟨dx,pl,ul,fl,vl,hl,cK,eK,gN,fM,d⟩:=h;exact⟨dx,pl,ul,fl,vl,hl,cK,eK,gN,fM,d.wk,d.p,d.u,d.f,d.v,d.h,d.nd,[401,[150]],d.pn,d.uf,d.pp,d.up,d.vp,d.Dj,d.ur,d.hb,λb e z=>d.gf b e [150],gk⟩
theorem dr.same(h:[182])(s:[35]):dr c G H' wa w lv st:=by
 obtain⟨dx,pl,ul,fl,vl,hl,cK,eK,gN,fM,d⟩:=h;exact[287,d.same s]
theorem dr.gk(h:[182]):[604]:=by
 obtain⟨dx,pl,ul,fl,vl,hl,cK,eK,gN,fM,d⟩:=h;exact d.gk
theorem Fr.less(f:Fr c [166] wa H H'):[201]:=⟨Ch.sub (λb e=> .inl e) f.ch,f.sp,f.th⟩
theorem dr.wr {xs ys:[13]}(h:dr c [166] H wa w lv st)(hz:[37,nl])(hg:¬G nl)(gk:[604]):dr c [166] [51,nl] wa w lv st/\[71,[51,nl]]:=by
 obtain⟨dx,pl,ul,fl,vl,hl,cK,eK,gN,fM,d⟩:=h;have d0:[86]:=⟨d.wk,d.p,d.u,d.f,d.v,d.h,d.nd,[401,[150]],d.pn,d.uf,d.pp,d.up,d.vp,d.Dj,d.ur,d.hb,λb e z=>d.gf b e [150],gk⟩;have r:=d0.wr (ys:=ys) hz hg;have ne:[377,b≠nl]:=[401,.inr z];rw[3,⟨dx,pl,ul,fl,vl,hl,cK,eK,gN,fM,r.wk,[248,d.p],[248,d.u],[248,d.f],[248,d.v],[248,d.h],d.nd,d.g,d.pn,d.uf,r.pp,r.up,r.vp,d.Dj,d.ur,d.hb,[197,hz],d.gk⟩,jR hz hg]
end
section
variable {P:Program} {w:World} {K:PySem.W.Frag} {mg:[16]} {base:Heap} {c:Cs} {fB fU fV fS fW j7:Addr} {ja kM kN de jy:FuncData} {fa:[41]} {fm:[42]} {n k:Nat}
def aan(c:Cs)(n:Nat):Sp:=λvs H Q _=>∃(G:[18]) (wa a:Addr) (t:CN.T) (kd:Vanbkc.Kind) (home:Nat) (w:W) (lv st:Nat),[426,CN.iq t.kind=some kd/\[609]/\[583]/\ox w (2+3*eY t.parts)/\[85,[1456]]]
theorem Z0:[4,["walk","node","home","number"],[228],I.ig]:=[11]
theorem HM(R:[49])(hk:3<=k)(GP:[1006]):[36,I.ig,I.ig,aan c n]:=by
 have GA:[792]:=zG R;refine R.making.F.ok Z0 [20] [21]
 ·obtain⟨_,_,_,_,_,_,_,_,_,rfl,_⟩:=h;rfl
 obtain⟨G,wa,a,t,kd,home,w,lv,st,rfl,wk,ta,Sq,⟨x,hx⟩,Ft,pO,q⟩:=h;rw[22];rw[21];refine[57,ae [3,3,Z0.nd,[328,[13,[31,j7,R.mMk,[77]],[77],pv 2]]] (ae [1056] [67,[37],pv 3])];obtain⟨oW,Tb,Hz,MZ,nv,vv,hN,_,_,x6,_,_,_⟩:=ta.inv;rw[hx] at x6;obtain⟨nb,rfl,AU⟩:=x6;have hv:gh yu (.inr (kS t.kind))=some [13,kd.number]:=by
  rw[mk_val,Sq];rfl
 rw[1,⟨_,rfl,_,rfl,_,rfl,a,_,oW,_,_,rfl,hN,R.N.cl,R.N.n1,[650],j7,_,rfl,[463,hv.symm],_,rfl,a,_,oW,_,_,rfl,hN,R.N.cl,R.N.n4,[421],_,rfl,G,wa,nb,[10],kd,x,home,w,lv,st,rfl,wk,AU,by rw[0,pO.p],λH1 xj P1=> ?_⟩,⟨_,rfl,_,rfl,_,rfl,G,wa,a,t,home,_,lv,st,rfl,P1,ta.ch (Ch.sub wk.gk xj.ch),Ft,pO.gr (CN.qi w [103,kd]) [2],[558]⟩];have Qq:=(CN.qi w [103,kd]).trans [212,[105,kd]];have Vc:[444,[715]]:=by
  have h:=[212,[105,kd]].m;have h2:[445,[105,kd]]:=by
   show[42,w.places,_]=_;simp
  omega
 obtain⟨IB,pl2',Vk,UH,Vm,Hi,Lq,Mx,JA,MC,d2⟩:=Ai;have hlh:[6,hV [715].holding,[715].holding.length]:=[556];refine⟨_,rfl,wa,_,IB,_,_,rfl,d2.wk,R.W.cl,[22],rfl,[14,d2.h],_,rfl,Hi,_,_,rfl,rfl,d2.h,by rw[hlh];exact iF (by rw[12,Qq.h,pO.h]),?_⟩;have d3:=d2.hold [471] (λk hk=>by rw[5,hk,Vc]);refine q _ ([559].trans (jR d2.h d2.gz.2.2.2.2)) ⟨IB,pl2',Vk,UH,Vm,Hi,Lq,Mx,JA,MC,?_⟩;have e:[1456]=[715].hold [471]:=by
  unfold pq;rw[hx];rfl
 rw[e];exact d3
end
end
section
variable {i:Nat}
theorem rT(f:CN.Wf)(l:[190])(lv st:Nat)(w:W) {b:[29]}(h:[3,l,b]):fh f (l.take (i+1)) lv st w=bI f b (fh f [245] lv st w).met lv st [] (fh f [245] lv st w).block:=by
 unfold fh;rw[80]
theorem PN(a b:[190]):iN (a++b)=iN a+iN b:=by induction a with
 |nil=>simp[iN]
 |cons x r ih=>
  rw[List.cons_append,iN,iN,ih];omega
theorem Ci {l:[190]} {b:[29]}(h:[3,l,b]):iN [245]+eY b<=iN l:=by
 have hi:=[25,h];have e:l=[245]++b::l.drop (i+1):=by
  rw[[601]] at h;rw[<-[539],<-[1102],List.take_append_drop]
 have:=congrArg iN e;rw[PN,iN] at this;omega
section
variable {P:Program} {w:World} {K:PySem.W.Frag} {mg:[16]} {base:Heap} {c:Cs} {fB fU fV fS fW j7:Addr} {ja kM kN de jy:FuncData} {fa:[41]} {fm:[42]} {n k:Nat}
def Mc(c:Cs)(n:Nat):Sp:=[316,[609]/\[989]/\[583]/\[728]/\ox w (2+3*eY t.parts+3*[333])/\[85,wU (wN n) t home lv st w]]
theorem Er:[4,["walk","node","home","block","number"],[228],I.lE]:=[11]
theorem OW(R:[49])(hk:3<=k)(GP:[1006])(GB:[1036]):[36,I.lE,I.lE,Mc c n]:=by
 have GA:[792]:=zG R;have Vq:[791]:=zI R;refine R.iT.F.ok Er [20] [21]
 ·rw[49]
 obtain⟨G,wa,a,t,home,w,lv,st,rfl,wk,ta,⟨x,hx⟩,⟨b0,br,Hd⟩,Ft,IH,pO,q⟩:=h;have jx:=[23,1];rw[22];obtain⟨tF,mF⟩:=R.S4;refine[34,[3,3,Er.nd,[1055]],ae [3,4,Er.nd,[328,[13,[23,3,mF],[77],pv 3]]] (ae [1056] [486,[446,[61,pv 4]]])];obtain⟨oW,Tb,Hz,MZ,nv,vv,hN,_,hB,x6,_,_,_⟩:=ta.inv;rw[hx] at x6;obtain⟨nb,rfl,AU⟩:=x6;have gk:=wk.gk;refine⟨_,rfl,G,wa,w,lv,st,rfl,wk,λH1 xj P1=> ?_⟩;have Dv:=[1479];refine⟨_,rfl,_,rfl,_,rfl,a,_,oW,_,_,rfl,Dv,R.N.cl,R.N.n4,[421],_,rfl,G,wa,nb,[10],.for,x,w.met,w.block,lv,st,rfl,P1,xj.ch.tp _ _ AU,by show w.places.length<=9000;rw[0,pO.p],[558]⟩;have xk:=[559];have Qq:=(CN.jY w).trans (CN.qi w.block [334,w.met]);refine⟨_,rfl,_,rfl,_,rfl,G,wa,a,t,home,_,lv,st,rfl,Ai,ta.ch [110,xk.ch],Ft,pO.gr Qq [2],λH3 uu EL=> ?_⟩;have RO:=xk.trans uu;have X9:=RO.ch.nd _ _ _ _ _ _ _ _ _ hN;have hB3:=hB.ch [110,RO.ch];rw[Hd] at hB3;obtain⟨om,J4,gB,J7,NU⟩:=hB3;obtain⟨ba,CG⟩:∃ba,[2,om,0,ba]:=[115,(by rw[J7];simp)];have Yh:=[1018];refine⟨_,rfl,_,rfl,a,_,oW,_,_,rfl,X9,R.N.cl,R.N.n3,[648],Hz,_,0,V.ref ba,rfl,rfl,bP.of J4,at_of (j:=0) rfl (by rw[92]),_,rfl,_,rfl,(by rw[2]),λnl xb=> ?_⟩;have s4:=[54,[[13,w.places.length]],xb];have X3:=Qq.trans [212,[607]];have hz:eY b0<=[333]:=by
  rw[Hd,iN];omega
 have ez:[444,[146,[607]]]:=by
  have h:=[212,[607]].m;have h2:[445,[607]]:=by
   show[42,w.places,_]=_;simp
  omega
 rw[1,⟨G,wa,ba,nl,b0,w.met,[471],_,lv,st,rfl,EL.same s4,Yh.sm s4,ag,λk hk=>by rw[5,hk,ez],λp hp=>IH b0 (by rw[Hd];simp) p hp,pO.gr X3 (by rw[0]),λH5 G5 P2=> ?_⟩,q H5 (RO.trans ((Fr.same s4).trans G5)) ?_];have e:wU (wN n) t home lv st w=bI (wN n) b0 w.met lv st [471] [146,[607]]:=by
  unfold wU;rw[hx,Hd];rfl
 rw[e];exact P2
def aao(c:Cs)(n:Nat):Sp:=[316,(([632])->[609])/\[583]/\[728]/\ox w (1+3*eY t.parts+3*[333])/\[85,lD (wN n) t home lv st w]]
theorem Z1:[4,["walk","node","home","statements"],[228],I.i4]:=[11]
theorem Li(R:[49])(hk:3<=k)(GP:[1006])(GB:[1036]):[36,I.i4,I.i4,aao c n]:=by
 have GU:[1389]:=OL R;have Vq:[791]:=zI R;refine R.other.F.ok Z1 [20] [21]
 ·rw[49]
 obtain⟨G,wa,a,t,home,w,lv,st,rfl,wk,ta,Hj,Ft,IH,pO,q⟩:=h;have jx:=[23,1];rw[22];refine[57,ae (bf [75,[77],aa ay [103]] (ah (aF (au GU eP rfl R.Gn.m R.Gn.F.kp R.Gn.b .nil a6 [302]))) aO) (ae [1056] (ah [10,[77],3,Z1.nd,[486,aa (pv 0) [13,pv 3,[1055],bz af]]]))];obtain⟨oW,Tb,Hz,MZ,nv,vv,hN,_,hB,_,_,_,_⟩:=ta.inv;have gk:=wk.gk;refine[2,a,_,oW,_,_,rfl,hN,R.N.cl,R.N.n1,[650],(by rw[8]),[238,[664]]];have s1:=[97,.tup [664]];show[44,if[256] then _ else ya [31,t.kind] [664]];rw[[187],U9];refine er [156] [156]
 ·have US:[632]:=[127,[866]];obtain⟨x,hx⟩:=Hj US;refine⟨_,rfl,_,rfl,G,wa,a,t,w,lv,st,rfl,wk.same s1,ta.sm s1,⟨x,hx⟩,by rw[0,pO.u],λH1 fr0 P1=> ?_⟩;have xj:[120,H1]:=[560].trans fr0;have eU:[238]=[1365]:=by
   unfold CN.nR;rw[17,US]
  have X2:CN.Gr w [238] 1:=by
   rw[eU];exact CN.J3 _ _
  rw[<-eU] at P1;refine⟨_,rfl,_,rfl,_,rfl,G,wa,a,t,home,_,lv,st,rfl,P1,ta.ch [110,xj.ch],Ft,pO.gr X2 [2],[558]⟩;have xk:=[559];have Qr:=[1480];obtain⟨om,J4,gB,J7,NU⟩:=hB;have Qq:=X2.trans [212,[238]];refine⟨_,rfl,a,_,oW,_,_,rfl,Qr,R.N.cl,R.N.n3,[648],Hz,rfl,[73,[1367].1],gS (K:=K) (a:=Hz) (xs:=[682]) (λi σ H'=>[133,[[4,wa],[412],[567],v]]/\[201]/\[175,[1426]]) ⟨[41,none],xk,Ai⟩ (λi σ H' _ z=>[115,J4,gk _ gB]) ?_ ?_⟩
  ·rw[20,[70,om],(by rw[List.getElem?_map] at hi;cases e:om[i]? with
    |none=>rw[7]
    |some z=>rw[10])];have mK:i<t.blocks.length:=by
    rw[<-J7];exact[25,CG]
   obtain⟨b,hb⟩:∃b,[3,t.blocks,b]:=[183];have hz:=Ci hb;have X3:=[1450];refine⟨_,rfl,_,rfl,_,rfl,G,wa,_,lv,st,rfl,wk,[1194]⟩;have s4:=[80,xb];refine⟨G,wa,ba,nl,b,_,[],_,lv,st,rfl,EL.same s4,[1395],ag,[4],[1181],pO.gr X3 (by rw[0]),λH5 G5 P2=>[21,[53],[1182]]⟩;rw[0,rT _ _ _ _ _ hb,P2]
  ·rintro σ H' ⟨⟨v,rfl⟩,fr,wk⟩;rw[List.length_map,J7,List.take_length] at wk;exact q H' fr wk
 ·have US:¬[632]:=[370,[849]];have eU:[238]=w:=by
   unfold CN.nR;rw[16,US]
  have X2:CN.Gr w [238] 1:=by
   rw[eU];exact(CN.Gr.refl w).mono [2]
  have xj:[71,[982]]:=[560];have P1:dr c G [982] wa [238] lv st:=by
   rw[eU];exact wk.same s1
  show[211,[982]];generalize upd H tp (.tup ([Kd.name,.dy].map λx=>V.str (kS x)))=H1 at xj P1;refine⟨_,rfl,_,rfl,_,rfl,G,wa,a,t,home,_,lv,st,rfl,P1,ta.ch [110,xj.ch],Ft,pO.gr X2 [2],[558]⟩;have xk:=[559];have Qr:=[1480];obtain⟨om,J4,gB,J7,NU⟩:=hB;have Qq:=X2.trans [212,[238]];refine⟨_,rfl,a,_,oW,_,_,rfl,Qr,R.N.cl,R.N.n3,[648],Hz,rfl,[73,[1367].1],gS (K:=K) (a:=Hz) (xs:=[682]) (λi σ H'=>[133,[[4,wa],[412],[567],v]]/\[201]/\[175,[1426]]) ⟨[41,none],xk,Ai⟩ (λi σ H' _ z=>[115,J4,gk _ gB]) ?_ ?_⟩
  ·rw[20,[70,om],(by rw[List.getElem?_map] at hi;cases e:om[i]? with
    |none=>rw[7]
    |some z=>rw[10])];have mK:i<t.blocks.length:=by
    rw[<-J7];exact[25,CG]
   obtain⟨b,hb⟩:∃b,[3,t.blocks,b]:=[183];have hz:=Ci hb;have X3:=[1450];refine⟨_,rfl,_,rfl,_,rfl,G,wa,_,lv,st,rfl,wk,[1194]⟩;have s4:=[80,xb];refine⟨G,wa,ba,nl,b,_,[],_,lv,st,rfl,EL.same s4,[1395],ag,[4],[1181],pO.gr X3 (by rw[0]),λH5 G5 P2=>[21,[53],[1182]]⟩;rw[0,rT _ _ _ _ _ hb,P2]
  ·rintro σ H' ⟨⟨v,rfl⟩,fr,wk⟩;rw[List.length_map,J7,List.take_length] at wk;exact q H' fr wk
end
end
section
theorem kJ(l:[23])(lv home st:Nat)(w:W) {i:Nat} {x:Bytes}(h:[3,l,x]):CN.aY (l.take (i+1)) lv home st w=(CN.aY [245] lv home st w).put [576]:=by
 unfold CN.aY;rw[80]
theorem AM(p m:Nat):hV (List.range' p (m+1))=hV (List.range' p m)++[[13,(p+m:Nat)]]:=by
 rw[List.range'_concat];show List.map _ _=_;rw[List.map_append,Nat.one_mul];rfl
section
variable {P:Program} {w:World} {K:PySem.W.Frag} {mg:[16]} {base:Heap} {c:Cs} {fB fU fV fS fW j7:Addr} {ja kM kN de jy:FuncData} {fa:[41]} {fm:[42]} {n k:Nat}
def QV(c:Cs)(n:Nat):Sp:=λvs H Q _=>∃(G:[18]) (wa a:Addr) (t:CN.T) (w:W) (lv st:Nat) (dx pl ul fl vl hl:Addr) (cK eK gN fM:[14]),vs=[12,wa,[10]]/\[86]/\gN.length+1<=w.cE.length/\[656]/\[989]/\[728]/\ox w (2+2*t.names.length+3*[333])/\[85,[1053]]
theorem B2:[4,["walk","node","span","block","numbers","name"],[528],I.fH]:=[11]
theorem sG {H:Hp}:∀ {as:[14]} {ns:[23]} {i:Nat} {a:Addr} {x:Bytes},[30,[954],ns]->([369])->[3,ns,x]->[29,[46,x]]
 |_,_,i,a,x,.nil,h,_=>[129]
 |_,_,0,a,x,.cons r _,h,h2=>by rw[71]
 |_,_,i+1,a,x,.cons _ q,h,h2=>sG (i:=i) q [247] [188]
theorem Tj(R:[49])(hk:3<=k)(GB:[1036]):aC P w K mg base fi (k+1) (fa I.fH) (fm I.fH) [528] (QV c n):=by
 have GA:[792]:=zG R;have Vq:[791]:=zI R;have GS:[1378]:=Zx R;refine R.function.F.ok B2 [20] [21]
 ·obtain⟨_,_,_,_,_,_,_,_,_,_,_,_,_,_,_,_,_,rfl,_⟩:=h;rfl
 obtain⟨G,wa,a,t,w,lv,st,dx,pl,ul,fl,vl,hl,cK,eK,gN,fM,rfl,d,hfas,ta,⟨b0,br,Hd⟩,IH,pO,q⟩:=h;have jx:=[23,1];rw[19];rw[22];obtain⟨tO,mO⟩:=R.Ow;obtain⟨tP,mP⟩:=R.Ox;refine[57,ae [14,B2.nd,gA R.S.M GS og rfl R.S.mC R.S.b .nil a6 [18,[372],[372]]] (ae (aF [78,[37],pv 2]) (ae [3,3,B2.nd,[1055]] (ae [739] (ae [3,4,B2.nd,bz af] (ae (bf (nE (O1 [77])) [67,pv 4,[328,[13,[23,4,mO],[77],pv 3]]] aO) (ae [10,[77],5,B2.nd,[67,pv 4,[328,[13,[23,5,mP],pv 5,pv 3]]]] (ae (aF (au GB hr rfl R.block.m R.block.F.kp R.block.b .nil a6 [446,pv 4])) (ae (kP (pv 0) aH SN) (ae (a9 (pv 2) [372] rfl) (ah (a9 (pv 2) [372] rfl)))))))))))];obtain⟨oW,Tb,Hz,MZ,nv,vv,hN,_,hB,x6,qk,gns,_⟩:=ta.inv;have gk:=d.gk;refine⟨_,rfl,wa,_,dx,_,_,rfl,d.wk,R.W.cl,[22],rfl,pl,_,rfl,[67,d.p],_,rfl,wa,_,dx,_,_,rfl,d.wk,R.W.cl,[22],rfl,ul,_,rfl,[67,d.u],λsp B3 vf hsdx gx=> ?_⟩;generalize ((cK.map V.ref).length:Int)=xy;generalize ((eK.map V.ref).length:Int)=xG;refine⟨sp,B3,xy,xG,rfl,ag,λH1 hsp1 k1=>[124]⟩;have s1:[294]:=aS.made vf hsdx k1;have d1:=d.same s1;have Qt:[6,[555],gN.length]:=[556];refine⟨_,rfl,wa,_,dx,_,_,rfl,d1.wk,R.W.cl,[22],rfl,[14,d1.f],_,rfl,fl,_,_,rfl,rfl,d1.f,by rw[Qt];exact iF (by rw[0,pO.v]),?_⟩;have d2:=d1.fn sp hfas;have xl:[71,[8,H1,fl,[555],sp]]:=[560].trans (jR d1.f d1.gz.2.2.1);have YW:[299,[8,H1,fl,[555],sp]]:=[108,d1.f,hsp1];refine⟨_,rfl,G,wa,w,lv,st,rfl,⟨dx,pl,ul,fl,vl,hl,cK,eK,_,fM,d2⟩,λH3 uu EL=> ?_⟩;obtain⟨P9,Vd,Vl,UI,Vn,vc,pas3,uas3,fas3,vas3,d3⟩:=EL;have YX:=uu.sp _ _ _ _ _ _ YW;refine⟨_,rfl,wa,_,P9,_,_,rfl,d3.wk,R.W.cl,[22],rfl,_,_,rfl,rfl,P9,_,d3.wk,(by rw[2,8]),?_⟩;have d4:=d3.fields (w':=w.block) (lv':=lv+1) (st':=st) rfl rfl rfl d3.h d3.nd d3.gz.2.2.2.2 d3.hb;have fr4:[120,_]:=(xl.trans uu).trans (kO d3 (o:= .ins c.WC P9 (ui Vd Vl UI Vn vc [2,w.block.met] [511] [140])));have YY:[299,[1070]]:=da d3.wk (f:="holding") rfl _ _ YX rfl;show[211,[1070]];have wk4:dr c G [1070] wa w.block (lv+1) st:=⟨P9,Vd,Vl,UI,Vn,vc,pas3,uas3,fas3,vas3,d4⟩;have gf4:=d4.gf;generalize upd H3 wa (.ins c.WC P9 (ui Vd Vl UI Vn vc (w.block.met:Int) ((lv+1:Nat):Int) (st:Int)))=H4 at fr4 YY wk4 gf4;clear d4 d3 YX d2 YW;rw[7,[33],λnl xb=> ?_];have RX:=gf4 nl xb;have s5:=[80,xb];have P2:dr c [166] [979] wa w.block (lv+1) st:=wk4.more xb;have N4:[30,[979],nl,hV [86,0]]:=ag;have G5:[71,[979]]:=fr4.trans (Fr.same s5);have SH:=s5 _ _ YY;generalize upd H4 nl (.lst [])=H5 at P2 N4 G5 SH;have hN5:=G5.ch.nd _ _ _ _ _ _ _ _ _ hN;cases Hj:t.name with
  |none=>
   rw[Hj] at x6;obtain rfl:nv= .cg:=x6;refine[510,[55]];have NH:=G5;have Ky:=SH;have Uq:=P2;have Hk:=N4;obtain⟨w1,SM⟩:∃w1,w1=[829]:=[53];have e1:w1=w.block:=by
    rw[SM,Hj];rfl
   rw[<-e1] at Uq;obtain⟨m6,Km⟩:∃m6,m6=0:=[53];have hm6:[1330]:=by
    rw[e1,Km];rfl
   have Ss:m6<=1+0:=[2];rw[<-Km] at Hk;generalize H5=H6 at NH Ky Uq Hk;obtain⟨zE,Ks,DE⟩:=id qk;have R4:=NH.ch.nd _ _ _ _ _ _ _ _ _ hN;refine⟨_,rfl,a,_,oW,_,_,rfl,R4,R.N.cl,R.N.n5,tK _ _ _ _ _ _ _,MZ,rfl,[73,[1368].1],gS (K:=K) (a:=MZ) (xs:=[554]) (λi σ H'=>[133,[1445]]/\[201]/\H' sp=some [219,[505]]/\[1466]) [1467] (λi σ H' _ z=>[115,Ks,gk _ gns]) ?_ ?_⟩
   ·rw[21,[70,zE],(by rw[List.getElem?_map] at hi;cases e:zE[i]? with
     |none=>rw[7]
     |some z=>rw[10])];have hlen:zE.length=t.names.length:=[821];have mK:i<t.names.length:=by rw[29,AU]
    obtain⟨x,hx⟩:∃x,[3,t.names,x]:=[183];have htx:[5,nb,[46,x]]:=sG DE AU hx;refine⟨_,rfl,[14,Kq],_,rfl,_,rfl,_,rfl,_,rfl,[166],wa,nb,[10],.param,x,w.met,_,lv+1,st,rfl,wki,fr.ch.tp _ _ htx,by rw[hm];rw[0,pO.p],λH7 Dk P4=> ?_⟩;have ve:=(Dk.ch.ls _ _ Kq [267]).1;have DG:=Dk.sp _ _ _ _ _ _ SJ;have hl7:[6,hV [86,m],m]:=[1128];refine[2,nl,_,_,rfl,ve,(by rw[hl7];exact iF (by rw[0,pO.p])),?_];obtain⟨Ur,NJ⟩:=[1369];refine[1458]
    ·rw[[801]];show[42,_,_]=_;rw[List.length_append,hm];rw[0]
    ·rw[ag,AM,<-hm]
    ·rw[0,[801],Ur]
   ·rw[120];rw[List.length_map,hlen,List.take_length] at hm P4;rw[List.length_map,hlen] at DC;have hN7:=[1481];have X6:=hB.ch [110,Dk.ch];rw[114];obtain⟨ba,CG⟩:∃ba,[2,om,0,ba]:=[115,(by rw[J7];simp)];have Yh:=[1018];have hz:eY b0<=[333]:=by
     rw[Hd,iN];omega
    have X4:=[29,CN.jY w,CN.Du t.name (lv+1) w.met st w.block,[1427]];rw[<-SM] at X4;refine⟨_,rfl,_,rfl,a,_,oW,_,_,rfl,hN7,R.N.cl,R.N.n3,[648],Hz,_,0,V.ref ba,rfl,rfl,bP.of J4,at_of (j:=0) rfl (by rw[92]),_,rfl,_,rfl,[166],wa,ba,nl,b0,w.met,[86,m],_,lv+1,st,rfl,P4,Yh,ve,λk hk=>by rw[hm];rw[0,[1129]],λp hp=>IH b0 (by rw[Hd];simp) p hp,pO.gr X4 (by rw[79]),λH8 NJ Ur=> ?_⟩;have Ut:=Ur.less gk;obtain⟨uX,BM,Cu,Di,EJ,CH,Ec,My,RI,Ul,d8⟩:=Ut;have SI:=NJ.sp _ _ _ _ _ _ DG;have RQ:=Dk.trans NJ.less;refine⟨_,rfl,wa,_,uX,_,_,rfl,d8.wk,R.W.cl,[22],rfl,_,_,rfl,rfl,uX,_,d8.wk,(by rw[2,8]),?_⟩;have d9:=[1482];have elv:([511] -1)=[179]:=[2];have Rz:[1340]:=λz e=>[300];show[211,[1473]];rw[Rz _ elv];have NL:[71,[530]]:=RQ.trans (kO d8);have sq:[299,[530]]:=[1252];generalize upd H8 wa (.ins c.WC uX (ui BM Cu Di EJ CH ((bI (wN n) b0 w.met (lv+1) st (List.range' w.places.length m) (CN.aY t.names (lv+1) w.met st w1)).met:Int) (lv:Int) (st:Int)))=H9 at d9 NL sq;refine⟨_,rfl,wa,_,uX,_,_,rfl,d9.wk,R.W.cl,[22],rfl,BM,_,rfl,[67,d9.p],_,rfl,sp,_,B3,_,rfl,sq,R.S.cl,[310],(by rw[2,4]),?_⟩;have dA:=[1399];refine⟨_,rfl,wa,_,uX,_,_,rfl,dA.wk,R.W.cl,[22],rfl,Cu,_,rfl,[67,dA.u],_,rfl,sp,_,B3,_,rfl,ag,R.S.cl,[310],(by rw[2,4]),?_⟩;have dB:=dA.span (o:=[1451]) ag rfl;refine q _ [162,[1229],[1370]] ?_
    ·have Ko:b≠sp:=λz=>by
      rw[z,vf] at hb;cases hb
     rw[aj Ko,aj Ko];exact NL.sp _ _ _ _ _ _ hb
    ·have e:[1053]=[496]:=by
      unfold Gi;rw[Hd,<-SM];show[1457]=_;rw[hm,Nat.add_sub_cancel_left]
     rw[e];exact⟨uX,BM,Cu,Di,EJ,CH,Ec,My,RI,Ul,dB⟩
  |some x=>
   rw[Hj] at x6;obtain⟨nb,rfl,AU⟩:=x6;rw[1,[510,bY ?_],⟨_,rfl,[14,N4],_,rfl,_,rfl,_,rfl,a,_,oW,_,_,rfl,hN5,R.N.cl,R.N.n4,[421],_,rfl,[166],wa,nb,[10],.own,x,w.met,w.block,lv+1,st,rfl,P2,G5.ch.tp _ _ AU,by show w.places.length<=9000;rw[0,pO.p],λH6 RP wk6a=> ?_⟩];have Kp:=(RP.ch.ls _ _ N4 [267]).1;have YZ:=RP.sp _ _ _ _ _ _ SH;refine[2,nl,_,_,rfl,Kp,(by show 0<sizeLine;decide),?_];obtain⟨Uq,fr6b⟩:=wk6a.wr (ys:=[1084]) Kp RX gk;have NH:[120,_]:=(G5.trans RP.less).trans fr6b;have Ky:([1002]) sp=_:=[108,Kp,YZ];obtain⟨m6,Km⟩:∃m6,m6=1:=[53];have Hk:[30,[1002],nl,hV [86,m6]]:=by
    rw[ag,Km];rfl
   obtain⟨w1,SM⟩:∃w1,w1=[829]:=[53];have e1:w1=w.block.put ⟨.own,x,lv+1,w.met,st⟩:=by
    rw[SM,Hj];rfl
   rw[<-e1] at Uq;have hm6:[1330]:=by
    rw[e1,Km];show[42,w.places,_]=_;simp
   have Ss:m6<=1+0:=[2];show[211,[1002]];generalize upd H6 nl (.lst (hV (List.range' w.places.length 0)++[V.int (w.block.places.length:Int)]))=H6c at NH Ky Uq Hk;obtain⟨zE,Ks,DE⟩:=id qk;have R4:=NH.ch.nd _ _ _ _ _ _ _ _ _ hN;refine⟨_,rfl,a,_,oW,_,_,rfl,R4,R.N.cl,R.N.n5,tK _ _ _ _ _ _ _,MZ,rfl,[73,[1368].1],gS (K:=K) (a:=MZ) (xs:=[554]) (λi σ H'=>[133,[1445]]/\[201]/\H' sp=some [219,[505]]/\[1466]) [1467] (λi σ H' _ z=>[115,Ks,gk _ gns]) ?_ ?_⟩
   ·rw[21,[70,zE],(by rw[List.getElem?_map] at hi;cases e:zE[i]? with
     |none=>rw[7]
     |some z=>rw[10])];have hlen:zE.length=t.names.length:=[821];have mK:i<t.names.length:=by rw[29,AU]
    obtain⟨x,hx⟩:∃x,[3,t.names,x]:=[183];have htx:[5,nb,[46,x]]:=sG DE AU hx;refine⟨_,rfl,[14,Kq],_,rfl,_,rfl,_,rfl,_,rfl,[166],wa,nb,[10],.param,x,w.met,_,lv+1,st,rfl,wki,fr.ch.tp _ _ htx,by rw[hm];rw[0,pO.p],λH7 Dk P4=> ?_⟩;have ve:=(Dk.ch.ls _ _ Kq [267]).1;have DG:=Dk.sp _ _ _ _ _ _ SJ;have hl7:[6,hV [86,m],m]:=[1128];refine[2,nl,_,_,rfl,ve,(by rw[hl7];exact iF (by rw[0,pO.p])),?_];obtain⟨Ur,NJ⟩:=[1369];refine[1458]
    ·rw[[801]];show[42,_,_]=_;rw[List.length_append,hm];rw[0]
    ·rw[ag,AM,<-hm]
    ·rw[0,[801],Ur]
   ·rw[120];rw[List.length_map,hlen,List.take_length] at hm P4;rw[List.length_map,hlen] at DC;have hN7:=[1481];have X6:=hB.ch [110,Dk.ch];rw[114];obtain⟨ba,CG⟩:∃ba,[2,om,0,ba]:=[115,(by rw[J7];simp)];have Yh:=[1018];have hz:eY b0<=[333]:=by
     rw[Hd,iN];omega
    have X4:=[29,CN.jY w,CN.Du t.name (lv+1) w.met st w.block,[1427]];rw[<-SM] at X4;refine⟨_,rfl,_,rfl,a,_,oW,_,_,rfl,hN7,R.N.cl,R.N.n3,[648],Hz,_,0,V.ref ba,rfl,rfl,bP.of J4,at_of (j:=0) rfl (by rw[92]),_,rfl,_,rfl,[166],wa,ba,nl,b0,w.met,[86,m],_,lv+1,st,rfl,P4,Yh,ve,λk hk=>by rw[hm];rw[0,[1129]],λp hp=>IH b0 (by rw[Hd];simp) p hp,pO.gr X4 (by rw[79]),λH8 NJ Ur=> ?_⟩;have Ut:=Ur.less gk;obtain⟨uX,BM,Cu,Di,EJ,CH,Ec,My,RI,Ul,d8⟩:=Ut;have SI:=NJ.sp _ _ _ _ _ _ DG;have RQ:=Dk.trans NJ.less;refine⟨_,rfl,wa,_,uX,_,_,rfl,d8.wk,R.W.cl,[22],rfl,_,_,rfl,rfl,uX,_,d8.wk,(by rw[2,8]),?_⟩;have d9:=[1482];have elv:([511] -1)=[179]:=[2];have Rz:[1340]:=λz e=>[300];show[211,[1473]];rw[Rz _ elv];have NL:[71,[530]]:=RQ.trans (kO d8);have sq:[299,[530]]:=[1252];generalize upd H8 wa (.ins c.WC uX (ui BM Cu Di EJ CH ((bI (wN n) b0 w.met (lv+1) st (List.range' w.places.length m) (CN.aY t.names (lv+1) w.met st w1)).met:Int) (lv:Int) (st:Int)))=H9 at d9 NL sq;refine⟨_,rfl,wa,_,uX,_,_,rfl,d9.wk,R.W.cl,[22],rfl,BM,_,rfl,[67,d9.p],_,rfl,sp,_,B3,_,rfl,sq,R.S.cl,[310],(by rw[2,4]),?_⟩;have dA:=[1399];refine⟨_,rfl,wa,_,uX,_,_,rfl,dA.wk,R.W.cl,[22],rfl,Cu,_,rfl,[67,dA.u],_,rfl,sp,_,B3,_,rfl,ag,R.S.cl,[310],(by rw[2,4]),?_⟩;have dB:=dA.span (o:=[1451]) ag rfl;refine q _ [162,[1229],[1370]] ?_
    ·have Ko:b≠sp:=λz=>by
      rw[z,vf] at hb;cases hb
     rw[aj Ko,aj Ko];exact NL.sp _ _ _ _ _ _ hb
    ·have e:[1053]=[496]:=by
      unfold Gi;rw[Hd,<-SM];show[1457]=_;rw[hm,Nat.add_sub_cancel_left]
     rw[e];exact⟨uX,BM,Cu,Di,EJ,CH,Ec,My,RI,Ul,dB⟩
end
end
section
section
variable {P:Program} {w:World} {K:PySem.W.Frag} {mg:[16]} {base:Heap} {c:Cs} {fB fU fV fS fW j7:Addr} {ja kM kN de jy:FuncData} {fa:[41]} {fm:[42]} {n k:Nat}
theorem scWN:[4,[228],[228],I.gi]:=[11]
theorem Ln(R:[49])(hk:3<=k)(GM:[33,I.ig,I.ig,aan c n])(GF:[33,I.lE,I.lE,Mc c n]) (GFn:aC P w K mg base fi k (fa I.fH) (fm I.fH) [528] (QV c n))(GO:[33,I.i4,I.i4,aao c n]):[36,I.gi,I.gi,Md c (n+1)]:=by
 have GV:[1380]:=Zz R;refine R.node.F.ok scWN [20] [21]
 ·rw[49]
 obtain⟨G,wa,a,t,home,w,lv,st,rfl,⟨dx,pl,ul,fl,vl,hl,cK,eK,gN,fM,d⟩,ta,⟨c1,c2,hwp,IH⟩,pO,q⟩:=h;rw[19];rw[21];refine[34,aF [78,[37],gA R.V.M GV og rfl R.V.mC R.V.b .nil a6 [13,pv 1,[37],[37]]],ah (bf (nE (zN hu [77] [80,j7,R.mMk])) (ah (aF (au GM hr rfl R.making.m R.making.F.kp R.making.b .nil a6 [518]))) (ah (bf [174,[77]] (ah (aF (au GF hr rfl R.iT.m R.iT.F.kp R.iT.b .nil a6 [518]))) (ah (bf [174,[77]] (ah (aF (au GFn hr rfl R.function.m R.function.F.kp R.function.b .nil a6 [302]))) (ah (aF (au GO hr rfl R.other.m R.other.F.kp R.other.b .nil a6 [518]))))))))];obtain⟨oW,Tb,Hz,MZ,nv,vv,hN,_,_,_,_,_,_⟩:=ta.inv;have gk:=d.gk;have hsz:[1045]:=CN.sz_t (CN.nX 0) t;rw[1,⟨_,rfl,wa,_,dx,_,_,rfl,d.wk,R.W.cl,[22],rfl,[14,d.v],_,rfl,_,rfl,wa,_,dx,_,_,rfl,d.wk,R.W.cl,[22],rfl,_,rfl,wa,_,dx,_,_,rfl,d.wk,R.W.cl,[22],rfl,[557]⟩,⟨x,xc,[10],[179],[140],rfl,ag,λH1 MX k1=>[124]⟩];have s1:[294]:=aS.made hx sr k1;have d1:=d.same s1;have U5:fM.length=w.cE.length:=Paired.length d.vp;refine[2,vl,_,_,rfl,d1.v,(by rw[List.length_map,U5];exact iF (by rw[0,pO.v])),?_];have d2:=d1.lG (v:=[38,t]) ⟨xc,a,MX,ta.sm s1⟩;have xl:[71,[8,H1,vl,[438],x]]:=[560].trans (jR d1.v d1.gz.2.2.2.1);have Ah:=ta.ch [110,xl.ch];have Qr:=xl.ch.nd _ _ _ _ _ _ _ _ _ hN;have g1:=CN.J2 w [38,t];have Qt:=d.Dj;generalize upd H1 vl (.lst (fM.map V.ref++[V.ref x]))=H2 at d2 xl Ah Qr;have Ai:dr c G H2 wa [73] lv st:=⟨dx,pl,ul,fl,vl,hl,cK,eK,gN,_,d2⟩;have q:[85,[797]]:=q;unfold jA at q;refine⟨_,rfl,a,_,oW,_,_,rfl,Qr,R.N.cl,R.N.n1,[650],j7,_,rfl,[463,rfl],_,rfl,?_⟩;rw[mk_val,Option.isSome_map];cases DD:CN.iq t.kind with
  |some kd=>
   rw[DD] at q;refine bY ⟨_,rfl,_,rfl,_,rfl,G,wa,a,t,kd,home,_,lv,st,rfl,Ai,Ah,DD,c1 (.inl (by rw[DD];rfl)),hwp,[714],[788]⟩
  |none=>
   rw[DD] at q;have q:[85,[4,t.kind,.iJ,wU (wN n) t home lv st [73],[4,t.kind,.qK,Gi (wN n) t lv st [73],lD (wN n) t home lv st [73]]]]:=q;refine bg [81,oW,Qr];have ef:[2,[178],V.str "for"]=[216,.iJ]:=oM _ .iJ;rw[ef];by_cases hf:t.kind= .iJ
   ·rw[[41,[216,.iJ],hf]];simp only[if_pos hf] at q;exact bY ⟨_,rfl,_,rfl,_,rfl,G,wa,a,t,home,_,lv,st,rfl,Ai,Ah,c1 (.inr (.inl hf)),c2 (.inl hf),hwp,IH,[714],[788]⟩
   ·rw[[20,t.kind,.iJ,hf]];simp only[if_neg hf] at q;refine bg [81,oW,Qr];have ef2:[2,[178],V.str "fn"]=[216,.qK]:=oM _ .qK;rw[ef2];by_cases N0:t.kind= .qK
    ·rw[[41,[216,.qK],N0]];simp only[if_pos N0] at q;exact bY ⟨_,rfl,_,rfl,G,wa,a,t,_,lv,st,dx,pl,ul,fl,vl,hl,cK,eK,gN,_,rfl,d2,(by show _<=[42,w.cE,_];rw[0]),Ah,c2 (.inr N0),IH,[714],[788]⟩
    ·rw[[20,t.kind,.qK,N0]];simp only[if_neg N0] at q;exact bg ⟨_,rfl,_,rfl,_,rfl,G,wa,a,t,home,_,lv,st,rfl,Ai,Ah,λz=>c1 (.inr (.inr z)),hwp,IH,[714],[788]⟩
theorem CA(R:[49]):∀n,aC P w K mg base fi (3*n+5) (fa I.gi) (fm I.gi) [228] (Md c n)
 |0=>AI λvs H Q E h=>by
  obtain⟨_,_,_,_,_,_,_,_,_,_,_,z,_⟩:=h;exact z
 |n+1=>by
  have G0:=CA R n;have GP:=Lj R G0;have GB:=HX R G0;exact Ln R [2] (HM R [2] GP) (OW R [2] GP GB) (Tj R [2] GB) (Li R [2] GP GB)
end
end
end CP
end
section
namespace CP
open PySem PySem.Spec PyProof.Rows L2
open Vanbka (Bytes)
open CN (Kd W Pl Us Vi wN bh bI fh pq wU Gi lD jA WF eY iN eL)
section
theorem WT {ι:Type} {P:Program} {w:World} {K:PySem.W.Frag} {mg:[16]} {base:Heap} {CX:CD} {k:Nat} {f:Addr} {fd:FuncData} {ps:[19]} {sp:ι->Sp}(h:∀i,[497,sp i]):[497,λvs H Q E=>∃i,sp i vs H Q E]:=⟨λvs H Q E ⟨i,z⟩=>(h i).len vs H Q E z,λA outer s H args us vs Q E hr e hb r ⟨i,z⟩=>(h i).run A outer s H args us vs Q E hr e hb r z⟩
theorem wV(n:Nat):∀(l:[29]) (st:Nat) (w:W) (i:Nat) (t:CN.T),[3,l,t]->eL n st (l.take (i+1)) w=wN n t 0 0 (st+i) (eL n st [245] w)
 | [],_,_,i,_,h=>[129]
 |x::r,st,w,0,t,h=>by
  simp at h;subst h;rfl
 |x::r,st,w,i+1,t,h=>by
  show eL n (st+1) (r.take (i+1)) _=wN n t 0 0 (st+(i+1)) (eL n (st+1) (r.take i) _);rw[wV n r (st+1) _ i t [247],[11,st+1+i,st+(i+1),[2]]]
theorem zp(n:Nat):∀(l:[29]) (st:Nat) (w:W),CN.Gr w (eL n st l w) (3*eY l)
 | [],_,w=>CN.Gr.refl w
 |t::r,st,w=>((CN.nX n t 0 0 st w).trans (zp n r (st+1) _)).mono (by rw[eY];omega)
section
variable {P:Program} {w:World} {K:PySem.W.Frag} {mg:[16]} {base:Heap} {c:Cs} {fB fU fV fS fW j7:Addr} {ja kM kN de jy:FuncData} {fa:[41]} {fm:[42]} {n k:Nat}
def aal(WC:Addr):Sp:=λvs H Q _=>∃(x dx:Addr),vs=[[54]]/\H x=some [104,WC]/\∀(H':Hp) (pl ul fl vl hl:Addr),[8,x,[9,WC,ui pl ul fl vl hl 1 0 0]]->[377,H b=none/\[8,b,[106]]]->[pl,ul,fl,vl,hl].Nodup->([402])->[199]
theorem scWI:[25,["self"],["self"],I.Walk]:=[11]
theorem oX {H0 H:Hp} {x dx C l:Addr} {fs fs':List (Str×V)} {L:List Addr}(hx:H x=some (.ins C dx fs))(k:aE x H0 H)(hL:∀b∈L,H0 b=none/\H b=some (.lst []))(hN:L.Nodup)(hl:H l=none):
 let H':=upd (upd H l (.lst [])) x (.ins C dx fs')
 H' x=some (.ins C dx fs')/\aE x H0 H'/\(∀b∈L++[l],H0 b=none/\H' b=some (.lst []))/\(L++[l]).Nodup/\(upd H l (.lst [])) x=some (.ins C dx fs):=by
 have U6:x≠l:=aq hx hl;have s1:=aB (o:= .lst []) hl;refine⟨ag,k.trans ((aE.same s1).trans iK),λb hb=> ?_,?_,s1 _ _ hx⟩
 ·rcases List.mem_append.mp hb with hb|hb
  ·have Yo:b≠x:=dw (hL b hb).2 hx (λz=>nomatch z);exact⟨(hL b hb).1,by rw[aj Yo];exact s1 _ _ (hL b hb).2⟩
  ·rw[List.mem_singleton.mp hb];exact⟨lT k hx hl,by rw[aj (Ne.symm U6),ag]⟩
 ·rw[List.nodup_append];exact⟨hN,by simp,λa ha b hb z=>by rw[List.mem_singleton.mp hb] at z;have:=(hL a ha).2;rw[z,hl] at this;cases this⟩
theorem ZA(R:[49]):[1377]:=by
 refine R.W.F.ok scWI [20] [21]
 ·rw[32]
 obtain⟨x,dx,rfl,hx,q⟩:=h;rw[1,[34,[571],ae [571] (ae [571] (ae [571] (ae [571] (ae [638] (ae [638] (ah [638]))))))],[579]];obtain⟨x1,k1,l1,n1,y1⟩:=oX (fs':=[813]) (L:=[]) hx (aE.refl x H) [4] [4] bQ;refine⟨_,rfl,x,_,dx,_,rfl,y1,R.W.cl,[22],(by rw[2,0]),?_⟩;generalize upd (upd H pl (.lst [])) x (.ins c.WC dx (aL "places" (.ref pl) []))=H1 at x1 k1 l1;rw[7,[33],λul N8=> ?_];obtain⟨x2,k2,l2,n2,y2⟩:=oX (fs':=aL "uses" (.ref ul) [813]) x1 k1 l1 n1 N8;refine⟨_,rfl,x,_,dx,_,rfl,y2,R.W.cl,[22],(by rw[2,1]),?_⟩;generalize upd (upd H1 ul (.lst [])) x (.ins c.WC dx (aL "uses" (.ref ul) (aL "places" (.ref pl) [])))=H2 at x2 k2 l2;rw[7,[33],λfl Qt=> ?_];obtain⟨x3,k3,l3,n3,y3⟩:=oX (fs':=[830]) x2 k2 l2 n2 Qt;refine⟨_,rfl,x,_,dx,_,rfl,y3,R.W.cl,[22],(by rw[2,2]),?_⟩;generalize upd (upd H2 fl (.lst [])) x (.ins c.WC dx (aL "functions" (.ref fl) (aL "uses" (.ref ul) (aL "places" (.ref pl) []))))=H3 at x3 k3 l3;rw[7,[33],λvl U5=> ?_];obtain⟨x4,k4,l4,n4,y4⟩:=oX (fs':=aL "visits" (.ref vl) [830]) x3 k3 l3 n3 U5;refine⟨_,rfl,x,_,dx,_,rfl,y4,R.W.cl,[22],(by rw[2,3]),?_⟩;generalize upd (upd H3 vl (.lst [])) x (.ins c.WC dx (aL "visits" (.ref vl) (aL "functions" (.ref fl) (aL "uses" (.ref ul) (aL "places" (.ref pl) [])))))=H4 at x4 k4 l4;rw[7,[33],λhl hhl=> ?_];obtain⟨x5,k5,l5,n5,y5⟩:=oX (fs':=[1429]) x4 k4 l4 n4 hhl;refine⟨_,rfl,x,_,dx,_,rfl,y5,R.W.cl,[22],(by rw[2,4]),?_⟩;generalize upd (upd H4 hl (.lst [])) x (.ins c.WC dx (aL "holding" (.ref hl) (aL "visits" (.ref vl) (aL "functions" (.ref fl) (aL "uses" (.ref ul) (aL "places" (.ref pl) []))))))=H5 at x5 k5 l5;rw[1,⟨_,rfl,x,_,dx,_,rfl,x5,R.W.cl,[22],(by rw[2,5]),?_⟩,⟨_,rfl,x,_,dx,_,rfl,ag,R.W.cl,[22],(by rw[2,6]),?_⟩,⟨_,rfl,x,_,dx,_,rfl,ag,R.W.cl,[22],(by rw[2,7]),?_⟩,q _ pl ul fl vl hl ag (λb hb=>[30,(l5 b [96]).1]) (by simpa using n5) (λb o e hb=>by rw[[28],[28],[28]];exact k5 b o e hb)];have so:=(l5 b [96]).2;have Yo:b≠x:=[13,so,x5];rw[aj Yo,aj Yo,aj Yo];exact so
def QW(c:Cs)(n:Nat):Sp:=λvs H Q _=>∃(l:Addr) (ts:[29]),vs=[[40]]/\bM c.NC c.TG H l ts/\(∀b,c.TG b->H b≠none)/\(∀t∈ts,WF n t)/\3*eY ts<=9000/\∀(H':Hp) (wa:Addr) (st:Nat) (G:[18]),Ch c.NC c.TG c.TG H H'->([1219])->dr c G H' wa (eL n 0 ts W.start) 0 st->Q [163] H'
theorem F0:[4,["statements","walk","number","node"],["statements"],I.cY]:=[11]
theorem Lo(R:[49])(dP:[1288]):aC P w K mg base fi (3*n+6) (fa I.cY) (fm I.cY) ["statements"] (QW c n):=by
 have GN:=CA (base:=base) R n;have GW:[1377]:=ZA R;refine dP.F.ok F0 [20] [21]
 ·rw[32]
 obtain⟨l,ts,rfl,⟨as,hL,gl,hlen,hT⟩,htg,Ft,hsz,q⟩:=h;rw[19];obtain⟨tO,mO⟩:=R.Ov;refine[57,[23,[16,F0.nd,Ls R.W.M GW og rfl R.W.mC R.W.b .nil a6],j9 PassesOwn.never rfl (O5 rfl R.men [137]) (Ts rfl (BK [91,2,F0.nd] (BK [91,3,F0.nd] O4))) (ae (a9 (pv 1) (pv 2) rfl) [413,[13,pv 1,pv 3,[23,0,mO]]]),pv 1]];intro x dx hx Dz gx;refine⟨x,dx,rfl,ag,λH1 pl ul fl vl hl MX UW xa k1=>[124]⟩;have s1:[294]:=[236,k1];have Zr:[377,[75]]:=λb hb=>by
  have h1:=(UW b hb).1;cases z:H b with
   |none=>rfl
   |some o=>
    rw[aj (aq z hx),aj (aq z Dz),z] at h1;cases h1
 have gf1:∀b,H1 b=none->¬(H b≠none):=λb e z=>by cases y:H b with
  |none=>exact z y
  |some o=>rw[22,[35,y]]
 have d1:lZ c [462] H1 x W.start 0 0 dx pl ul fl vl hl [] [] [] []:=⟨MX,[639],[639],[639],[639],[639],xa,(λb hb z=>z (Zr b hb)),List.nodup_nil,rfl,(λi a p e=>[410]),.nil,.nil,[8],(λu hu=>nomatch hu),(λk hk=>nomatch hk),gf1,htg⟩;have fr0:Fr c [462] x H H1:=[560];refine⟨_,rfl,l,_,rfl,bP.of [35,hL],JG (K:=K) (a:=l) (xs:=[70]) (λi σ H'=>(∃v2 v3:[71],σ=[[4,l],[4,x],v2,v3])/\Fr c [462] x H H'/\∃st,dr c [462] H' x [706] 0 st) ⟨[917],fr0,0,dx,pl,ul,fl,vl,hl,[],[],[],[],d1⟩ (λi σ H' _ z=>[115,hL,(by rw[hL];simp)]) ?_ ?_⟩
 ·rintro i y σ H' T hi ⟨⟨v2,v3,rfl⟩,fr,st,wk⟩ hTn;obtain⟨a,ha,rfl⟩:∃a,[70,as]:=by
   rw[List.getElem?_map] at hi;cases e:as[i]? with
    |none=>rw[7]
    |some z=>rw[10]
  have mK:i<ts.length:=by rw[29,ha]
  rw[70];have hz:=CN.Cj ht;have s2:=aB (o:= .tup [[6,i],[104]]) hTn;have Ai:=wk.same s2;refine⟨T,[[6,i],[104]],rfl,kT.of ag,rfl,_,_,rfl,_,_,rfl,rfl,?_⟩;obtain⟨IB,Vc,Vk,UH,Vm,Hi,Lq,Mx,JA,MC,d2⟩:=Ai;have d3:=d2.fields (w':=[706]) (lv':=0) (st':=i) rfl rfl rfl d2.h d2.nd d2.gz.2.2.2.2 d2.hb;have uu:Fr c [462] x H _:=(fr.trans (Fr.same s2)).trans (kO d2 (o:= .ins c.WC IB (ui Vc Vk UH Vm Hi [2,[706].met] [11,0] [2,i])));rw[1,[2,_,rfl,x,_,IB,_,rfl,d2.wk,R.W.cl,[22],(by rw[2,8]),?_],⟨_,rfl,_,rfl,[462],x,a,t,0,[706],0,i,rfl,⟨IB,Vc,Vk,UH,Vm,Hi,Lq,Mx,JA,MC,d3⟩,[985].ch (Ch.sub htg uu.ch),Ft t [864],?_,λH4 fr4 wk4=>[15,[36,_],uu.trans fr4,i]⟩]
  ·have g:=zp n [510] 0 W.start;have hp:=g.p;have hu:=g.u;have hv:=g.v;have hh:=g.h;have z1:[1132]:=rfl;have z2:W.start.uses.length=0:=rfl;have z3:W.start.cE.length=0:=rfl;have z4:W.start.holding.length=0:=rfl;rw[0,[2],[2],[2],[2]]
  ·rw[wV n ts 0 W.start i t ht,Nat.zero_add];exact wk4
 ·rintro σ H' ⟨⟨v2,v3,rfl⟩,fr,st,wk⟩;rw[List.length_map,hlen,List.take_length] at wk;rw[6,q H' x st _ (Ch.sub htg fr.ch) (λb xs e=>(fr.ch.ls _ _ e (by rw[e];simp)).1) wk]
end
end
end CP
end
section
namespace CP
open PySem PySem.Spec PyProof.Rows L2
open Vanbka (Bytes)
open CN (Kd W Pl Us Vi)
section
structure Sd(K:PySem.W.Frag)(mg:Str->Option Value)(fa:Nat->Addr)(fm:Nat->FuncData):Prop where
 mLet:∃t,mg "LET"=some (.int 0 t)
 mSl:∃t,mg "SLIDER"=some (.int 1 t)
 mCh:∃t,mg "CHOICE"=some (.int 2 t)
 zy:D K mg fa fm "within_limits" I.fJ ["numbers"]
 may:D K mg fa fm "may_be_set" I.iW ["use","places"]
 Ad:D K mg fa fm "use_pairs" I.i8 ["uses","places"]
theorem inI(k:Int)(ks:[26]):ya (.int k) (ks.map V.int)=decide (k∈ks):=by induction ks with
 |nil=>rfl
 |cons a r ih=>
  show((a==k)||ya (.int k) (r.map V.int))=_;rw[ih,Bool.eq_iff_iff,Bool.or_eq_true,beq_iff_eq,decide_eq_true_eq,decide_eq_true_eq,List.mem_cons];rw[3,λz=>[1278],λz=>[1278]]
section
variable {P:Program} {w:World} {K:PySem.W.Frag} {mg:[16]} {base:Heap} {c:Cs} {fB fU fV fS fW j7:Addr} {ja kM kN de jy:FuncData} {fa:[41]} {fm:[42]} {n k:Nat}
def aam:Sp:=λvs H Q _=>∃(b:Addr) (v lo hi:Int),vs=[[25]]/\H b=some (.tup [.int v,.int lo,.int hi])/\[81,[587]]
theorem scWL:[4,["numbers"],["numbers"],I.fJ]:=[11]
theorem HK(S:[491]):[1484]:=by
 refine S.zy.F.ok scWL [20] [21]
 ·rw[15]
 obtain⟨b,v,lo,hi,rfl,hb,q⟩:=h;rw[10,[17,o1 oh oh [901] [901] [901]],⟨_,rfl,b,_,1,.int lo,rfl,rfl,kT.of hb,[203,1],_,rfl,b,_,0,.int v,rfl,rfl,kT.of hb,[203,0],_,_,rfl,rfl,_,rfl,?_⟩];by_cases h1:lo<=v
 ·rw[8,[41,[10,lo,v],h1],bY ⟨_,rfl,b,_,2,.int hi,rfl,rfl,kT.of hb,[203,2],_,_,rfl,rfl,?_⟩];have e:[587]=[10,v,hi]:=[122,λz=>z.2,λz=>⟨h1,z⟩];rw[12]
 ·rw[[134,[10,lo,v],h1]];have e:[8,[587]]:=decide_eq_false λz=>h1 z.1;rw[e] at q;exact bg q
def aab(c:Cs):Sp:=λvs H Q _=>∃(ua pl:Addr) (u:Us) (ps:[36]) (us:[442]) (cK:[14]),vs=[12,ua,.ref pl]/\oy c.UC H ua u/\[483,(∀(i:Nat) (a:Addr) (p:Pl),[3,cK,a]->([600])->CY c.BC H a p (us i))/\[394,k<ps.length]/\[246,.bl [621]]]
theorem ZX:[4,["use","places","place"],["use","places"],I.iW]:=[11]
theorem Oj(k:Vanbkc.Kind):[63,[721],[[2,1],2,4]]=(k== .slider||k== .choice||k== .own):=[702]
theorem Tg(R:[49])(S:[491]):[1397]:=by
 rw[115];obtain⟨t4,m4⟩:=R.Ow;obtain⟨tF,mF⟩:=R.Bj;refine S.may.F.ok ZX [20] [21]
 ·rw[48]
 obtain⟨ua,pl,u,ps,us,cK,rfl,⟨Vj,und,ub,hU,hUb⟩,hL,hlen,hp,hb,q⟩:=h;rw[1,[57,[23,bf [14,eV,[37],[292,mF]] (ah (aG FN)) aO,[14,ZX.nd,eW cI (pv 1) [37] [157]],Tr (rh zL [358] (fk [13,[23,1,m1],[23,2,m2],[23,4,m4]]) rfl) (zP (rh eV [358] [37] (aZ _)))]],⟨_,rfl,ua,_,Vj,_,_,rfl,hU,R.U.cl,[197],rfl,rfl,_,rfl,?_⟩];cases Yl:u.bound with
  |none=>
   refine bY ?_;have q:=q H [251];have e:[8,[621]]:=by
    unfold CN.fj;rw[Yl]
   rw[12]
  |some k=>
   have hk:=hb k Yl;obtain⟨p,U1⟩:∃p,[2,ps,k,p]:=[76,hk];obtain⟨a,UP⟩:∃a,[2,cK,k,a]:=[115,(by rw[hlen];exact hk)];obtain⟨FL,O6,pb,h1,h2⟩:=hp k a p UP U1;have gx:¬([747]=V.int (-1)):=λz=>by
    have z:=[290];have:[11,k]= -1:=z;omega
   rw[[20,[747],V.int (-1),gx]];rw[1,bg ⟨_,rfl,_,rfl,ua,_,Vj,_,_,rfl,hU,R.U.cl,[197],rfl,pl,_,_,[104],rfl,rfl,[374],at_of (j:=k) (by rw[Yl];rfl) (by rw[List.getElem?_map,UP];rfl),?_⟩,[2,a,_,FL,_,_,rfl,h1,R.B.cl,[82],rfl,(by rw[26]),[238,[1013]]]];have s1:=[97,.tup [1013]];have q:=q _ s1;have e:[621]=[1436]:=by
    unfold CN.fj;rw[Yl];simp only[];rw[U1]
   rw[e] at q;show[44,! ya [6,p.kind.number] [1013]];rw[inI,Oj];cases N2:(p.kind== .slider||p.kind== .choice||p.kind== .own) with
    |true=>
     rw[N2] at q;exact bg q
    |false=>
     rw[N2] at q;refine bY ⟨_,rfl,a,_,FL,_,_,rfl,[35,h1],R.B.cl,[82],rfl,_,rfl,ua,_,Vj,_,_,rfl,[35,hU],R.U.cl,[197],rfl,rfl,?_⟩;have el:[2,[13,p.level],[13,u.level]]=(p.level==u.level):=by
      rw[Bool.eq_iff_iff,decide_eq_true_eq,beq_iff_eq];rw[3,(λz=>by rw[0,[290]]),[703]]
     rw[el];exact q
end
end
section
def lH(H:Hp)(l:Addr)(ps:[136]):Prop:=[404,[30,[1239],ps]]
section
variable {P:Program} {w:World} {K:PySem.W.Frag} {mg:[16]} {base:Heap} {c:Cs} {fB fU fV fS fW j7:Addr} {ja kM kN de jy:FuncData} {fa:[41]} {fm:[42]} {n k:Nat}
def aai(c:Cs):Sp:=λvs H Q _=>∃(ul pl:Addr) (us:List Us) (ps:[36]) (cnt:[442]) (eK cK:[14]),vs=[12,ul,.ref pl]/\[5,H ul,.lst [398],Paired (λa u=>oy c.UC H a u) eK us,[483,(∀(i:Nat) (a:Addr) (p:Pl),[3,cK,a]->([600])->CY c.BC H a p (cnt i))/\CN.inR ps.length us/\[148,us.length,CN.ie us ps]]]
theorem TU:[4,[1235],["uses","places"],I.i8]:=[11]
theorem MB {UC:Addr} {H:Hp}:∀ {as:[14]} {us:List Us} {i:Nat} {a:Addr} {u:Us},[30,λa u=>oy UC H a u,us]->([369])->[3,us,u]->oy UC H a u
 |_,_,i,a,x,.nil,h,_=>[129]
 |_,_,0,a,x,.cons r _,h,h2=>by rw[71]
 |_,_,i+1,a,x,.cons _ q,h,h2=>MB (i:=i) q [247] [188]
theorem HV(R:[49])(S:[491]):[1406]:=by
 have GM:[1397]:=Tg R S;refine S.Ad.F.ok TU [20] [21]
 ·rw[91]
 obtain⟨ul,pl,us,ps,cnt,eK,cK,rfl,hU,hUP,hL,hlen,hp,qj,h9,q⟩:=h;rw[13,[17,[3,[("use",2)],TU.nd,eQ (pv 0),iH (by show tW [1235] (ai (top I.i8)) _ _=true;decide+kernel),[104,2,TU.nd],λ_ _ _ _ _=>rn [69,[128,[257,pv 2]],sM (dg (au GM hr rfl S.may.m S.may.F.kp S.may.b .nil a6 [18,pv 2,pv 1]))],fk (aa [257,pv 2] (aa aH af))]]];have N8:eK.length=us.length:=Paired.length hUP;refine[22,ul,[73,hU],λD hD=> ?_];have sD:=[80,hD];refine zw (K:=K) (a:=ul) (xs:=[398]) (λi H'=>[35]/\lH H' D (CN.ie (us.take i) ps)) ⟨sD,[],ag,.nil⟩ [376,hU] ?_ ?_
 ·rintro i y H' hi ⟨s1,as,MS,R9⟩;obtain⟨a,ha,rfl⟩:∃a,[70,eK]:=by
   rw[List.getElem?_map] at hi;cases e:eK[i]? with
    |none=>rw[7]
    |some z=>rw[10]
  have mK:i<us.length:=by
   rw[<-N8];exact[25,ha]
  obtain⟨u,hu⟩:∃u,[3,us,u]:=[183];have hua:=MB hUP ha hu;have Y2:oy c.UC H' a u:=hua.ks jk (Keeps.gy s1);obtain⟨Vj,und,ub,h1,h2⟩:=id Y2;have eT:∀ {b:Bool},(u.isSet&& ! [621])=b->CN.ie (us.take (i+1)) ps=CN.ie (us.take i) ps++[5,b,[(u.st,4)],[]]:=λ {b} hb=>by
   unfold CN.ie;rw[List.take_add_one,hu,List.filter_append,List.map_append];congr 1;show([u].filter _).map _=_;rw[List.filter_cons,hb];cases b<;>rfl
  have skip:∀H2,aS H' H2->(u.isSet&& ! [621])=false->[216]/\lH H2 D (CN.ie (us.take (i+1)) ps):=λH2 s2 hb=>by
   rw[8,eT hb,[15,[250],as,[15,MS]]];rw[[214],List.append_nil];exact[25,R9,[15,z]]
  rw[1,[124],⟨_,rfl,a,_,Vj,_,_,rfl,h1,R.U.cl,[197],rfl,rfl,_,rfl,?_⟩];cases zr:u.isSet with
   |false=>rw[4,bg [55],skip H' [251] (by rw[zr];rfl)]
   |true=>
    refine bY ⟨_,rfl,_,rfl,a,pl,u,ps,cnt,cK,rfl,Y2,[35,hL],hlen,λi a p e1 e2=>by obtain⟨dx,nd,b,h3,h4⟩:=hp i a p e1 e2;exact⟨dx,nd,b,[35,h3],[35,h4]⟩,λk hk=>qj u (List.mem_of_getElem? hu) k hk,λH2 s2=>[146]⟩;cases hm:CN.fj ps u with
     |true=>rw[4,[55],skip H2 s2 (by rw[zr,hm];rfl)]
     |false=>
      refine bY [2,a,_,Vj,_,_,rfl,[15,h1],R.U.cl,[197],rfl,(by rw[8]),[352]];have s3:=[97,[92,u.st,.int 4]];have hD3:=s3 _ _ [15,MS];have hasl:as.length<=us.length:=by
       rw[Paired.length R9];unfold CN.ie;rw[20,Nat.le_trans [522] (by rw[66])]
      refine[15,_,hD3,(by rw[20,iF [2]])];rw[eT (b:=true) (by rw[zr,hm];rfl),if_pos rfl];have kp:[137,[1091],[1332]]:=λb xs z=>by rw[0,aj [13,z,hD3],z]
      rw[4,[15,(λb o z=>by rw[0,aj (aq z hD),s3 _ _ (s2 _ _ [101])]),as++[tp],(by rw[4])],[168,[1332],[460]]]
 ·rintro H' ⟨s1,hP⟩;rw[List.length_map,N8,List.take_length] at hP;exact q H' D s1 hD hP
end
end
section
def E2(r:Int)(s w p:V):[67]:=aL "pairs" p (aL "walk" w (aL "statements" s (aL "refusal" (.int r) [])))
abbrev M3:[19]:=["self","refusal","statements","walk","pairs"]
structure Ak(K:PySem.W.Frag)(mg:Str->Option Value)(CE f:Addr)(fd:FuncData):Prop where
 cl:CQ K CE
 na:∀y∈(["refusal","statements","walk","pairs"]:List Str),eB K CE y
 mC:mg "Cell"=some (.ref CE)
 M:Mk K CE f
 F:IM K "__init__" "Cell.__init__" (inClass (top I.Cell) 0) f fd
 b1:Binds K fd M3 [.none,.none,.none]
 b0:Binds K fd M3 []
def Pz(CE:Addr):Sp:=λvs H Q _=>∃(x dx:Addr) (r:Int) (s w p:V),[11,[[54],.int r,s,w,p],CE,CE,E2 r s w p]
theorem ZV:[25,M3,M3,I.Cell]:=[11]
section
variable {P:Program} {w:World} {K:PySem.W.Frag} {mg:[16]} {base:Heap} {CE f:Addr} {fd:FuncData}
theorem ON(C:Ak K mg CE f fd):aC P w K mg base fi 1 f fd M3 (Pz CE):=by
 refine C.F.ok ZV [20] [21]
 ·rw[48]
 obtain⟨x,dx,r,sv,wv,p,rfl,hx,q⟩:=h;rw[1,[143,[444],[566]],[2,_,rfl,x,_,dx,[],rfl,hx,C.cl,[311],(by rw[2,0]),?_],[2,_,rfl,x,_,dx,_,rfl,ag,C.cl,[311],(by rw[2,1]),?_],[2,_,rfl,x,_,dx,_,rfl,ag,C.cl,[311],(by rw[2,2]),?_]];rw[4,[2,_,rfl,x,_,dx,_,rfl,ag,C.cl,[311],(by rw[2,3]),?_],(q _ ag λb o e hb=>by rw[[28],[28],[28],[28]];exact e)]
theorem Lf(C:Ak K mg CE f fd):EN P w K mg base 1 f fd M3 (Pz CE):=by
 obtain⟨oc,od,dV,kV,doc,pm,an,bU,ct,vY,rfl,lk,xZ⟩:=C.F.ex;refine RN lk xZ ZV [20] (λA outer s H vs Q E hr h=> ?_)
 ·rw[48]
 obtain⟨x,dx,r,sv,wv,p,rfl,hx,q⟩:=h;rw[1,[143,[444],[566]],[2,_,rfl,x,_,dx,[],rfl,hx,C.cl,[311],(by rw[2,0]),?_],[2,_,rfl,x,_,dx,_,rfl,ag,C.cl,[311],(by rw[2,1]),?_],[2,_,rfl,x,_,dx,_,rfl,ag,C.cl,[311],(by rw[2,2]),?_]];rw[4,[2,_,rfl,x,_,dx,_,rfl,ag,C.cl,[311],(by rw[2,3]),?_],(q _ ag λb o e hb=>by rw[[28],[28],[28],[28]];exact e)]
end
end
end CP
end
section
namespace CP
open Vanbka (Bytes blank tokens tokensFrom lexAt)
theorem z9:∀(n p:Nat) (t:Bytes) (ts:[15]),tokensFrom n p t= .ok ts->ts.length<=t.length
 |0,p,t,ts,h=>by
  have h:(Except.ok []:[450])= .ok ts:=h;cases h;exact[33]
 |n+1,p,[],ts,h=>by
  rw[Mp] at h;cases h;exact[8]
 |n+1,p,c::r,ts,h=>by
  by_cases hb:blank c=true
  ·rw[Co hb] at h;have:=z9 n _ _ _ h;rw[44]
  ·by_cases hc:c=35
   ·subst hc;rw[wJ] at h;have:=z9 n _ _ _ h;rw[List.length_drop] at this;omega
   ·rw[Mq hb hc] at h;cases hl:lexAt (c::r) with
     |none=>
      rw[hl] at h;cases h
     |some x=>
      obtain⟨l,k⟩:=x;rw[hl] at h;obtain⟨k1,k2⟩:=yg hl;have h:[1331]= .ok ts:=h;cases e:tokensFrom n (p+k) ((c::r).drop k) with
       |error q=>
        rw[e] at h;cases h
       |ok us=>
        rw[e] at h;have h:(Except.ok ([⟨l,p,k⟩]++us):[450])= .ok ts:=h;cases h;have:=z9 n _ _ _ e;rw[List.length_drop] at this;simp;rw[List.length_cons] at this k2;omega
theorem wL(bs:Bytes)(ts:[15])(h:[526]= .ok ts):ts.length<=bs.length:=z9 _ _ _ _ h
end CP
end
section
namespace CP
open Vanbka Vanbkc
theorem AG:[493,[6,[1390],(CN.iE l).length]]
 | .nil,_,_,_,_,_=>by
  rw[evsB];rfl
 | .cons s l,_,_,_,_,_=>by
  rw[evsB];show _+1=(CN.iE l).length+1;rw[AG l]
theorem Hu(l:[111]):[32,kindsOf l,8]:=[522]
theorem Cq:∀(l:List [111]) (n:Nat),[32,[414,n],8*l.length]
 | [],_=>[8]
 |x::r,n=>by
  show(((kindsOf x).map _)++((numbered (n+1) r).flatMap _)).length<=_;rw[List.length_append,List.length_map,List.length_cons];rw[12,Hu x,Cq r (n+1)]
theorem u4 {bs:Bytes} {p:Stmts}(h:[868]= .ok p)(h6:bs.length<=600):[32,[131],4800]:=by
 have hl:[32,[160],600]:=by
  unfold Vanbka.read at h;split at h
  ·cases h
  ·split at h
   ·cases h
   ·next ts e=>
    split at h
    ·cases h
    ·next e3=>
     have hc:=CN.tQ ts e3 380 [3];split at h
     ·cases h
     ·next s e4=>
      split at h
      ·cases h
      ·cases h;cases e5:(CN.Fn 380).stmts .fin ts with
        |out=>
         rw[e5] at hc;exact hc.elim
        |bad=>
         rw[e5] at hc;obtain⟨k,hk⟩:=hc;rw[hk] at e4;cases e4
        |ok a r=>
         rw[e5] at hc;obtain⟨_,x,hx,rfl⟩:=hc;rw[hx] at e4;cases e4;rw[11,[496,e5],CN.zx [160]];have h3:=wL bs ts e;omega
 have h1:=Cq (evsByStatement p) 0;have h2:[6,evsByStatement p,[160].length]:=AG p _ _ _ _ _;show(List.flatMap _ _).length<=4800;omega
end CP
end
section
namespace CP
open PySem PySem.Spec PyProof.Rows L2
open Vanbka (Bytes)
open CN (Kd W Pl Us Vi eL)
section
theorem Lb:Vals [V.cg,V.cg,V.cg] [Value.none,Value.none,Value.none]:=[113,[113,[156,rfl]]]
abbrev Cs.tg(c:Cs)(T:[18]):Cs:={c with TG:=T}
section
variable {P:Program} {w:World} {K:PySem.W.Frag} {mg:[16]} {base:Heap} {c:Cs} {fB fU fV fS fW j7 CE fC C:Addr} {ja kM kN de jy WQ:FuncData} {fa:[41]} {fm:[42]} {bm:[6]} {newId aP B:String}
theorem Wd.tg(R:[49])(T:[18]):Wd P w K mg (c.tg T) fB fU fV fS fW j7 ja kM kN de jy fa fm:=⟨R.B,R.U,R.V,R.S,R.W,R.N,R.ml,R.S7,R.men,R.Bj,R.S4,R.Ow,R.Ox,R.Ov,R.mMk,R.kMk,R.node,R.making,R.iT,R.function,R.other,R.parts,R.block,R.t8,R.qd,R.Gn,R.near⟩
def Z'(c:Cs):Sp:=λvs H Q _=>∃(T G:[18]) (wa:Addr) (w:W) (lv st:Nat),vs=[[163]]/\dr (c.tg T) G H wa w lv st/\w.places.length<=9000/\w.uses.length<=9000/\w.cE.length<=9000/\CN.iB 2000 w/\(∀m:[136],m.Nodup->(∀a∈m,a∈CN.pairs w)->m.length<=4800)/\∀(H':Hp) (l:Addr) (prs:[136]),([35])->prs.Pairwise CN.lex->(∀a,a∈prs↔a∈CN.pairs w)->lH H' l prs->Q [40] H'
def aaa(K:PySem.W.Frag)(c:Cs)(CE:Addr):Sp:=λvs H Q _=>[325,([40,600]->∀(H':Hp) (ce dx:Addr),[8,ce,[9,CE,E2 (-1) .cg .cg .cg]]->Q (.ref ce) H')/\(bs.length<=600->match Vanbka.read bs with
 | .error _=>∀(H':Hp) (ce dx:Addr),[8,ce,[9,CE,E2 (-2) .cg .cg .cg]]->Q (.ref ce) H'
 | .ok p=>∀(H':Hp) (ce dx sl wa Ve:Addr) (T G:[18]) (st:Nat),[8,ce,[9,CE,E2 0 (.ref sl) [163] (.ref Ve)]]->dr (c.tg T) G H' wa (eL 40 0 [160] W.start) 0 st->bM c.NC T H' sl [160]->lH H' Ve [131]->Q (.ref ce) H')]
theorem TJ:[4,["text","statements","walk"],[95],I.i6]:=[11]
theorem OQ(R:[49])(Ce:Ak K mg CE fC WQ)(G0:[226])(ml:[135]) {t1 t2 t3:PySem.Tok}(mB:mg "MOST_BYTES"=some (.int 600 t1))(mT:mg "TOO_LONG"=some (.int (-1) t2))(mN:mg "NOT_GOOD"=some (.int (-2) t3)) (dG:[106,"good_cell",I.i6])(dR:[1204])(GR:aC P w K mg base [62] 389 (fa I.ff) (fm I.ff) [95] (aae K c.NC C)) (dW:[1288])(dF:[1287])(GF:[1432]):[1405]:=by
 have GC:aC P w K mg base fi 1 fC WQ M3 (Pz CE):=ON Ce;have GH:EN P w K mg base 1 fC WQ M3 (Pz CE):=Lf Ce;have GW:aC P w K mg base fi 126 (fa I.cY) (fm I.cY) ["statements"] (λvs H Q E=>∃T:[18],QW (c.tg T) 40 vs H Q E):=WT λT=>Lo (n:=40) (R.tg T) dW;refine dG.F.ok TJ [20] [21]
 ·rw[32]
 obtain⟨t,bs,rfl,hS,kn,q1,q2⟩:=h;rw[19];have Ku:=[23,5];have hrW:=[23,126];refine[34,[19,[14,vV,[655],[23,600,mB]],gA Ce.M GC og rfl Ce.mC Ce.b1 Lb a6 [16,[292,mT]]],[23,O9 (i:=1) rfl rfl G0.O G0.FB rfl rfl TJ.nd rfl [173] [38] GR hr rfl dR.m dR.F.kp dR.b [137] (λa=>[17,Lu (E:=E0) Ce.M GH (og.h _) rfl Ce.mC Ce.b1 Lb [16,bc (v:= .int (-2)) rfl mN [53]]]) rfl rfl rfl rfl,[14,TJ.nd,au GW hrW rfl dW.m dW.F.kp dW.b .nil a6 [45]],gA Ce.M GC og rfl Ce.mC Ce.b0 .nil a6 (aa aH [13,pv 1,pv 2,au GF Ku rfl dF.m dF.F.kp dF.b .nil a6 [376]])]];have so:[78,bV bs]=[355]:=by rw[List.length_map]
 refine⟨_,rfl,t,_,rfl,.inl hS,_,_,rfl,rfl,_,rfl,?_⟩;rw[so];by_cases h6:[40,600]
 ·rw[8,[48,decide ([2,600]<[355]),[2]],bY λx dx hx Dz gx=>⟨x,dx,-1,.cg,.cg,.cg,rfl,ag,λH1 MX k1=>[18,q1 h6 H1 x dx MX]⟩]
 ·rw[[195,decide ([2,600]<[355])]];have q2:=q2 [2];refine bg ⟨_,rfl,t,bs,rfl,hS,kn,?_⟩;cases e:Vanbka.read bs with
   |error z=>
    rw[e] at q2;exact λH1 x dx hx Dz gx=>⟨x,dx,-2,.cg,.cg,.cg,rfl,ag,λH2 A0 k2=>[18,q2 H2 x dx A0]⟩
   |ok p=>
    rw[e] at q2;intro H1 a s1 ta hsz hdp;have Gd:bM c.NC [1221] H1 a [160]:=ta.ch [400,⟨e,g,by rw[e];simp⟩];refine⟨_,rfl,[1221],a,[160],rfl,Gd,λb z=>z.2,λt ht=>CN.Q5 p t ht 40 (Nat.le_trans (CN.si ht) hdp),[2],λH2 wa st G ch ls wk=> ?_⟩;have g:=zp 40 [160] 0 W.start;have hp:=g.p;have hu:=g.u;have hv:=g.v;have z1:[1132]:=rfl;have z2:W.start.uses.length=0:=rfl;have z3:W.start.cE.length=0:=rfl;refine⟨_,rfl,_,rfl,_,rfl,_,G,wa,_,0,st,rfl,wk,[2],[2],[2],CN.Gh 40 _ 0 _ (CN.M1 p) [2] (CN.ME _),λm hm YK=> ?_,λH3 l prs s3 hso hme YS=> ?_⟩
    ·rw[4,Nat.le_trans [271,λa ha=> ?_] (u4 e [2]),((CN.cY hdp).2.2 a.1 a.2).mp (CN.yr.mp (YK a ha))]
    have epr:=CN.tY hdp hso hme;subst epr;refine λx dx hx Dz gx=>⟨x,dx,0,[10],[163],[40],rfl,ag,λH4 hx4 k4=>[124]⟩;have s4:aS H3 H4:=[236,k4];obtain⟨las,IF,Hi⟩:=YS;exact q2 H4 x dx a wa l _ G st hx4 ((wk.same s3).same s4) ((Gd.ch ch).sm (s3.trans s4)) ⟨las,s4 _ _ IF,[25,Hi,s4 _ _ z]⟩
end
end
section
def kZ(bs:Bytes):[26]:=VanbkcNeutral.encode (Vanbkc.answer (.faults bs))
def lr(l:[136]):[26]:=l.flatMap λx=>[[2,x.1],[2,x.2]]
theorem Ip {bs:Bytes}(h:[40,600]):kZ bs=[-1]:=by
 show[387,_]=_;unfold Vanbkc.withGood;rw[if_pos (show[872] from h)];rfl
theorem Mu {bs:Bytes} {z}(h:¬[40,600])(e:[868]= .error z):kZ bs=[-2]:=by
 show[387,_]=_;unfold Vanbkc.withGood;rw[if_neg (show¬[872] from h),e];rfl
theorem PV {bs:Bytes} {p}(h:¬[40,600])(e:[868]= .ok p):kZ bs=[78,[131]]::lr [131]:=by
 show[387,_]=_;unfold Vanbkc.withGood;rw[if_neg (show¬[872] from h),e];rfl
section
variable {P:Program} {w:World} {K:PySem.W.Frag} {mg:[16]} {base:Heap} {c:Cs} {CE fC:Addr} {WQ:FuncData} {fa:[41]} {fm:[42]}
def PB(K:PySem.W.Frag):Sp:=λvs H Q _=>[325,∀(H':Hp) (l:Addr),[86,l,(kZ bs).map V.int]->Q [40] H']
theorem Pk:[4,["text","cell","answer","pair"],[95],I.faults]:=[11]
theorem Lx {H:Hp}:∀ {as:[14]} {ns:[136]} {i:Nat} {a:Addr} {x:[113]},[30,[1239],ns]->([369])->[3,ns,x]->[29,.tup [[6,x.1],[6,x.2]]]
 |_,_,i,a,x,.nil,h,_=>[129]
 |_,_,0,a,x,.cons r _,h,h2=>by rw[71]
 |_,_,i+1,a,x,.cons _ q,h,h2=>Lx (i:=i) q [247] [188]
theorem zM(l:[136]):[6,lr l,2*l.length]:=by induction l with
 |nil=>rfl
 |cons a r ih=>
  show([_,_]++lr r).length=_;rw[List.length_append,ih];rw[0]
theorem HG(Ce:Ak K mg CE fC WQ)(ml:[135])(dF:[106,"faults",I.faults])(dG:[106,"good_cell",I.i6])(GG:[1405]):aC P w K mg base fi 391 (fa I.faults) (fm I.faults) [95] (PB K):=by
 refine dF.F.ok Pk [20] [21]
 ·rw[32]
 obtain⟨t,bs,rfl,hS,kn,q⟩:=h;rw[1,[57,[3,[16,Pk.nd,au GG hr rfl dG.m dG.F.kp dG.b .nil a6 [137]],[19,aK vW [77] aH (aZ _),[61,[77]]],[14,Pk.nd,[61,[34,a8,ml,[16,[77]]]]],[10,[77],3,Pk.nd,ah (aF [41,DT,pv 2,pv 3])],pv 2]],⟨_,rfl,t,bs,rfl,hS,kn,λh6 H1 ce dx Kc=> ?_,λh6=> ?_⟩]
 ·rw[4,⟨_,rfl,ce,_,dx,_,_,rfl,Kc,Ce.cl,[384],rfl,_,_,rfl,rfl,_,rfl,bY [2,ce,_,dx,_,_,rfl,Kc,Ce.cl,[384],rfl,(by rw[2]),[248]]⟩,q _ l (by rw[ag,Ip h6];rfl)]
 cases e:Vanbka.read bs with
  |error z=>
   intro H1 ce dx Kc;rw[4,⟨_,rfl,ce,_,dx,_,_,rfl,Kc,Ce.cl,[384],rfl,_,_,rfl,rfl,_,rfl,bY [2,ce,_,dx,_,_,rfl,Kc,Ce.cl,[384],rfl,(by rw[2]),[248]]⟩,q _ l (by rw[ag,Mu [2] e];rfl)]
  |ok p=>
   intro H1 ce dx sl wa Ve T G st Kc _ _ YS;have hn:=u4 e h6;obtain⟨as,hL,hP⟩:=YS;have Fj:as.length=[131].length:=[252];refine⟨_,rfl,ce,_,dx,_,_,rfl,Kc,Ce.cl,[384],rfl,_,_,rfl,rfl,_,rfl,bg ⟨_,rfl,ce,_,dx,_,_,rfl,Kc,Ce.cl,[384],rfl,Ve,_,rfl,[67,hL],(by rw[2]),[248]⟩⟩;have hlen:[78,[70]]=[78,[131]]:=by rw[List.length_map,Fj]
   rw[hlen];have s2:=[54,[[13,[131].length]],hl];refine⟨_,rfl,ce,_,dx,_,_,rfl,[15,Kc],Ce.cl,[384],rfl,Ve,rfl,[158,[15,hL]],gS (K:=K) (a:=Ve) (xs:=[70]) (λi σ H'=>[133,[[4,t],[4,ce],[4,l],v]]/\aS H1 H'/\[86,l,([78,[131]]::lr ([131].take i)).map V.int]) ⟨[41,none],s2,ag⟩ (λi σ H' _ z=>bP.of (z.2.1 _ _ hL)) ?_ ?_⟩
   ·rintro i y σ H' hi ⟨⟨v,rfl⟩,s3,vc⟩;obtain⟨a,ha,rfl⟩:∃a,[70,as]:=by
     rw[List.getElem?_map] at hi;cases e:as[i]? with
      |none=>rw[7]
      |some z=>rw[10]
    have mK:i<[131].length:=by
     rw[<-Fj];exact[25,ha]
    obtain⟨x,hx⟩:∃x,[131][i]? =[142]:=[183];have KC:=s3 _ _ (Lx hP ha hx);have et:lr ([131].take (i+1))=lr ([131].take i)++[[2,x.1],[2,x.2]]:=by
     unfold lr;rw[List.take_add_one,hx,List.flatMap_append];rfl
    have bQ:=zM ([131].take i);refine⟨_,rfl,[14,vc],_,rfl,l,a,_,_,rfl,rfl,vc,kT.of KC,?_,[53],λb o z=>by rw[0,aj (aq z hl),s3 _ _ z],?_⟩
    ·rw[List.length_map,List.length_cons,bQ,List.length_take];exact Nat.le_of_lt [137,(show _<=20003 by rw[0])]
    ·rw[ag,et];simp
   ·rintro σ H' ⟨⟨v,rfl⟩,s3,vc⟩;rw[List.length_map,Fj,List.take_length] at vc;rw[6,q H' l (by rw[vc,PV [2] e])]
end
end
section
section
variable {P:Program} {w:World} {K:PySem.W.Frag} {mg:[16]} {base:Heap} {c:Cs} {fB fU fV fS fW j7:Addr} {ja kM kN de jy:FuncData} {fa:[41]} {fm:[42]} {k:Nat}
def Z9(c:Cs):Sp:=λvs H Q _=>∃(T:[18]) (a:Addr) (t:CN.T) (lv:Nat),vs=[[10],[6,lv]]/\gj c.NC T H a t/\CN.Va t/\t.sz<=2000/\[246,[6,[312]]]
def aak(c:Cs):Sp:=λvs H Q _=>∃(T:[18]) (vl:Addr) (Q4:List Vi) (fM:[14]),vs=[.ref vl]/\[5,H vl,.lst [438],Paired (λa v=>uJ c.VC c.NC T H a v) fM Q4,(∀v∈Q4,CN.Va v.node/\v.node.sz<=2000)/\[148,Q4.length,CN.fz Q4]]
theorem Pp:[4,["visits","pairs","visit","kind"],["visits"],I.gv]:=[11]
theorem MD {VC NC:Addr} {T:[18]} {H:Hp}:∀ {as:[14]} {us:List Vi} {i:Nat} {a:Addr} {u:Vi},[30,λa u=>uJ VC NC T H a u,us]->([369])->[3,us,u]->uJ VC NC T H a u
 |_,_,i,a,x,.nil,h,_=>[129]
 |_,_,0,a,x,.cons r _,h,h2=>by rw[71]
 |_,_,i+1,a,x,.cons _ q,h,h2=>MD (i:=i) q [247] [188]
theorem HW(R:[49])(dV:[1289])(dB:[1001])(GB:aC P w K mg base fi k (fa I.cG) (fm I.cG) [523] (Z9 c)):aC P w K mg base fi (k+1) (fa I.gv) (fm I.gv) ["visits"] (aak c):=by
 refine dV.F.ok Pp [20] [21]
 ·rw[15]
 obtain⟨T,vl,PZ,fM,rfl,hV,hVP,cH,h9,q⟩:=h;refine[57,[23,[16,Pp.nd,bz af],[10,pv 0,2,Pp.nd,ae [3,3,Pp.nd,au GB hr rfl dB.m dB.F.kp dB.b .nil a6 [18,[358],[358]]] (ah (bf (aK vV (pv 3) aH (aZ _)) [67,pv 1,fk [18,[358],pv 3]] aO))],pv 1]];have U5:fM.length=PZ.length:=Paired.length hVP;rw[7,[33],[248]];have s1:=[80,hl];refine[22,vl,[158,[35,hV]],gS (K:=K) (a:=vl) (xs:=[438]) (λi σ H'=>(∃v2 v3:[71],σ=[[4,vl],[4,l],v2,v3])/\[35]/\lH H' l (CN.fz (PZ.take i))) ⟨[917],s1,[],ag,.nil⟩ (λi σ H' _ z=>bP.of (z.2.1 _ _ hV)) ?_ ?_]
 ·rintro i y σ H' hi ⟨⟨v2,v3,rfl⟩,s2,as,hL,R9⟩;obtain⟨a,ha,rfl⟩:∃a,[70,fM]:=by
   rw[List.getElem?_map] at hi;cases e:fM[i]? with
    |none=>rw[7]
    |some z=>rw[10]
  have mK:i<PZ.length:=by
   rw[<-U5];exact[25,ha]
  obtain⟨v,hv⟩:∃v,[3,PZ,v]:=[183];obtain⟨vdx,na,h1,hT⟩:=(MD hVP ha hv).ks jk [561] (Ch.same s2);have eT:CN.fz (PZ.take (i+1))=CN.fz (PZ.take i)++(if 0<[332] then[(v.st,[332])] else[]):=by
   unfold CN.fz;rw[List.take_add_one,hv,List.filter_append,List.map_append];congr 1;show([v].filter _).map _=_;rw[List.filter_cons];by_cases h0:0<[332]
   ·rw[if_pos (decide_eq_true h0),if_pos h0];rfl
   ·rw[if_neg (by simpa using h0),if_neg h0];rfl
  rw[1,⟨_,rfl,a,_,vdx,_,_,rfl,h1,R.V.cl,[482],rfl,_,rfl,a,_,vdx,_,_,rfl,h1,R.V.cl,[482],rfl,T,na,v.node,v.level,rfl,hT,[1183].1,[1183].2,λH2 s3=> ?_⟩,[320]];by_cases h0:0<[332]
  ·rw[[48,[1195],[2]]];rw[if_pos h0] at eT;refine bY ⟨_,rfl,.inl [76,_,bP.of (s3 _ _ hL)],_,rfl,a,_,vdx,_,_,rfl,s3 _ _ h1,R.V.cl,[482],rfl,_,rfl,(by rw[8]),[352]⟩;have s4:=[97,[92,v.st,[6,[332]]]];have AL:=s4 _ _ (s3 _ _ hL);have hasl:as.length<=PZ.length:=by
    rw[Paired.length R9];unfold CN.fz;rw[20,Nat.le_trans [522] (by rw[66])]
   refine⟨l,_,_,rfl,rfl,AL,by rw[20,iF [2]],[36,_],λb o z=>by rw[0,aj (aq z hl),s4 _ _ [460]],?_⟩;rw[eT];have kp:[137,[1090],[1298]]:=λb xs z=>by rw[0,aj [13,z,AL],z]
   rw[0,as++[tp],(by rw[4]),[168,[1298],s4 _ _ (s3 _ _ z)]]
  ·rw[[195,[1195]]];rw[if_neg h0,List.append_nil] at eT;refine bg [21,[36,_],[403]];rw[eT];rw[0,as,s3 _ _ hL,Paired.cf R9 λb p z=>s3 _ _ z]
 ·rintro σ H' ⟨⟨v2,v3,rfl⟩,s2,hP⟩;rw[List.length_map,U5,List.take_length] at hP;rw[6,q H' l s2 hl hP]
end
end
section
variable {H H':Hp}
abbrev nI(bs:Bytes):[26]:=bs.map λc=>[141]
theorem P6(bs:Bytes):bV bs=iV (nI bs):=by
 show bs.map cV=(bs.map _).map V.int;rw[47]
theorem DV:∀ {a b:Bytes},nI a=nI b->a=b
 | [],[],_=>rfl
 | [],_::_,h=>[180]
 |_::_,[],h=>[180]
 |x::a,y::b,h=>by
  simp only[List.map_cons,List.cons.injEq] at h;have e:x=y:=UInt8.toNat_inj.mp (by rw[0,h.1]);rw[e,DV h.2]
def j8(p:Pl):NK.PK:=([325],nI p.name)
theorem Fx {p q:Pl}:j8 p=j8 q↔p.home=q.home/\p.name=q.name:=by
 constructor
 ·intro h;rw[11,congrArg Prod.fst h,congrArg Prod.snd h];rw[3,(by have h1:[325]=[2,q.home]:=h1;omega),DV h2]
 ·rintro⟨h1,h2⟩;unfold j8;rw[h1,h2]
def my:[293]
 | .lst _=>False
 | .ext _=>False
 |_=>True
theorem oO {z:Addr} {o o':HO}(h:[3,H z])(ho:¬my o):Keeps my H (upd H z o'):=λb u hb hS=>by rw[0,aj (λe=>by rw[90];exact ho hS),hb]
theorem Keeps.trans' {S:[293]} {H1 H2:Hp}(a:Keeps S H H1)(b:Keeps S H1 H2):Keeps S H H2:=λx o h s=>b x o (a x o h s) s
def Ao(BC:Addr)(H:Hp)(a:Addr)(p:Pl):Prop:=∃u,CY BC H a p u
theorem Ao.ke {BC:Addr}(k:[709]) {a:Addr} {p:Pl}(h:Ao BC H a p):Ao BC H' a p:=by
 obtain⟨u,dx,nd,b,h1,h2⟩:=h;exact⟨u,dx,nd,b,[83,h1],[83,h2]⟩
theorem qZ(k:[709]) {xs:[148]}(h:An H xs):An H' xs:=λx hx=>by
 obtain⟨b,h1,h2⟩:=h x hx;rw[0,b,[83,h1],[83,h2]]
section
variable {P:Program} {w:World} {K:PySem.W.Frag} {mg:[16]} {base:Heap} {c:Cs} {fB fU fV fS fW j7:Addr} {ja kM kN de jy:FuncData} {fa:[41]} {fm:[42]} {k:Nat}
def aaf(c:Cs):Sp:=[499,ps.length<=9000/\∀(H':Hp) (l:Addr) (rp:[14]),([35])->[5,l]->[86,l,[330]]->Paired [261,H'] rp (CN.again [] ps)->Q [40] H']
theorem LR:[4,["places","met","again","place","key"],["places"],I.repeated]:=[11]
theorem pz(l r:[36]):[32,CN.again l r,r.length]:=by induction r generalizing l with
 |nil=>exact[8]
 |cons p r ih=>
  rw[CN.again];have:=ih (l++[p]);split
  ·rw[List.length_cons,List.length_cons];omega
  ·rw[44]
theorem BD(R:[49])(dR:[969]):[1387]:=by
 refine dR.F.ok LR [20] [21]
 ·rw[31]
 obtain⟨pl,ps,cK,rfl,hL,hP,h9,q⟩:=h;have hu:=hr.units;refine[34,aI (i:=1) LR.nd rfl [173] Lr,[37,LR.nd,bz af,[10,pv 0,3,LR.nd,ae [3,4,LR.nd,fk [18,aJ (pv 3) rfl,aJ (pv 3) rfl]] (ae (bf (nE (O0 hu (pv 4) (pv 1))) [160,pv 3] aO) (ah (Ly hu (pv 1) (pv 4) FN rfl)))]]];have bQ:cK.length=ps.length:=[252];refine λd hd=>[179,[248]];have hdl:d≠l:=aq ag hl;have hd0:[5,d]:=hd;have hl0:[5,l]:=by
  rw[aj (Ne.symm hdl)] at hl;exact hl
 have s1:aS H (upd (upd H d (dN P w d [])) l [106]):=(aB hd).trans (aB hl);refine[22,pl,[158,[35,hL]],gS (K:=K) (a:=pl) (xs:=[336]) (λi σ H'=>(∃v3 v4:[71],σ=[[233],[4,d],[4,l],v3,v4])/\[35]/\∃(xs:[148]) (rp:[14]),[5,H' d,dN P w d xs,An H' xs,(∀k,[232]↔∃z∈[354],j8 z=k)/\xs.length<=i/\H' l=some (.lst [330])/\Paired [261,H'] rp [188,[354]]]) ⟨[917],s1,[],[],by rw[0,aj hdl,ag],[679],λk=>⟨λz=>(nomatch z),λ⟨z,hz,_⟩=>(nomatch hz)⟩,[33],ag,.nil⟩ (λi σ H' _ z=>bP.of (z.2.1 _ _ hL)) ?_ ?_]
 ·rintro i y σ H' hi ⟨⟨v3,v4,rfl⟩,s2,xs,rp,hD,hM,hK,U6,hR,Ha⟩;obtain⟨a,ha,rfl⟩:∃a,[70,cK]:=by
   rw[List.getElem?_map] at hi;cases e:cK[i]? with
    |none=>rw[7]
    |some z=>rw[10]
  have mK:i<ps.length:=by
   rw[<-bQ];exact[25,ha]
  obtain⟨p,hp⟩:∃p,[600]:=[183];obtain⟨u,dx,nd,b,g1,g2⟩:=mD hP ha hp;have g1:=[15,g1];have g2:=[15,g2];have eT:[443]=[354]++[p]:=by
   rw[List.take_add_one,hp];rfl
  refine⟨_,rfl,a,_,dx,_,_,rfl,g1,R.B.cl,[82],rfl,_,rfl,a,_,dx,_,_,rfl,g1,R.B.cl,[82],rfl,(by rw[8]),[352]⟩;have s3:=[97,[92,p.home,[25]]];have UT:Keeps my H' [659]:=Keeps.gy s3;have hPA:Rf [659] (j8 p) tp:=⟨b,ag,by rw[s3 _ _ g2,P6];rfl⟩;refine⟨_,rfl,_,rfl,d,xs,j8 p,tp,rfl,s3 _ _ hD,(qZ UT hM),rfl,hPA,_,rfl,?_⟩;have Sb:[920]=(([]:[36])++[354]).any (λz=>z.home==p.home&&z.name==p.name):=by
   rw[Bool.eq_iff_iff,decide_eq_true_eq,hK,List.any_eq_true,List.nil_append];constructor
   ·rintro⟨z,hz,e⟩;obtain⟨e1,e2⟩:=Fx.mp e;rw[0,z,hz,(by simp[e1,e2])]
   ·rintro⟨z,hz,e⟩;simp only[Bool.and_eq_true,beq_iff_eq] at e;rw[0,z,hz,Fx.mpr e]
  have eA:=CN.uN [354] [] p;rw[<-eT,<-Sb] at eA;have hK':∀k,k∈[653].map [44]↔∃z∈[443],j8 z=k:=λk=>by
   rw[eT];unfold putN;split
   ·next hm=>
    rw[hK];constructor
    ·rintro⟨z,hz,e⟩;rw[0,z,[95,hz],e]
    ·rintro⟨z,hz,e⟩;rcases List.mem_append.mp hz with hz|hz
     ·exact⟨z,hz,e⟩
     ·rw[[1130]] at e;rw[<-e];exact(hK _).mp hm
   ·rw[List.map_append,List.mem_append,hK];constructor
    ·rintro(⟨z,hz,e⟩|h);rw[2,⟨z,[95,hz],e⟩,⟨p,[223,[1096]],(List.mem_singleton.mp h).symm⟩]
    ·rintro⟨z,hz,e⟩;rcases List.mem_append.mp hz with hz|hz
     ·exact .inl ⟨z,hz,e⟩
     ·rw[[1130]] at e;exact .inr (List.mem_singleton.mpr e.symm)
  have hxl':[32,[653],i+1]:=by
   unfold putN;split
   ·omega
   ·rw[List.length_append];show xs.length+1<=i+1;omega
  have fin:∀(H2:Hp) (Ie:[14]),([216])->Keeps my H' H2->H2 d=some (dN P w d xs)->An H2 xs->Rf H2 (j8 p) tp->H2 l=some (.lst (Ie.map V.ref))->Paired [261,H2] Ie [188,[443]]->(aS H [492]/\∃(xH:[148]) (ZP:[14]),[5,([492]) d,dN P w d xH,An [492] xH,(∀k,k∈xH.map [44]↔∃z∈[443],j8 z=k)/\xH.length<=i+1/\([492]) l=some (.lst (ZP.map V.ref))/\Paired (λa z=>Ao c.BC [492] a z) ZP [188,[443]]]):=λH2 Ie t1 t2 t3 t4 t5 t6 t7=>by
   have kd:Keeps my H2 [492]:=oO t3 (λz=>z);rw[1,⟨λx o z=>by rw[0,aj (aq z hd0),t1 _ _ z],[653],Ie,ag,?_,hK',hxl',by rw[0,aj (Ne.symm hdl),t6],[25,t7,z.ke kd]⟩,qZ kd [427]];unfold putN at hx;split at hx
   ·exact t4 x hx
   ·rcases List.mem_append.mp hx with hx|hx
    ·exact t4 x hx
    ·rw[5,hx,t5]
  have ez:[876]:=Nat.lt_of_le_of_lt U6 (iF [2]);by_cases qj:j8 p∈[200]
  ·rw[[41,[920],qj]] at eA ⊢;rw[[381]] at eA;have SF:rp.length<=9000:=by rw[0,Paired.length Ha,Nat.le_trans (pz _ _) (by rw[66])]
   refine bY ⟨_,rfl,.inl [76,_,bP.of (s3 _ _ hR)],_,rfl,l,_,_,rfl,rfl,s3 _ _ hR,by rw[20,iF SF],?_⟩;have kl:Keeps my [659] [777]:=oO (s3 _ _ hR) (λz=>z);have hk4:=UT.trans' kl;have hD4:([777]) d=some (dN P w d xs):=by rw[0,aj hdl,s3 _ _ hD]
   have hM4:=qZ hk4 hM;have R5:Rf [777] (j8 p) tp:=by
    obtain⟨b',z1,z2⟩:=hPA;rw[0,b',kl _ _ z1 True.intro,kl _ _ z2 True.intro]
   rw[1,⟨_,rfl,_,rfl,d,xs,j8 p,tp,rfl,rfl,hD4,hM4,ez,rfl,R5,[36,_],?_⟩,fin _ (rp++[a]) (λx o z=>by rw[0,aj (aq z hl0),[460]]) hk4 hD4 hM4 R5 (by rw[4]) ?_];rw[eA];exact bB (G:=λa' z=>Ao c.BC [777] a' z) (Ao.ke hk4 ⟨u,dx,nd,b,g1,g2⟩) [25,Ha,z.ke hk4]
  ·rw[[134,[920],qj]] at eA ⊢;rw[[214],List.append_nil] at eA;rw[1,bg ⟨_,rfl,_,rfl,d,xs,j8 p,tp,rfl,rfl,s3 _ _ hD,(qZ UT hM),ez,rfl,hPA,[36,_],?_⟩,fin _ rp [403] UT (s3 _ _ hD) (qZ UT hM) hPA (s3 _ _ hR) ?_];rw[eA];exact[25,Ha,z.ke UT]
 ·rintro σ H' ⟨⟨v3,v4,rfl⟩,s2,xs,rp,hD,hM,hK,U6,hR,Ha⟩;rw[List.length_map,bQ,List.take_length] at Ha;rw[6,q H' l rp s2 hl0 hR Ha]
end
end
section
variable {β α:Type}
theorem yf {K:PySem.W.Frag} {a BC:Addr} {cK:[14]} {ps:[36]} {g:TG} {tt:TT} {te:TE} {vs:[30]} {σ:L2.St} {H1:Hp} {D:Addr} {Qd:Hp->Prop}(F:Hp->[4,Addr,β])(sel:Pl->Option β) (hF:∀ {H H':Hp} {r:Addr} {y:β},([709])->F H r y->F H' r y)(hL:H1 a=some (.lst [336]))(hP:Paired (λa p=>Ao BC H1 a p) cK ps)(h9:ps.length<=9000)(hD:H1 D=none) (hs:∀(i:Nat) (b:Addr) (p:Pl) (H':Hp) (N:Hp->Prop),([600])->Ao BC H' b p->aS H1 H'->(sel p=none->∀H3,aS H' H3->N H3)->(∀y H3 r,sel p=some y->aS H' H3->F H3 r y->∃acc,[5,H3 D,.lst acc,acc.length<sizeLine,N [8,H3,D,acc,r]])->g [25] [274] H' [340,λbb H3=>[5,bb,[339,N [811]],N H3]]) (hd:∀H' rp,aS H1 H'->[86,D,[330]]->Paired (F H') rp (ps.filterMap sel)->Qd H'):[1345]:=by
 have bQ:cK.length=ps.length:=[252];have sD:=[80,hD];refine zw (K:=K) (a:=a) (xs:=[336]) (λi H'=>aS H1 H'/\∃rp:[14],H' D=some (.lst [330])/\Paired (F H') rp ([354].filterMap sel)) ⟨sD,[],ag,.nil⟩ [376,hL] ?_ ?_
 ·rintro i y H' hi ⟨s1,rp,hR,Ha⟩;obtain⟨b,hb,rfl⟩:∃b,[3,cK,b]/\y=V.ref b:=by
   rw[List.getElem?_map] at hi;cases e:cK[i]? with
    |none=>rw[7]
    |some z=>rw[10]
  have mK:i<ps.length:=by
   rw[<-bQ];exact[25,hb]
  obtain⟨p,hp⟩:∃p,[600]:=[183];have CK:Ao BC H' b p:=(mD hP hb hp).ke (Keeps.gy s1);have eT:[443].filterMap sel=[354].filterMap sel++[952]:=by
   rw[List.take_add_one,hp,List.filterMap_append];rfl
  have SF:rp.length<=9000:=by rw[0,Paired.length Ha,Nat.le_trans (List.length_filterMap_le _ _) (by rw[66])]
  refine hs i b p H' _ hp CK s1 (λe H3 s2=>[15,[250],rp,[15,hR]]) (λy H3 r e s2 hf=>⟨_,[15,hR],by rw[20,iF SF],λx o z=>by rw[0,aj (aq z hD),s2 _ _ [101]],rp++[r],by rw[4],?_⟩)
  ·rw[eT,show[952]=[] by simp[e],List.append_nil];exact[25,Ha,hF [561] z]
  ·rw[eT,show[952]=[y] by simp[e]];have kl:Keeps my H3 [8,H3,D,[330],r]:=oO [15,hR] (λz=>z);exact bB (G:=F [8,H3,D,[330],r]) (hF kl hf) [25,Ha,hF ([561].trans' kl) z]
 ·rintro H' ⟨s1,rp,hR,Ha⟩;rw[List.length_map,bQ,List.take_length] at Ha;exact hd H' rp s1 hR Ha
theorem Lp {X:Cx} {K:PySem.W.Frag}(h:X.K=K):[88,.In,rIn K false]:=by
 subst h;exact gK
def sZ(H:Hp)(r:Addr)(y:[113]):Prop:=[5,r,[1203]]
theorem sj(f:[447])(l:[34]):l.filterMap [302,f p]=l.filter f:=by induction l with
 |nil=>rfl
 |cons a r ih=>rw[122]
theorem JE(h:α->β)(l:[34]):l.filterMap (λp=>some (h p))=l.map h:=by induction l with
 |nil=>rfl
 |cons a r ih=>
  rw[List.filterMap_cons,ih];rfl
theorem ND(f:[447])(h:α->β)(l:[34]):l.filterMap (λp=>[5,f p,some (h p),none])=(l.filter f).map h:=by induction l with
 |nil=>rfl
 |cons a r ih=>rw[122]
theorem Ba(k:Vanbkc.Kind):[63,[721],[[2,0],1,2]]=CN.making k:=[702]
theorem A9(k:Vanbkc.Kind):[63,[721],[[2,1],2]]=CN.fX k:=[702]
theorem DK(k:Vanbkc.Kind):[2,[13,k.number],V.int 5]=CN.isParam k:=[702]
theorem lu {α β:Type} {F:[606]}:∀ {l l':[34]} {m m':[286]},Paired F l m->Paired F l' m'->Paired F (l++l') (m++m')
 |_,_,_,_,.nil,s=>s
 |_,_,_,_,.cons r t,s=> .cons r (lu t s)
theorem qF {H H':Hp} {r:Addr} {y:[113]}(k:[709])(h:sZ H r y):sZ H' r y:=[83,h]
section
variable {P:Program} {w:World} {K:PySem.W.Frag} {mg:[16]} {base:Heap} {c:Cs} {fB fU fV fS fW j7:Addr} {ja kM kN de jy:FuncData} {fa:[41]} {fm:[42]} {k:Nat}
def aad(c:Cs):Sp:=[499,[148,ps.length,CN.ly ps]]
theorem sN:[4,[1076],["places"],I.cx]:=[11]
theorem HP(R:[49])(S:[491])(dP:[1208])(dR:[969]):[1431]:=by
 obtain⟨t0,m0⟩:=S.mLet;rw[115];obtain⟨t5,m5⟩:=R.Ox;obtain⟨tO,mO⟩:=R.Ov;have GR:[1387]:=BD R dR;refine dP.F.ok sN [20] [21]
 ·rw[31]
 obtain⟨pl,ps,cK,rfl,hL,hP,h9,q⟩:=h;refine[57,ae (rl (i:=1) (own:=[484]) rfl sN.nd rfl rfl rfl (eQ (pv 0)) (iH (by rw[40])) [486] (λ_ _ _ _ _=>rn (aK (Lp (K:=K) rfl) [520] (fk [13,[23,0,m0],[23,1,m1],[23,2,m2]]) rfl)) (λ_ _ _ _ _=>pv 5)) (ae (rl (i:=2) (own:=[484]) rfl sN.nd rfl rfl rfl (eQ (pv 0)) (iH (by rw[40])) [486] (λ_ _ _ _ _=>rn [14,eV,[520],[23,5,m5]]) (λ_ _ _ _ _=>pv 5)) [3,rl (i:=3) (own:=[484]) rfl sN.nd rfl rfl rfl (eQ (pv 0)) (iH (by rw[40])) [486] (λ_ _ _ _ _=>rn (aK (Lp (K:=K) rfl) [520] (fk [18,[23,1,m1],[23,2,m2]]) rfl)) (λ_ _ _ _ _=>pv 5),rl (i:=4) (own:=[484]) rfl sN.nd rfl rfl rfl [498,[45]] (iH (by rw[40])) [486] (λ_ _ _ _ _=>rm) (λ_ _ _ _ _=>[930]),aF [41,sF,pv 4,[3,[484],sN.nd,[498,[376]],iH (by rw[40]),[486],λ_ _ _ _ _=>rm,[930]]],aF [41,sF,pv 4,[3,[484],sN.nd,eQ (pv 3),iH (by rw[40]),[486],λ_ _ _ _ _=>rn [14,yz,[520],[23,0,mO]],[930]]],pv 4])];have Mj:∀ {n:Nat},n<=27000->[24,n]:=λh=>[944];rw[1,[22,pl,[73,hL],λD1 hD1=> ?_],yf (K:=K) (BC:=c.BC) [1054] [302,[562]] (λk z=>z.ke k) hL hP h9 hD1 ?_ λH1 ras1 s1 hR1 Ya=> ?_]
 ·intro i b p H' N hp CK s1 n1 n2;obtain⟨u,dx,nd,nb,g1,g2⟩:=id CK;refine⟨rfl,_,rfl,b,_,dx,_,_,rfl,g1,R.B.cl,[82],rfl,(by rw[26]),[238,[1012]]⟩;have s2:=[97,.tup [1012]];show[5,ya [6,p.kind.number] [1012],_,_];rw[inI,Ba];cases hm:CN.making p.kind with
   |true=>exact bY [9,n2 p _ b [291] s2 (CK.ke [561])]
   |false=>exact bg (n1 [291] _ s2)
 rw[sj] at Ya;rw[1,[22,pl,[158,[35,hL]],λD2 hD2=> ?_],yf (K:=K) (BC:=c.BC) [1054] [302,[563]] (λk z=>z.ke k) [35,hL] [112,hP,s1] h9 hD2 ?_ λH2 Ie s2 hR2 Yb=> ?_]
 ·intro i b p H' N hp CK s1 n1 n2;obtain⟨u,dx,nd,nb,g1,g2⟩:=id CK;refine[515,dx];rw[DK];cases hm:CN.isParam p.kind with
   |true=>exact bY [9,n2 p _ b [291] [251] CK]
   |false=>exact bg (n1 [291] _ [251])
 rw[sj] at Yb;have s02:=[250];rw[1,[22,pl,[158,s02 _ _ hL],λD3 hD3=> ?_],yf (K:=K) (BC:=c.BC) [1054] [302,CN.fX p.kind] (λk z=>z.ke k) (s02 _ _ hL) [112,hP,s02] h9 hD3 ?_ λH3 ras3 s3 hR3 Yc=> ?_]
 ·intro i b p H' N hp CK s1 n1 n2;obtain⟨u,dx,nd,nb,g1,g2⟩:=id CK;refine⟨rfl,_,rfl,b,_,dx,_,_,rfl,g1,R.B.cl,[82],rfl,(by rw[8]),[238,[927]]⟩;have s2:=[97,.tup [927]];show[5,ya [6,p.kind.number] [927],_,_];rw[inI,A9];cases hm:CN.fX p.kind with
   |true=>exact bY [9,n2 p _ b [291] s2 (CK.ke [561])]
   |false=>exact bg (n1 [291] _ s2)
 rw[sj] at Yc;have s13:=[403];have Vf:=s02.trans s3;have lf:∀(f:Pl->Bool),[32,ps.filter f,9000]:=λf=>[368,h9];have la:∀(f:Pl->Bool),[32,[188,ps.filter f],9000]:=λf=>Nat.le_trans (pz _ _) (lf f);rw[1,⟨_,rfl,D1,[112,[562]],ras1,rfl,s13 _ _ hR1,[112,Ya,s13],lf _,λH4 l4 ras4 s4 hl4 hR4 hPR4=> ?_⟩,⟨l4,rfl,[73,hR4],λD5 hD5=> ?_⟩];refine yf (K:=K) (BC:=c.BC) sZ (λp=>[11,p.st,1]) qF hR4 hPR4 (la _) hD5 ?_ λH5 ug s5 hR5 R6=> ?_
 ·intro i b p H' N hp CK s1 n1 n2;obtain⟨u,dx,nd,nb,g1,g2⟩:=id CK;rw[4,[124],[2,b,_,dx,_,_,rfl,g1,R.B.cl,[82],rfl,(by rw[8]),λtp ou=>n2 _ _ tp rfl (aB ou) ag]]
 rw[JE] at R6;have ZT:=(s3.trans s4).trans s5;have s35:=s4.trans s5;have s05:=Vf.trans s35;rw[1,⟨_,rfl,[14,hR5],_,rfl,D2,[112,[563]],Ie,rfl,ZT _ _ hR2,[112,Yb,ZT],lf _,λH6 l6 ras6 s6 hl6 hR6 hPR6=> ?_⟩,⟨l6,rfl,[73,hR6],λD7 hD7=> ?_⟩];refine yf (K:=K) (BC:=c.BC) sZ (λp=>[11,p.st,2]) qF hR6 hPR6 (la _) hD7 ?_ λH7 uh s7 hR7 R7=> ?_
 ·intro i b p H' N hp CK s1 n1 n2;obtain⟨u,dx,nd,nb,g1,g2⟩:=id CK;rw[4,[124],[2,b,_,dx,_,_,rfl,g1,R.B.cl,[82],rfl,(by rw[8]),λtp ou=>n2 _ _ tp rfl (aB ou) ag]]
 rw[JE] at R7;have s57:=s6.trans s7;have e5:ug.length<=9000:=by
  rw[Paired.length R6,List.length_map];exact la _
 have e7:uh.length<=9000:=by
  rw[Paired.length R7,List.length_map];exact la _
 refine⟨D5,D7,_,_,rfl,rfl,s57 _ _ hR5,hR7,Mj (by rw[List.length_map,List.length_map];omega),?_⟩;have hl5:H4 D5=none:=hD5;have k8:Keeps my H7 [644]:=oO (s57 _ _ hR5) (λz=>z);have h8:[30,[644],D5,(ug++uh).map V.ref]:=by rw[ag,List.map_append]
 have p8:Paired (sZ [644]) (ug++uh) ([188,[112,[562]]].map (λp=>(p.st,1))++[188,[112,[563]]].map (λp=>(p.st,2))):=lu [25,R6,qF ((Keeps.gy s57).trans' k8) z] [25,R7,qF k8 z];have R1:∀ {b:Addr} {o:HO},[3,H4 b]->b≠D5:=λz=>aq z hD5;have s48:aS H4 [644]:=λb o z=>by rw[0,aj (R1 z),s57 _ _ (s5 _ _ z)]
 have s38:aS H3 [644]:=s4.trans s48;generalize hH8:upd H7 D5 (.lst (ug.map V.ref++uh.map V.ref))=H8 at h8 p8 s48 s38;rw[1,⟨_,rfl,[14,h8],_,rfl,D3,rfl,[158,s38 _ _ hR3],λD9 hD9=> ?_⟩,yf (K:=K) (BC:=c.BC) sZ (λp=>[46,(p.home !=0)=true,[11,p.st,6]]) qF (s38 _ _ hR3) [112,Yc,s38] (lf _) hD9 ?_ λH9 Tx s9 hR9 R8=> ?_]
 ·intro i b p H' N hp CK s1 n1 n2;obtain⟨u,dx,nd,nb,g1,g2⟩:=id CK;refine[515,dx];have eh:(! [2,[13,p.home],[211]])=(p.home !=0):=by
   rw[Bool.eq_iff_iff];simp only[Bool.not_eq_true',decide_eq_false_iff_not,bne_iff_ne,ne_eq];constructor
   ·intro h z;exact h (by rw[z];rfl)
   ·intro h z;rw[0,[290]]
  show[44,! [2,[13,p.home],[211]]];rw[eh];cases hm:(p.home != 0) with
   |true=>exact bY [2,b,_,dx,_,_,rfl,g1,R.B.cl,[82],rfl,(by rw[8]),λtp ou=>n2 (p.st,6) _ tp [291] (aB ou) ag]
   |false=>exact bg (n1 [291] _ [251])
 rw[ND] at R8;have e9:Tx.length<=9000:=by
  rw[Paired.length R8,List.length_map];exact Nat.le_trans [522] (lf _)
 refine⟨D5,D9,_,_,rfl,rfl,s9 _ _ h8,hR9,Mj (by rw[List.length_map,List.length_map,List.length_append];omega),?_⟩;have k10:Keeps my H9 [8,H9,D5,(ug++uh).map V.ref++Tx.map V.ref]:=oO (s9 _ _ h8) (λz=>z);refine[9,q _ D5 (λb o z=> ?_) ?_ [21,(ug++uh)++Tx,(by rw[ag,List.map_append (l₁:=ug++uh)])]]
 ·have z4:=s4 _ _ (Vf _ _ z);rw[0,aj (R1 z4),s9 _ _ (s48 _ _ z4)]
 ·cases e:H D5 with
  |none=>rfl
  |some o=>exact absurd rfl (R1 (s4 _ _ (Vf _ _ e)))
 ·exact lu [25,p8,qF ((Keeps.gy s9).trans' k10) z] [25,R8,qF k10 z]
end
end
section
theorem names_nodup(l:[23]):(l.map nI).Nodup↔l.Nodup:=by induction l with
 |nil=>simp
 |cons a r ih=>
  rw[List.map_cons,List.nodup_cons,List.nodup_cons,ih];constructor
  ·rintro⟨h1,h2⟩;rw[3,λz=>h1 [135,a,z],h2]
  ·rintro⟨h1,h2⟩;rw[7,λz=> ?_,h2];obtain⟨b,hb,e⟩:=List.mem_map.mp z;rw[DV e] at hb;exact h1 hb
section
variable {P:Program} {w:World} {K:PySem.W.Frag} {mg:[16]} {base:Heap} {c:Cs} {fB fU fV fS fW j7:Addr} {ja kM kN de jy:FuncData} {fa:[41]} {fm:[42]} {k:Nat}
theorem scFB:[4,[523],[523],I.cG]:=[11]
theorem OT(R:[49])(S:[491])(ms:[87,"set"])(dB:[1001]):aC P w K mg base fi 2 (fa I.cG) (fm I.cG) [523] (Z9 c):=by
 have GL:[1484]:=HK S;refine dB.F.ok scFB [20] [21]
 ·rw[15]
 obtain⟨T,a,t,lv,rfl,hT,cH,hsz,q⟩:=h;have hu:=hr.units;refine[57,ae [317,[14,vW,[34,Gx,R.ml,[491,[324]]],[372]]] (ae [317,[128,pv 1]] (ae [317,sM (dg (au GL hr rfl S.zy.m S.zy.F.kp S.zy.b .nil a6 [324]))] (ae [317,[14,yy,eW vw [37] aH [157],[218,[16,eW vw [37] aH [157]]]]] (ah (aG aH)))))];obtain⟨dx,pl,bl,nl,nv,vv,h1,hp,hb,hn,qk,gn,hv⟩:=hT.inv;obtain⟨zE,hL,hN⟩:=qk;have xb:t.names.length<=2000:=by rw[0,CN.QY t]
 have MV:∀ {k':Kd},t.kind≠k'->[8,[2,[178],[45,k']]]:=λ {k'} h=>by
  rw[oM];exact[837]
 have hky:∀ {k':Kd},t.kind=k'->[2,[178],[45,k']]=true:=λ {k'} h=>by
  rw[oM];exact decide_eq_true h
 by_cases k1:t.kind= .record
 ·rw[9,[304],[44,[2,[178],V.str "record"],hky (k':= .record) k1]];refine bY ⟨_,rfl,a,_,dx,_,_,rfl,h1,R.N.cl,R.N.n5,rfl,nl,zE,t.names.map nI,rfl,[374],?_,λm hm hk=> ?_,λp xs Sz hM oJ xa=> ?_⟩
  ·have:∀ {l:[14]} {m:[23]},Paired [954] l m->Paired [749] l (m.map nI):=by
    intro l m z;induction z with
     |nil=>exact .nil
     |cons r _ ih=>exact .cons (by rw[r,P6]) ih
   exact this hN
  ·refine Nat.le_trans [271,λx hx=>hk x hx] ?_;rw[List.length_map];omega
  have s2:=aB (o:=wx P w p xs) Sz;have hML:Mem (upd H p (wx P w p xs)) xs:=λx hx=>s2 _ _ (hM x hx);have hlen:[6,[554],t.names.length]:=by rw[47,hN]
  refine⟨p,xs,rfl,ag,hML,_,rfl,a,_,dx,_,_,rfl,[15,h1],R.N.cl,R.N.n5,rfl,nl,_,rfl,.inl (bP.of [15,hL]),_,_,rfl,rfl,_,rfl,?_⟩;have hd:decide ([2,xs.length]<[78,[554]])=Vanbkc.twice t.names:=by
   rw[hlen,Bool.eq_iff_iff,decide_eq_true_eq,CN.Iy,<-names_nodup];have e:=CN.HA (m:=[200]) (ks:=t.names.map nI) xa oJ;rw[List.length_map,List.length_map] at e;rw[<-e];omega
  rw[hd];cases htw:Vanbkc.twice t.names with
   |true=>
    have q:=q _ s2;unfold CN.aQ at q;rw[7,⟨k1,htw⟩];exact bY q
   |false=>
    refine[55];have h1':=[15,h1];refine[81,dx,h1'];rw[8,[64,"give",MV (k':= .km) (by rw[k1];decide)],bg (bg [81,dx,h1'])];rw[8,[64,"slider",MV (k':= .cq) (by rw[k1];decide)],bg (bg [81,dx,h1'])];rw[8,[64,"choice",MV (k':= .bW) (by rw[k1];decide)],bg [55]];have q:=q _ s2;have e:[312]=0:=by
     unfold CN.aQ;rw[if_neg (λz=>by rw[htw] at z;exact[142,z.2]),if_neg (λz=>by rw[k1] at z;exact absurd z.1 [3])];cases t.value<;>simp[k1]
    rw[12]
 ·rw[9,[304],[64,"record",MV (k':= .record) k1]];have q:=q H [251];have e1:[312]=if[1031] then 5 else[312]:=by
   by_cases z:[1031]
   ·rw[17,z];unfold CN.aQ;rw[[624],if_pos z]
   ·rw[16,z]
  refine bg (bg [304]);by_cases k2:t.kind= .km
  ·rw[8,[44,[2,[178],V.str "give"],hky (k':= .km) k2],bY [171]];by_cases h0:lv=0
   ·rw[if_pos ⟨k2,h0⟩] at e1;rw[e1] at q;rw[0,[48,[2,[13,lv],[211]],(by rw[h0];rfl)],bY q]
   ·rw[8,[66,[2,[13,lv],[211]],decide_eq_false (λz=>by rw[0,[290]])],bg [304]];rw[8,[64,"slider",MV (k':= .cq) (by rw[k2];decide)],bg (bg [304])];rw[8,[64,"choice",MV (k':= .bW) (by rw[k2];decide)],bg [55]];have e:[312]=0:=by
     unfold CN.aQ;rw[[624],[59,h0 z.2]];cases t.value<;>simp[k2]
    rw[12]
  ·rw[8,[64,"give",MV (k':= .km) k2],bg (bg [304])];by_cases k3:t.kind= .cq
   ·rw[[44,[2,[178],V.str "slider"],hky (k':= .cq) k3]];obtain⟨v,lo,hi,ev⟩:=cH.1 k3;have e2:[312]=[1313]:=by
     unfold CN.aQ;rw[[624],[59,k2 z.1],ev]
    rw[ev] at hv;rw[e2] at q;obtain⟨vb,rfl,hvb⟩:=hv;refine bY ⟨_,rfl,a,_,dx,_,_,rfl,h1,R.N.cl,R.N.n6,rfl,vb,v,lo,hi,rfl,hvb,_,rfl,?_⟩;by_cases qj:[504]
    ·rw[[41,[587],qj]];rw[[59,z.2 qj]] at q;refine bg [304];rw[0,[64,"choice",MV (k':= .bW) (by rw[k3];decide)],bg (bg q)]
    ·rw[[134,[587],qj]];rw[7,⟨k3,qj⟩];exact bY q
   ·rw[8,[64,"slider",MV (k':= .cq) k3],bg (bg [304])];by_cases k4:t.kind= .bW
    ·rw[[44,[2,[178],V.str "choice"],hky (k':= .bW) k4]];obtain⟨cn,cl,ev⟩:=cH.2 k4;have e2:[312]=[59,t.kind= .bW/\cl.length<=cn,8]:=by
      unfold CN.aQ;rw[[624],[59,k2 z.1],ev]
     rw[ev] at hv;rw[e2] at q;obtain⟨vb,qb,qas,rfl,hvb,hqb,hqp⟩:=hv;have YU:[6,qas.map V.ref,cl.length]:=by rw[47,hqp]
     refine bY ⟨_,rfl,a,_,dx,_,_,rfl,h1,R.N.cl,R.N.n6,rfl,vb,_,0,[6,cn],rfl,rfl,kT.of hvb,[203,0],_,rfl,a,_,dx,_,_,rfl,h1,R.N.cl,R.N.n6,rfl,vb,_,1,.ref qb,rfl,rfl,kT.of hvb,[203,1],qb,_,rfl,.inr (kT.of hqb),_,_,rfl,rfl,_,rfl,?_⟩;rw[YU];by_cases qj:cl.length<=cn
     ·rw[7,⟨k4,qj⟩];rw[0,[138,cl.length,cn],bY q]
     ·rw[[59,qj z.2]] at q;rw[0,[195,[10,[2,cl.length],[2,cn]]],bg q]
    ·rw[[64,"choice",MV (k':= .bW) k4]];have e:[312]=0:=by
      unfold CN.aQ;rw[[624],[59,k2 z.1]];cases t.value<;>simp[k3,k4]
     rw[e] at q;exact bg (bg q)
end
end
section
theorem yA {α β:Type} {F:[606]}:∀ {l:[34]} {m:[286]},l.length=m.length->(∀(i:Nat) x y,[3,l,x]->[3,m,y]->F x y)->Paired F l m
 | [],[],_,_=> .nil
 | [],_::_,h,_=>[180]
 |_::_,[],h,_=>[180]
 |x::l,y::m,h,f=> .cons (f 0 x y rfl rfl) (yA [247] λi a b e1 e2=>f (i+1) a b [677] [865])
def pk(a:[113]):[26]:=[[2,a.1],[2,a.2]]
def EI(k:[26]):[113]:=((k.getD 0 0).toNat,(k.getD 1 0).toNat)
theorem lO(a:[113]):EI (pk a)=a:=rfl
theorem Oq {a b:[113]}(h:ST.xr (pk a) (pk b)=true):CN.lex a b:=by
 simp only[pk,ST.xr,Bool.or_eq_true,Bool.and_eq_true,decide_eq_true_eq,Bool.not_eq_true',decide_eq_false_iff_not,Bool.false_eq_true,and_false,or_false] at h;rcases h with h|⟨h1,h2⟩
 ·exact .inl [2]
 ·by_cases e:a.1<b.1;rw[2,.inl e,.inr [72,[2]]]
section
variable {P:Program} {w:World} {K:PySem.W.Frag} {mg:[16]} {base:Heap} {c:Cs} {fB fU fV fS fW j7:Addr} {ja kM kN de jy:FuncData} {fa:[41]} {fm:[42]} {k:Nat}
theorem ZW:[4,["walk","pairs"],["walk"],I.gm]:=[11]
theorem HI(R:[49])(S:[491])(ms:[87,"set"])(mso:[87,"sorted"])(dF:[1287])(dP:[1208])(dR:[969]) (dV:[1289])(dB:[1001]):[1432]:=by
 have GP:[1431]:=HP R S dP dR;have GU:[1406]:=HV R S;have GV:aC P w K mg base fi 3 (fa I.gv) (fm I.gv) ["visits"] (aak c):=HW R dV dB (OT R S ms dB);refine dF.F.ok ZW [20] [21]
 ·rw[48]
 obtain⟨T,G,wa,wk,lv,st,rfl,⟨dx,pl,ul,fl,vl,hl,cK,eK,gN,fM,d⟩,h1,h2,h3,hvo,Sk,q⟩:=h;have hu:=hr.units;have eP:=[23,2];have j6:=[23,3];refine[34,[16,ZW.nd,jo Eb (jo Eb (au GP eP rfl dP.m dP.F.kp dP.b .nil a6 [324]) (au GU eP rfl S.Ad.m S.Ad.F.kp S.Ad.b .nil a6 [18,[37],[37]])) (au GV j6 rfl dV.m dV.F.kp dV.b .nil a6 [324])],[17,bO (C5 rfl) rfl mso PyProof.Rows.boot_sorted [491,[45]]]];have Mj:∀ {n:Nat},n<=81000->[24,n]:=λh=>[944];refine⟨_,rfl,wa,_,dx,_,_,rfl,d.wk,R.W.cl,[22],rfl,pl,wk.places,cK,rfl,d.p,yA d.uf (λi x y e1 e2=>[34,d.pp i x y e1 e2]),h1,λH1 l1 s1 IF ⟨MP,hA1,hP1⟩=> ?_⟩;have d1:=d.same s1;refine⟨_,rfl,wa,_,dx,_,_,rfl,d1.wk,R.W.cl,[22],rfl,_,rfl,wa,_,dx,_,_,rfl,d1.wk,R.W.cl,[22],rfl,ul,pl,wk.uses,wk.places,_,eK,cK,rfl,d1.u,d1.up,d1.p,d1.uf,d1.pp,d1.ur,h2,λH2 l2 s2 Hi ⟨IX,hA2,hP2⟩=> ?_⟩;have pp3:[32,CN.ly wk.places,27000]:=by
  unfold CN.ly;simp only[List.length_append,List.length_map];have a1:=pz [] [361,[562]];have a2:=pz [] [361,[563]];have b1:=[388,[562]];have b2:=[388,[563]];have b3:=[388,CN.fX p.kind];have b4:=List.length_filter_le (λp:Pl=>p.home !=0) [361,CN.fX p.kind];omega
 have up3:[32,CN.ie wk.uses wk.places,9000]:=by
  unfold CN.ie;rw[20,[368,h2]]
 have vp3:[32,CN.fz wk.cE,9000]:=by
  unfold CN.fz;rw[20,[368,h3]]
 have L1:=Paired.length hP1;have L2':=Paired.length hP2;refine⟨l1,l2,_,_,rfl,rfl,[15,hA1],hA2,Mj (by rw[List.length_map,List.length_map];omega),λBG hp12=> ?_⟩;have s3:=[110,MP.map V.ref++IX.map V.ref,hp12];have d3:=(d1.same s2).same s3;refine⟨_,rfl,wa,_,dx,_,_,rfl,d3.wk,R.W.cl,[22],rfl,_,vl,wk.cE,fM,rfl,d3.v,d3.vp,hvo,h3,λH4 l4 s4 hl4 ⟨Nd,hA4,R5⟩=> ?_⟩;have L4:=Paired.length R5;refine⟨BG,l4,_,_,rfl,rfl,s4 _ _ ag,hA4,Mj (by rw[List.length_append,List.length_map,List.length_map,List.length_map];omega),[244]⟩;have s5:=[110,[1087],hp];have eF:Paired (sZ [959]) (MP++IX++Nd) [687]:=by
  have ZT:=(s3.trans s4).trans s5;exact lu (lu [25,hP1,ZT _ _ [15,z]] [25,hP2,ZT _ _ z]) [25,R5,s5 _ _ z]
 have bQ:[30,[959],p,(MP++IX++Nd).map V.ref]:=by rw[ag,List.map_append,List.map_append]
 have s05:aS H [959]:=(([250].trans s3).trans s4).trans s5;generalize upd H4 p (.lst (MP.map V.ref++IX.map V.ref++Nd.map V.ref))=H5 at eF bQ s05;have YG:Paired [1295] (MP++IX++Nd) ([687].map pk):=by
  have:∀ {l:[14]} {m:[136]},Paired (sZ H5) l m->Paired [1295] l (m.map pk):=by
   intro l m z;induction z with
    |nil=>exact .nil
    |cons r _ ih=>exact .cons r ih
  exact this eF
 refine⟨_,rfl,p,MP++IX++Nd,[687].map pk,rfl,bP.of bQ,YG,λm hm YK=> ?_,λsp xs vf hM oJ xa=> ?_⟩
 ·have Kl:(m.map EI).Nodup:=by
   rw[List.Nodup,List.pairwise_map];refine[360,hm];intro x y hx hy Ob e;obtain⟨a,_,rfl⟩:=List.mem_map.mp (YK x hx);obtain⟨b,_,rfl⟩:=List.mem_map.mp (YK y hy);rw[lO,lO] at e;exact Ob [300]
  have:=Sk (m.map EI) Kl λa ha=>by
   obtain⟨x,hx,rfl⟩:=[909];obtain⟨b,hb,rfl⟩:=List.mem_map.mp (YK x hx);rw[lO];exact hb
  rw[List.length_map] at this;omega
 have s6:=aB (o:=wx P w sp xs) vf;have DB:∀x∈xs,∃a∈[687],x.1=pk a:=λx hx=>by
  obtain⟨a,ha,e⟩:=List.mem_map.mp ((oJ x.1).mp [135,x,hx]);rw[0,a,ha,e.symm]
 refine⟨sp,xs,rfl,ag,λx hx=>s6 _ _ (hM x hx),[427],λl ys hl AX hpw=> ?_⟩
 ·obtain⟨a,_,e⟩:=DB x hx;rw[e];exact[222]
 have s7:=[110,[623],hl];refine q _ l (ys.map λy=>EI y.1) (s05.trans (s6.trans s7)) ?_ (λa=> ?_) [21,ys.map (·.2),(by rw[ag,List.map_map];rfl)]
 ·rw[List.pairwise_map] at hpw ⊢;refine[360,hpw];intro x y hx hy Ob;obtain⟨a,_,ea⟩:=DB x (AX.mem_iff.mp hx);obtain⟨b,_,eb⟩:=DB y (AX.mem_iff.mp hy);rw[ea,eb] at Ob;rw[ea,eb,lO,lO];exact Oq Ob
 ·constructor
  ·intro ha;rw[40,ha];obtain⟨b,hb,eb⟩:=DB y (AX.mem_iff.mp hy);rw[eb,lO];exact hb
  ·intro ha;obtain⟨x,hx,e⟩:=List.mem_map.mp ((oJ (pk a)).mpr [135,a,ha]);exact List.mem_map.mpr ⟨x,AX.mem_iff.mpr hx,by rw[e,lO]⟩
 ·have:∀ {zs:[85]},(∀z∈zs,z∈xs)->Paired (λa (y:[113])=>(upd (upd H5 sp (wx P w sp xs)) l (.lst [623])) a=some [1203]) (zs.map (·.2)) (zs.map λy=>EI y.1):=by
   intro zs;induction zs with
    |nil=>
     intro _;exact .nil
    |cons z r ih=>
     intro hz;refine .cons ?_ (ih λy hy=>hz y [19,hy]);obtain⟨a,_,ea⟩:=DB z [1184];have:=s7 _ _ (s6 _ _ (hM z [1184]));refine Eq.trans this ?_;show some (HO.tup (iV z.1))=some (HO.tup [[13,(EI z.1).1],[13,(EI z.1).2]]);rw[ea,lO];rfl
  exact this λz hz=>AX.mem_iff.mp hz
end
end
end CP
end
section
namespace CP
open PySem PySem.Spec PyProof.Rows L2
open Vanbka (Bytes)
section
variable {K:PySem.W.Frag} {x qual:Str} {st:Stmt} {f C d:Addr} {oc doc pm bU ct:Value} {od an:[241]} {vY:[565]} {fd:FuncData} {mg:[16]} {n ep:Nat} {o:Obj} {P:Program} {w:World} {cF:[134]} {es:Array DictEntry}
structure b7(K:PySem.W.Frag)(x:Str)(st:Stmt)(f:Addr)(fd:FuncData):Prop where
 a:PySem.W.nsIn K mainGlobals x=some (some (.ref f))
 F:ot K x x st f fd
theorem Nv {kV:Value}(a:[61,x,f]) (l:[214,[337,x]])(c:PySem.W.codeIn K bU x=true)(k:[85,K,[110]]):b7 K x st f [337,x]:=⟨a,JJ l c k⟩
theorem b7.df {h:Heap} {ps:[19]}(X:[151])(G:[619])(d:b7 K x st f fd)(b:[751]):Df K mg x st ps f fd:=⟨d.F,b,[20,d.a]⟩
structure pL(K:PySem.W.Frag)(C:Addr)(x qual:Str)(st:Stmt)(f:Addr)(fd:FuncData):Prop where
 a:PySem.W.findIn K (.ref C) x=some (some (.ref f))
 i:PySem.W.isFn K (.ref f)=true
 F:ot K x qual st f fd
theorem OA {kV:Value}(a:[310,x])(i:[993]) (l:[214,[531]])(c:[613])(k:[85,K,[110]]):pL K C x qual st f [531]:=⟨a,i,JJ l c k⟩
theorem pL.OB(m:pL K C x qual st f fd):Meth K C x f:=⟨m.a,m.i,m.F.kp⟩
structure CV(K:PySem.W.Frag)(C:Addr)(x qual:Str)(st:Stmt)(f:Addr)(fd:FuncData)(n:Nat):Prop where
 a:PySem.W.findIn K (.ref C) x=some (some (.ref f))
 i:PySem.W.isFn K (.ref f)=true
 F:IM K x qual st f fd
 ex:∃(T:Addr) (o:Obj) (m:Nat) (kV doc pm:Value) (an:Option Addr) (bU ct:Value),fd=PySem.W.fnOf x qual (il st) (fc st) (ai st) (.ref T) kV doc pm an bU ct/\K.lookup T=some o/\o.data= .seq (List.replicate n Value.none).toArray m
theorem Oz {kV:Value} {T:Addr} {m:Nat}(a:[310,x])(i:[993]) (l:[214,[1485]])(c:[613])(lt:[278,T])(dt:o.data= .seq (List.replicate n Value.none).toArray m):CV K C x qual st f [1485] n:=⟨a,i,⟨oc,od,_,kV,doc,pm,an,bU,ct,vY,rfl,l,c⟩,T,o,m,kV,doc,pm,an,bU,ct,rfl,lt,dt⟩
structure xf(K:PySem.W.Frag)(x:Str)(C:Addr)(fs:List Str):Prop where
 a:PySem.W.nsIn K mainGlobals x=some (some (.ref C))
 cl:CQ K C
 OC:PySem.W.makesIn K C=true
 kp:PySem.W.keepIn K (.ref C)=true
 na:∀y∈fs,eB K C y
theorem OH:∀ {fs:[19]},([1373])->∀y∈fs,eB K C y:=λ {fs} h y hy=>by
 have:=List.all_eq_true.mp h y hy;exact eq_of_beq this
theorem Nm {fs:[19]}(a:[61,x,C])(pg:[315,Str.empty])(hd:[992])(po:[1261])(sa:[1260]) (mk:[1262])(kp:[85,K,[87]])(na:[1373]):xf K x C fs:=⟨a,⟨pg,hd,po,sa⟩,mk,kp,OH na⟩
theorem PX {a:Addr} {xs:[13]} {bo:[93]}(l:[278,a])(c:o.cls=[219])(d:o.data= .seq bo n)(s:[24,bo.size])(v:Vals xs bo.toList):∀H,[305]:=λ_=>Or.inr ⟨o,bo,n,l,c,d,s,v⟩
inductive sY(w:World):List (Key×V)->List DictEntry->Prop
 |nil:sY w [] []
 |cons {k:Key} {v:V} {e:DictEntry} {cF:List (Key×V)} {es:List DictEntry}:vz k e.key=true->e.hash=Zj w k->RelV v e.val->sY w cF es->sY w ((k,v)::cF) (e::es)
theorem sY.all {cF:[218]} {es:List DictEntry}(h:sY w cF es):(∀e∈es,∃k,(bw P w).is k e.key=true/\e.hash=(bw P w).hash k)/\∃vs:[234,Key],KV cF vs/\PySem.Pairs (bw P w) es vs/\vs.map [44]=[689]:=by induction h with
 |nil=>exact⟨λe he=>(nomatch he),[],.nil,.nil,rfl⟩
 | @cons k v e cF es h1 h2 h3 _ ih=>
  obtain⟨g1,vs,g2,g3,g4⟩:=ih;refine⟨λe' AR=> ?_,(k,e.val)::vs,.cons [18,h3] g2,.cons h1 rfl g3,by rw[List.map_cons,List.map_cons,g4]⟩;rcases List.mem_cons.mp AR with rfl|AR;rw[2,⟨k,h1,h2⟩,g1 e' AR]
theorem KP {cF:[218]}(l:[278,d])(hc:o.ExactDict)(hd:[903])(he:sY w cF es.toList)(hn:([689]).Nodup)(hs:[108,d]):[58,d,cF]:=by
 rw[7,hs,λh X=> ?_];obtain⟨g1,vs,g2,g3,g4⟩:=he.all (P:=P);rw[4,⟨vs,g2,o,es,ep,X d o l,hc,hd,λe AR=>g1 e ?_,g3,by rw[g4];exact hn⟩,Array.mem_toList_iff.mpr AR]
inductive Al(w:World)(P:Program)(K:PySem.W.Frag):List (List Key×V)->List DictEntry->Prop
 |nil:Al w P K [] []
 |cons {k:List Key} {v:V} {e:DictEntry} {cF:List (List Key×V)} {es:List DictEntry} {a:Addr} {o:Obj} {bo:Array Value} {n:Nat} (ka:e.key= .ref a) (kl:K.lookup a=some o) (kc:o.cls= .type "tuple") (kd:o.data= .seq bo n) (kv:Vals (k.map kV) bo.toList) (kh:e.hash=tupleKeyHash (bw P w) k) (kr:RelV v e.val) (kz:Al w P K cF es):Al w P K ((k,v)::cF) (e::es)
theorem Al.all {es:List DictEntry}(h:Al w P K cF es) {hp:Heap}(X:K.In hp):∃xs:[102],[322,p.1=q.1/\RelV p.2 q.2.2]/\es=xs.map (entryOfKey [191])/\(∀x∈xs,[191].is hp x.1 x.2.1)/\[200]=[689]:=by induction h with
 |nil=>exact⟨[],.nil,rfl,[679],rfl⟩
 | @cons k v e cF es a o bo n h1 h2 h3 h4 h5 h6 h7 _ ih=>
  obtain⟨xs,g1,g2,g3,g4⟩:=ih;refine⟨(k,a,e.val)::xs,.cons [18,h7] g1,?_,[427],by rw[List.map_cons,List.map_cons,g4]⟩
  ·rw[List.map_cons,g2];congr 1;obtain⟨eh,ek,ev⟩:=e;simp only at h1 h6;subst h1;subst h6;rfl
  ·rcases List.mem_cons.mp hx with rfl|hx;rw[2,⟨o,bo,n,X a o h2,h3,h4,sx h5⟩,g3 x hx]
theorem Hr(l:[278,d])(hc:o.ExactDict)(hd:[903])(he:Al w P K cF es.toList)(hn:([689]).Nodup)(hs:[108,d]):y6 P w K d cF:=by
 rw[7,hs,λh X=> ?_];obtain⟨xs,g1,g2,g3,g4⟩:=he.all X;exact⟨xs,g1,o,es,ep,X d o l,hc,hd,g2,g3,by rw[g4];exact hn⟩
theorem Zn {base:Heap} {bm:[6]} {nid:String}(X:K.In base)(m:mg x=some [87])(q:PySem.W.excIn K C bm nid=true):OwnCls x C bm nid mg base:=by
 rw[7,m,?_];unfold PySem.W.excIn at q;split at q
 case h_2=>cases q
 case h_1 dd cd sl ho=>
  split at q
  case h_2=>cases q
  case h_1 C' rest k0 k1 k2 k3 n k5 hm hs=>
   simp only[Bool.and_eq_true,beq_iff_eq,Bool.not_eq_true'] at q;obtain⟨⟨⟨⟨⟨e1,e2⟩,Ys⟩,ht⟩,cH⟩,YM⟩:=q;subst e1 e2;have Qy:sl= #[k0,k1,k2,k3,some (.builtin n),k5]:=Array.toList_inj.mp hs;subst Qy;cases cd;dsimp only at hm Ys cH YM;subst hm Ys;exact⟨rest,_,_,_,_,_,_,_,_,_,dd,k0,k1,k2,k3,k5,_,X _ _ ho,.of_isNs (PySem.W.isNs_of_in X cH),PySem.W.nsMap_none_of_in X cH YM,PySem.W.tail_of_in X ht⟩
theorem D0(m:[1321]):Binds K fd lS [.none,.none,.none,.none,.none]:=by
 obtain⟨T,o,mm,kV,doc,pm,an,bU,ct,rfl,lk,hd⟩:=m.ex;intro s us X hl;have hl:us.length=2:=by simpa using hl
 match us,hl with
  | [_,_],_=>rw[23]
theorem Au(m:[1320]):Binds K fd M3 [.none,.none,.none]:=by
 obtain⟨T,o,mm,kV,doc,pm,an,bU,ct,rfl,lk,hd⟩:=m.ex;intro s us X hl;have hl:us.length=2:=by simpa using hl
 match us,hl with
  | [_,_],_=>rw[23]
theorem As(m:[1320]):Binds K fd M3 []:=by
 obtain⟨T,o,mm,kV,doc,pm,an,bU,ct,rfl,lk,hd⟩:=m.ex;intro s us X hl;have hl:us.length=5:=by simpa using hl
 match us,hl with
  | [_,_,_,_,_],_=>rw[23]
theorem Bv(m:[1321])(p:NP):CT K fd lS p.ks (p.put Value.none) (p.put V.cg):=by
 obtain⟨T,o,mm,kV,doc,pm,an,bU,ct,rfl,lk,hd⟩:=m.ex;refine⟨λs us ws X hl=> ?_,λ {vs us zs ws} r rz=> ?_⟩
 ·cases p
  ·match us,ws,hl with| [_,_],[_],_=>rw[23]
  ·rw[77]
  ·rw[77]
  ·match us,ws,hl with| [_,_],[_,_,_],_=>rw[23]
  ·rw[77]
  ·match us,ws,hl with| [_,_],[_],_=>rw[23]
  ·match us,ws,hl with| [_,_],[_],_=>rw[23]
  ·rw[77]
  ·match us,ws,hl with| [_,_],[_,_,_],_=>rw[23]
 ·have z:RelV V.cg Value.none:=rfl;rcases r with _|⟨r1,_|⟨r2,_|⟨r3,r⟩⟩⟩<;>rcases rz with _|⟨q1,_|⟨q2,_|⟨q3,_|⟨q4,rz⟩⟩⟩⟩<;>cases p<;>first|exact .nil|exact .cons r1 (.cons r2 (.cons (by first|exact z|exact q1) (.cons [1245] (.cons (by first|exact z|exact q1|exact q2|exact q3) (.cons (by first|exact z|exact q2|exact q3) [55,[1245]])))))
end
section
abbrev BA(x qual:Str)(st:Stmt)(ps:[19]):Prop:=[1448]
section
variable {K:PySem.W.Frag} {h:Heap} {mg:[16]} {f C:Addr} {fd:FuncData} {x qual:Str} {st:Stmt} {ps:[19]}
theorem pL.q(m:pL K C x qual st f fd)(b:BA x qual st ps:=by rw[126]):[751]:=m.F.binds b
theorem b7.q(d:b7 K x st f fd)(X:[151])(G:[619])(b:BA x x st ps:=by rw[126]):Df K mg x st ps f fd:=d.df X G (d.F.binds b)
end
end
abbrev exB:[6]:=[1371]
theorem all_mk {P:Program} {w:World} {K:PySem.W.Frag} {h:Heap} {mg:[16]} {fa0:Addr} {VF:Addr} {bD:FuncData} {VG:Addr} {WU:FuncData} {VH:Addr} {WV:FuncData} {VI:Addr} {WW:FuncData} {VJ:Addr} {WX:FuncData} {VL:Addr} {WY:FuncData} {VM:Addr} {WZ:FuncData} {VN:Addr} {W0:FuncData} {VO:Addr} {W2:FuncData} {VP:Addr} {W3:FuncData} {VQ:Addr} {W4:FuncData} {VR:Addr} {W5:FuncData} {VS:Addr} {W6:FuncData} {VT:Addr} {W7:FuncData} {UB:Addr} {UJ:FuncData} {UD:Addr} {UK:FuncData} {UE:Addr} {UL:FuncData} {VU:Addr} {W8:FuncData} {VV:Addr} {W9:FuncData} {VW:Addr} {W':FuncData} {VX:Addr} {Xa:FuncData} {VY:Addr} {Xc:FuncData} {VZ:Addr} {Xd:FuncData} {V0:Addr} {Xe:FuncData} {V1:Addr} {Xf:FuncData} {V2:Addr} {Xg:FuncData} {V3:Addr} {Xh:FuncData} {V4:Addr} {Xi:FuncData} {V5:Addr} {Xj:FuncData} {V6:Addr} {Xk:FuncData} {V7:Addr} {Xl:FuncData} {V8:Addr} {Xm:FuncData} {V9:Addr} {Xn:FuncData} {Wa:Addr} {Xo:FuncData} {Wb:Addr} {Xp:FuncData} {Wc:Addr} {Xq:FuncData} {We:Addr} {Xr:FuncData} {Wg:Addr} {Xs:FuncData} {Wh:Addr} {Xt:FuncData} {Wi:Addr} {Xu:FuncData} {Wj:Addr} {Xv:FuncData} {Wl:Addr} {Xw:FuncData} {Wm:Addr} {Xx:FuncData} {Wn:Addr} {Xy:FuncData} {Wo:Addr} {Xz:FuncData} {Wq:Addr} {XA:FuncData} {Ws:Addr} {XB:FuncData} {Wt:Addr} {XC:FuncData} {Wu:Addr} {XD:FuncData} {Wv:Addr} {XE:FuncData} {Ww:Addr} {XF:FuncData} {Wx:Addr} {XG:FuncData} {Wy:Addr} {XH:FuncData} {Wz:Addr} {XI:FuncData} {WA:Addr} {XJ:FuncData} {WB:Addr} {XM:FuncData} {WE:Addr} {XN:FuncData} {WG:Addr} {XO:FuncData} {WH:Addr} {XQ:FuncData} {WI:Addr} {XR:FuncData} {WJ:Addr} {XS:FuncData} {WK:Addr} {XT:FuncData} {WL:Addr} {XU:FuncData} {WM:Addr} {XW:FuncData} {WN:Addr} {XX:FuncData} {Jt:Addr} {JL:FuncData} {G3:Addr} {Dl:FuncData} {C1:Addr} {C10:Addr} {Ju:Addr} {JM:FuncData} {Uu:Addr} {Jv:Addr} {JN:FuncData} {M8:Addr} {Qb:Addr} {Qk:FuncData} {Jw:Addr} {JO:FuncData} {Jx:Addr} {JP:FuncData} {Jy:Addr} {JQ:FuncData} {Jz:Addr} {JR:FuncData} {C73:Addr} {Qc:Addr} {Ql:FuncData} {C74:Addr} {Qe:Addr} {Qm:FuncData} {C75:Addr} {Qg:Addr} {Qn:FuncData} {C76:Addr} {Qh:Addr} {Qo:FuncData} {C77:Addr} {Qi:Addr} {Qp:FuncData} {Q8:Addr} {Js:Addr} {JK:FuncData} {rM:PySem.Tok} {xD:PySem.Tok} {pR:PySem.Tok} {z8:PySem.Tok} {t_LET:PySem.Tok} {Mo:PySem.Tok} {Mn:PySem.Tok} {t_FOR:PySem.Tok} {ED:PySem.Tok} {Cn:PySem.Tok} {rN:PySem.Tok} {Ue:PySem.Tok} {z7:PySem.Tok} {EE:PySem.Tok} {EC:PySem.Tok} {uL:Addr} {mf:Addr} {l9:Addr} {i5:Addr} {oz:Addr} {jC:Addr} {uK:Addr}(X:[151])(G:[619])(hfa:[95,"faults",fa0]) (d11:[2,"spelled",I.spelled,VF,bD]) (d12:[2,"is_allowed",I.vm,VG,WU]) (VB:[2,"is_digit",I.A1,VH,WV]) (d14:[2,"begins_word",I.tf,VI,WW]) (d15:[2,"continues_word",I.oE,VJ,WX]) (d16:[2,"comment_end",I.tj,VL,WY]) (d17:[2,"word_token",I.wY,VM,WZ]) (d18:[2,"number_token",I.rg,VN,W0]) (d19:[2,"quoted_token",I.ro,VO,W2]) (d20:[2,"said_behind_backslash",I.jz,VP,W3]) (d21:[2,"sign_token",I.wA,VQ,W4]) (d22:[2,"token_at",I.Cp,VR,W5]) (d23:[2,"cut_tokens",I.kX,VS,W6]) (d24:[2,"brackets_too_deep",I.fb,VT,W7]) (d27:[2,"given_or_empty",I.jj,UB,UJ]) (d28:[2,"deepest",I.bX,UD,UK]) (d29:[2,"program_depth",I.gL,UE,UL]) (d35:[2,"read_program",I.ff,VU,W8]) (d36:[2,"read_statements",I.dU,VV,W9]) (d37:[2,"read_block",I.iY,VW,W']) (d38:[2,"read_statement",I.eG,VX,Xa]) (d39:[2,"read_let_or_set",I.dO,VY,Xc]) (d40:[2,"read_telling",I.gE,VZ,Xd]) (d41:[2,"read_if",I.nG,V0,Xe]) (d42:[2,"read_while",I.iZ,V1,Xf]) (d43:[2,"read_for",I.lz,V2,Xg]) (d44:[2,"read_slider",I.hZ,V3,Xh]) (d45:[2,"read_whole",I.lA,V4,Xi]) (d46:[2,"read_choice",I.gZ,V5,Xj]) (d47:[2,"read_expression",I.dM,V6,Xk]) (d48:[2,"read_or",I.nH,V7,Xl]) (d49:[2,"read_not",I.iM,V8,Xm]) (d50:[2,"read_compared",I.ft,V9,Xn]) (d51:[2,"read_joined",I.hJ,Wa,Xo]) (d52:[2,"read_chain",I.cX,Wb,Xp]) (d53:[2,"join_last",I.cZ,Wc,Xq]) (d54:[2,"read_signed",I.d7,We,Xr]) (d55:[2,"read_reached",I.gD,Wg,Xs]) (d56:[2,"read_listed",I.hW,Wh,Xt]) (d57:[2,"read_simple",I.hX,Wi,Xu]) (d58:[2,"read_record_or_bracketed",I.bu,Wj,Xv]) (d59:[2,"read_record_fields",I.cM,Wl,Xw]) (d60:[2,"read_function",I.fw,Wm,Xx]) (d61:[2,"read_parameters",I.gH,Wn,Xy]) (d62:[2,"read_word_call",I.eI,Wo,Xz]) (d78:[2,"walk_program",I.cY,Wq,XA]) (d79:[2,"walk_node",I.gi,Ws,XB]) (d80:[2,"walk_making",I.ig,Wt,XC]) (d81:[2,"walk_for",I.lE,Wu,XD]) (d82:[2,"walk_function",I.fH,Wv,XE]) (d83:[2,"walk_other",I.i4,Ww,XF]) (d84:[2,"walk_parts",I.eN,Wx,XG]) (d85:[2,"walk_block",I.eM,Wy,XH]) (d86:[2,"new_block",I.f9,Wz,XI]) (d87:[2,"add_place",I.fR,WA,XJ]) (d88:[2,"add_use",I.mZ,WB,XM]) (d89:[2,"nearest",I.bK,WE,XN]) (d91:[2,"fault_pairs",I.gm,WG,XO]) (d92:[2,"place_pairs",I.cx,WH,XQ]) (d93:[2,"repeated",I.repeated,WI,XR]) (d94:[2,"use_pairs",I.i8,WJ,XS]) (d95:[2,"may_be_set",I.iW,WK,XT]) (d96:[2,"visit_pairs",I.gv,WL,XU]) (d97:[2,"fault_by_itself",I.cG,WM,XW]) (d98:[2,"within_limits",I.fJ,WN,XX]) (Nt:[2,"good_cell",I.i6,Jt,JL]) (Jh:[2,"faults",I.faults,G3,Dl]) (aN:[61,"NotGood",C1]) (xN:PySem.W.excIn K C1 [1371] "Exception.__new__"=true) (Ni:xf K "Token" C10 ["kind","value","end"]) (yi:[4,C10,"Token.__init__",I.Token,Ju,JM]) (Gv:xf K "Node" Uu ["kind","parts","blocks","name","names","value","depth"]) (vI:CV K Uu "__init__" "Node.__init__" [172,I.Node] Jv JN 5) (P7:xf K "Cursor" M8 ["tokens","place"]) (yj:[4,M8,"Cursor.__init__",I.Cursor,Qb,Qk]) (Be:pL K M8 "ahead" "Cursor.ahead" [130,1] Jw JO) (Bf:pL K M8 "sees" "Cursor.sees" [130,2] Jx JP) (Bg:pL K M8 "take" "Cursor.take" [130,3] Jy JQ) (Bh:pL K M8 "takes_if_seen" "Cursor.takes_if_seen" [130,4] Jz JR) (Rn:xf K "BindingPlace" C73 fsB) (yk:[4,C73,"BindingPlace.__init__",I.mM,Qc,Ql]) (Ro:xf K "Use" C74 fsU) (yl:[4,C74,"Use.__init__",I.Use,Qe,Qm]) (Rp:xf K "Visit" C75 fsV) (ym:[4,C75,"Visit.__init__",I.IQ,Qg,Qn]) (Rq:xf K "FunctionSpan" C76 fsS) (yn:[4,C76,"FunctionSpan.__init__",I.mU,Qh,Qo]) (Rr:xf K "Walk" C77 fsW) (yo:[4,C77,"Walk.__init__",I.Walk,Qi,Qp]) (C3:xf K "Cell" Q8 ["refusal","statements","walk","pairs"]) (qt:CV K Q8 "__init__" "Cell.__init__" [172,I.Cell] Js JK 3) (jl:[16,"MOST_WORD_BYTES",16,rM]) (lR:[16,"MOST_DIGITS",30,xD]) (iD:[16,"BRACKETS_TOO_DEEP",25,pR]) (nr:[16,"MOST_DEPTH",40,z8]) (K0:[16,"LET",0,t_LET]) (vQ:[16,"SLIDER",1,Mo]) (vO:[16,"CHOICE",2,Mn]) (KZ:[16,"FOR",3,t_FOR]) (qw:[16,"OWN_NAME",4,ED]) (oU:[16,"PARAMETER",5,Cn]) (jm:[16,"OUTERMOST_BLOCK",0,rN]) (DW:[16,"FREE",-1,Ue]) (nq:[16,"MOST_BYTES",600,z7]) (qy:[16,"TOO_LONG",-1,EE]) (qv:[16,"NOT_GOOD",-2,EC]) (MH:[74,"len"]) (nS:[74,"tuple"]) (MK:[74,"ord"]) (EM:[74,"dict"]) (MJ:[74,"max"]) (ML:[74,"set"]) (wZ:[74,"sorted"]) (qI:[74,"reversed"]) (px:[74,"enumerate"]) (MI:[74,"list"]) (Q7:[74,"any"]) (Q6:[74,"all"]) (qx:[61,"RESERVED",uL]) (qo:∀H,kT K H uL Ig) (jM:[61,"TWO_BYTE_SIGNS",mf]) (jJ:y6 P w K mf sU) (jK:[61,"ONE_BYTE_SIGNS",l9]) (jH:[58,l9,sH]) (f7:[61,"SAID_BEHIND_BACKSLASH",i5]) (fZ:[58,i5,pA]) (oV:[61,"STRENGTHS",oz]) (oN:[58,oz,lW]) (jL:[61,"PARTS_OF_WORDS",jC]) (jI:[58,jC,wg]) (vP:[61,"MAKING",uK]) (vy:[58,uK,yu]):∃fd:FuncData,[244,us.length=([95]:[19]).length->[293,([95]:[19]).zip us]]/\∀base:Heap,K.In base->([945])->aC P w K mg base fi 391 fa0 fd [95] (PB K):=by
 have e:G3=fa0:=by
  have z:=[20,Jh.a].symm.trans hfa;injection z with z;injection z
 subst e;have w6:[244,us.length=([95]:[19]).length->BindsTo s Dl [49,us] (([95]:[19]).zip us)]:=by
  obtain⟨oc,od,kV,doc,pm,an,bU,ct,vY,rfl,lk,xZ⟩:=Jh.F.ex;intro s us hu;match us,hu with
   | [_],_=>exact .of_eq rfl
 refine⟨Dl,w6,λbase Xb Gb=> ?_⟩;have ml:=[69,MH];have NG:Ng K mg base C1 exB "Exception.__new__" "Exception.__init__" "Exception":=⟨Zn Xb [20,aN] xN,PySem.F.excBase_Exception⟩;have TK:iR K mg C10 Ju JM:=⟨Ni.cl,(Ni.na "kind" [32]),(Ni.na "value" [32]),(Ni.na "end" [32]),[20,Ni.a],⟨Ni.OC,yi.a,yi.i,Ni.kp⟩,yi.F,yi.q⟩;have CU:mQ K mg M8 Jw Jx Jy Jz JO JP JQ JR:=⟨P7.cl,(P7.na "tokens" [32]),(P7.na "place" [32]),Be.OB,Be.F,Be.q,Bf.OB,Bf.F,Bf.q,Bg.OB,Bg.F,Bg.q,Bh.OB,Bh.F,Bh.q⟩;have NC:NodeCls K Uu:=⟨Gv.cl,[157,"kind"],[157,"parts"],[157,"blocks"],[157,"name"],[157,"names"],[157,"value"],[157,"depth"]⟩;have NI:ES K mg Uu Jv UB UD UE JN UJ UK UL:={toNodeCls:=NC,mC:=[20,Gv.a],M:=⟨Gv.OC,vI.a,vI.i,Gv.kp⟩,F:=vI.F,b:=D0 vI,kb:=Bv vI,dG:=(d27.q X G),dD:=(d28.q X G),dP:=(d29.q X G),mm:=[69,MJ]};have RD:Rd P w K mg base C1 M8 C10 Uu Ju Jw Jx Jy Jz Jv oz jC JM JO JP JQ JR JN exB "Exception.__new__" "Exception.__init__" "Exception" [307,[0,0,0,0,0,0,0,0,0,0,0,VF,VG,VH,VI,VJ,VL,VM,VN,VO,VP,VQ,VR,VS,VT,0,0,UB,UD,UE,0,0,0,0,0,VU,VV,VW,VX,VY,VZ,V0,V1,V2,V3,V4,V5,V6,V7,V8,V9,Wa,Wb,Wc,We,Wg,Wh,Wi,Wj,Wl,Wm,Wn,Wo,0,0,0,0,0,0,0,0,0,0,0,0,0,0,0,Wq,Ws,Wt,Wu,Wv,Ww,Wx,Wy,Wz,WA,WB,WE,0,WG,WH,WI,WJ,WK,WL,WM,WN,0,0,0,0,0,Jt,0,G3]] [308,[bD,bD,bD,bD,bD,bD,bD,bD,bD,bD,bD,bD,WU,WV,WW,WX,WY,WZ,W0,W2,W3,W4,W5,W6,W7,bD,bD,UJ,UK,UL,bD,bD,bD,bD,bD,W8,W9,W',Xa,Xc,Xd,Xe,Xf,Xg,Xh,Xi,Xj,Xk,Xl,Xm,Xn,Xo,Xp,Xq,Xr,Xs,Xt,Xu,Xv,Xw,Xx,Xy,Xz,bD,bD,bD,bD,bD,bD,bD,bD,bD,bD,bD,bD,bD,bD,bD,XA,XB,XC,XD,XE,XF,XG,XH,XI,XJ,XM,XN,bD,XO,XQ,XR,XS,XT,XU,XW,XX,bD,bD,bD,bD,bD,JL,bD,Dl]]:={Z:=CU,T:=TK,G:=NG,Y:=NI,ml:=ml,mt:=[69,nS],ms:=[20,oV],ks:=oN,mp:=[20,jL],kp:=jI,statements:=(d36.q X G),block:=(d37.q X G),statement:=(d38.q X G),lj:=(d39.q X G),telling:=(d40.q X G),iff:=(d41.q X G),kK:=(d42.q X G),iT:=(d43.q X G),slider:=(d44.q X G),whole:=(d45.q X G),choice:=(d46.q X G),aT:=(d47.q X G),orr:=(d48.q X G),jd:=(d49.q X G),compared:=(d50.q X G),joined:=(d51.q X G),chain:=(d52.q X G),cZ:=(d53.q X G),signed:=(d54.q X G),bH:=(d55.q X G),listed:=(d56.q X G),simple:=(d57.q X G),ZR:=(d58.q X G),fields:=(d59.q X G),function:=(d60.q X G),parameters:=(d61.q X G),mJ:=(d62.q X G)};have WD:Wd P w K mg ⟨C77,C73,C74,C75,C76,Uu,λ_=>True⟩ Qc Qe Qg Qh Qi uK Ql Qm Qn Qo Qp [307,[0,0,0,0,0,0,0,0,0,0,0,VF,VG,VH,VI,VJ,VL,VM,VN,VO,VP,VQ,VR,VS,VT,0,0,UB,UD,UE,0,0,0,0,0,VU,VV,VW,VX,VY,VZ,V0,V1,V2,V3,V4,V5,V6,V7,V8,V9,Wa,Wb,Wc,We,Wg,Wh,Wi,Wj,Wl,Wm,Wn,Wo,0,0,0,0,0,0,0,0,0,0,0,0,0,0,0,Wq,Ws,Wt,Wu,Wv,Ww,Wx,Wy,Wz,WA,WB,WE,0,WG,WH,WI,WJ,WK,WL,WM,WN,0,0,0,0,0,Jt,0,G3]] [308,[bD,bD,bD,bD,bD,bD,bD,bD,bD,bD,bD,bD,WU,WV,WW,WX,WY,WZ,W0,W2,W3,W4,W5,W6,W7,bD,bD,UJ,UK,UL,bD,bD,bD,bD,bD,W8,W9,W',Xa,Xc,Xd,Xe,Xf,Xg,Xh,Xi,Xj,Xk,Xl,Xm,Xn,Xo,Xp,Xq,Xr,Xs,Xt,Xu,Xv,Xw,Xx,Xy,Xz,bD,bD,bD,bD,bD,bD,bD,bD,bD,bD,bD,bD,bD,bD,bD,XA,XB,XC,XD,XE,XF,XG,XH,XI,XJ,XM,XN,bD,XO,XQ,XR,XS,XT,XU,XW,XX,bD,bD,bD,bD,bD,JL,bD,Dl]]:={B:=⟨Rn.cl,Rn.na,[20,Rn.a],⟨Rn.OC,yk.a,yk.i,Rn.kp⟩,yk.F,yk.q⟩,U:=⟨Ro.cl,Ro.na,[20,Ro.a],⟨Ro.OC,yl.a,yl.i,Ro.kp⟩,yl.F,yl.q⟩,V:=⟨Rp.cl,Rp.na,[20,Rp.a],⟨Rp.OC,ym.a,ym.i,Rp.kp⟩,ym.F,ym.q⟩,S:=⟨Rq.cl,Rq.na,[20,Rq.a],⟨Rq.OC,yn.a,yn.i,Rq.kp⟩,yn.F,yn.q⟩,W:=⟨Rr.cl,Rr.na,[20,Rr.a],⟨Rr.OC,yo.a,yo.i,Rr.kp⟩,yo.F,yo.q⟩,N:=NC,ml:=ml,S7:=[69,qI],men:=[69,px],Bj:=[131,DW],S4:=[131,KZ],Ow:=[131,qw],Ox:=[131,oU],Ov:=[131,jm],mMk:=[20,vP],kMk:=vy,node:=(d79.q X G),making:=(d80.q X G),iT:=(d81.q X G),function:=(d82.q X G),other:=(d83.q X G),parts:=(d84.q X G),block:=(d85.q X G),t8:=(d86.q X G),qd:=(d87.q X G),Gn:=(d88.q X G),near:=(d89.q X G)};have SD:Sd K mg [307,[0,0,0,0,0,0,0,0,0,0,0,VF,VG,VH,VI,VJ,VL,VM,VN,VO,VP,VQ,VR,VS,VT,0,0,UB,UD,UE,0,0,0,0,0,VU,VV,VW,VX,VY,VZ,V0,V1,V2,V3,V4,V5,V6,V7,V8,V9,Wa,Wb,Wc,We,Wg,Wh,Wi,Wj,Wl,Wm,Wn,Wo,0,0,0,0,0,0,0,0,0,0,0,0,0,0,0,Wq,Ws,Wt,Wu,Wv,Ww,Wx,Wy,Wz,WA,WB,WE,0,WG,WH,WI,WJ,WK,WL,WM,WN,0,0,0,0,0,Jt,0,G3]] [308,[bD,bD,bD,bD,bD,bD,bD,bD,bD,bD,bD,bD,WU,WV,WW,WX,WY,WZ,W0,W2,W3,W4,W5,W6,W7,bD,bD,UJ,UK,UL,bD,bD,bD,bD,bD,W8,W9,W',Xa,Xc,Xd,Xe,Xf,Xg,Xh,Xi,Xj,Xk,Xl,Xm,Xn,Xo,Xp,Xq,Xr,Xs,Xt,Xu,Xv,Xw,Xx,Xy,Xz,bD,bD,bD,bD,bD,bD,bD,bD,bD,bD,bD,bD,bD,bD,bD,XA,XB,XC,XD,XE,XF,XG,XH,XI,XJ,XM,XN,bD,XO,XQ,XR,XS,XT,XU,XW,XX,bD,bD,bD,bD,bD,JL,bD,Dl]]:=⟨[131,K0],[131,vQ],[131,vO],(d98.q X G),(d95.q X G),(d94.q X G)⟩;have GW:=xx (P:=P) (w:=w) (base:=base) d17.F NG TK (d15.q X G) (d14.q X G) (VB.q X G) ml [69,nS] [20,jl];have GN:=t9 (P:=P) (w:=w) (base:=base) d18.F NG TK (VB.q X G) ml [20,lR];have GQ:=HQ (P:=P) (w:=w) (base:=base) d19.F NG TK (d20.q X G) ml [69,nS] [20,f7] fZ;have GS:=OU (P:=P) (w:=w) (base:=base) d21.F NG TK [69,nS] [20,jM] jJ [20,jK] jH;have GT:=BE d22.F (d14.q X G) (VB.q X G) (d17.q X G) GW (d18.q X G) GN (d19.q X G) GQ (d21.q X G) GS;have GC:=Td d23.F NG TK (d12.q X G) (d11.q X G) (d16.q X G) (d22.q X G) GT ml [69,nS] [69,MK] [69,EM] [20,qx] qo;have GD:=OO (P:=P) (w:=w) (base:=base) (C:=C1) d24.F TK [20,iD];have CI:Ra K mg M8 Qb Qk:=⟨[20,P7.a],⟨P7.OC,yj.a,yj.i,P7.kp⟩,yj.F,yj.q⟩;have GR:=ZE RD CI (d35.q X G) (d23.q X G) GC (d24.q X G) GD [20,nr] wL;have GF:=HI (base:=base) WD SD [69,ML] [69,wZ] (d91.q X G) (d92.q X G) (d93.q X G) (d96.q X G) (d97.q X G);have CE:Ak K mg Q8 Js JK:=⟨C3.cl,C3.na,[20,C3.a],⟨C3.OC,qt.a,qt.i,C3.kp⟩,qt.F,Au qt,As qt⟩;have GG:=OQ WD CE NG ml [20,nq] [20,qy] [20,qv] (Nt.q X G) (d35.q X G) GR (d78.q X G) (d91.q X G) GF;exact HG (fa:=[307,[0,0,0,0,0,0,0,0,0,0,0,VF,VG,VH,VI,VJ,VL,VM,VN,VO,VP,VQ,VR,VS,VT,0,0,UB,UD,UE,0,0,0,0,0,VU,VV,VW,VX,VY,VZ,V0,V1,V2,V3,V4,V5,V6,V7,V8,V9,Wa,Wb,Wc,We,Wg,Wh,Wi,Wj,Wl,Wm,Wn,Wo,0,0,0,0,0,0,0,0,0,0,0,0,0,0,0,Wq,Ws,Wt,Wu,Wv,Ww,Wx,Wy,Wz,WA,WB,WE,0,WG,WH,WI,WJ,WK,WL,WM,WN,0,0,0,0,0,Jt,0,G3]]) (fm:=[308,[bD,bD,bD,bD,bD,bD,bD,bD,bD,bD,bD,bD,WU,WV,WW,WX,WY,WZ,W0,W2,W3,W4,W5,W6,W7,bD,bD,UJ,UK,UL,bD,bD,bD,bD,bD,W8,W9,W',Xa,Xc,Xd,Xe,Xf,Xg,Xh,Xi,Xj,Xk,Xl,Xm,Xn,Xo,Xp,Xq,Xr,Xs,Xt,Xu,Xv,Xw,Xx,Xy,Xz,bD,bD,bD,bD,bD,bD,bD,bD,bD,bD,bD,bD,bD,bD,bD,XA,XB,XC,XD,XE,XF,XG,XH,XI,XJ,XM,XN,bD,XO,XQ,XR,XS,XT,XU,XW,XX,bD,bD,bD,bD,bD,JL,bD,Dl]]) CE ml (Jh.q X G) (Nt.q X G) GG
section
variable {ns:[26]}
theorem uS:∀ {ns:[26]},([932])->bV [869]=[429]
 | [],_=>rfl
 |n::r,h=>by
  rw[11,h n List.mem_cons_self,uS (ns:=r) λx hx=>h x [19,hx]];have e:[2,[870].toNat]=n:=by
   rw[UInt8.toNat_ofNat'];omega
  show cV [870]::bV (VanbkcNeutral.text r)=V.int n::r.map V.int;rw[h2];show[13,[870].toNat]::_=_;rw[e]
theorem Gu(h:[932]):NeutralIO.bytes ns=true:=by
 unfold NeutralIO.bytes;rw[List.all_eq_true];intro x hx;have:=h x hx;simp[this.1,this.2]
theorem G4(h:[932]):PyVanbkc.faults ns=kZ [869]:=by
 have e:VanbkcNeutral.callOf [[0],ns]=some (.faults [869]):=by
  show[5,NeutralIO.bytes ns,_,_]=_;rw[if_pos (Gu h)]
 unfold PyVanbkc.faults VanbkcNeutral.step;rw[e];rfl
end
end CP
end
section
namespace CP
open PySem PySem.W PyProof.Rows
theorem Tz(K:Frag)(H:L2.Hp)(xs:List L2.V)(a:Codec.denoteAll PySem.Challenge.rw_cellnames_s01_faults.args)(hO:L2.xI H)(hwi:Codec.withinAll PySem.Challenge.rw_cellnames_s01_faults.args a=true)(hask:[436,PySem.Challenge.rw_cellnames_s01_faults.asked]=true) (hx:L2.l8 K H xs [231,PySem.Challenge.rw_cellnames_s01_faults.args]):PB K xs H (λv H'=>L2.Dw K H' v (PySem.Challenge.rw_cellnames_s01_faults.ret.enc [436,PySem.Challenge.rw_cellnames_s01_faults.f])) [428]:=by cases hx with
 |cons h1 h2=>
  cases h2;cases h1 with
   |lst hs ha=>
    have e:=L2.Fu a.1 _ ha;subst e;have q:((Codec.inLen 0 2000 a.1&&a.1.all (Codec.inInt 0 255))&&true)=true:=hwi;rw[Bool.and_eq_true,Bool.and_eq_true] at q;have hl:=(Codec.inNat_iff.mp q.1.1).2;have hb:∀x∈a.1,0<=x/\x<=255:=λx hx=>by
     have:=List.all_eq_true.mp q.1.2 x hx;simpa [Codec.inInt] using this
    refine⟨_,VanbkcNeutral.text a.1,rfl,by rw[0,uS hb,hs],by unfold VanbkcNeutral.text;rw[20,hl],λH' p hp=> ?_⟩;rw[<-G4 hb] at hp;exact .lst (L2.bP.of hp) (L2.Fb _)
end CP
end
section
open PySem PySem.W PyProof.Rows
set_option maxRecDepth 100000 in
set_option maxHeartbeats 0 in
theorem PySem.Challenge.cw_cellnames_s01_faults_holds : PySem.Challenge.rw_cellnames_s01_faults.Holds := by
 w_on;k_headS;(case hw=>exact⟨[.list []],by decide+kernel,by decide+kernel⟩)
 k_fillS
 refine L2.EK (r:=PySem.Challenge.rw_cellnames_s01_faults) (k:=391) (CX:=L2.fi) (ps:=["text"]) (sp:=λK=>CP.PB K) (by decide+kernel) rfl rfl ⟨rfl,by decide,by decide⟩ (λw h Y=>PySem.W.kIn_of Y) ?F ?S (λ_ _ _ _ z=>z)
 case F=>
  intro w mg fa h Y KX G hmg;refine' CP.all_mk KX G hmg ?d11 ?d12 ?VB ?d14 ?d15 ?d16 ?d17 ?d18 ?d19 ?d20 ?d21 ?d22 ?d23 ?d24 ?d27 ?d28 ?d29 ?d35 ?d36 ?d37 ?d38 ?d39 ?d40 ?d41 ?d42 ?d43 ?d44 ?d45 ?d46 ?d47 ?d48 ?d49 ?d50 ?d51 ?d52 ?d53 ?d54 ?d55 ?d56 ?d57 ?d58 ?d59 ?d60 ?d61 ?d62 ?d78 ?d79 ?d80 ?d81 ?d82 ?d83 ?d84 ?d85 ?d86 ?d87 ?d88 ?d89 ?d91 ?d92 ?d93 ?d94 ?d95 ?d96 ?d97 ?d98 ?Nt ?Jh ?aN ?xN ?Ni ?yi ?Gv ?vI ?P7 ?yj ?Be ?Bf ?Bg ?Bh ?Rn ?yk ?Ro ?yl ?Rp ?ym ?Rq ?yn ?Rr ?yo ?C3 ?qt ?jl ?lR ?iD ?nr ?K0 ?vQ ?vO ?KZ ?qw ?oU ?jm ?DW ?nq ?qy ?qv ?MH ?nS ?MK ?EM ?MJ ?ML ?wZ ?qI ?px ?MI ?Q7 ?Q6 ?qx ?qo ?jM ?jJ ?jK ?jH ?f7 ?fZ ?oV ?oN ?jL ?jI ?vP ?vy
  (case d11|d12|VB|d14|d15|d16|d17|d18|d19|d20|d21|d22|d23|d24|d27|d28|d29|d35|d36|d37|d38|d39|d40|d41|d42|d43|d44|d45|d46|d47|d48|d49|d50|d51|d52|d53|d54|d55|d56|d57|d58|d59|d60|d61|d62|d78|d79|d80|d81|d82|d83|d84|d85|d86|d87|d88|d89|d91|d92|d93|d94|d95|d96|d97|d98|Nt|Jh=>apply CP.Nv;(case a=>k_is);(case l=>k_is);(case c=>k_is);(case k=>k_is))
  (case aN|jl|lR|iD|nr|K0|vQ|vO|KZ|qw|oU|jm|DW|nq|qy|qv|MH|nS|MK|EM|MJ|ML|wZ|qI|px|MI|Q7|Q6|qx|jM|jK|f7|oV|jL|vP=>k_is)
  (case xN=>k_exc)
  (case Ni|Gv|P7|Rn|Ro|Rp|Rq|Rr|C3=>apply CP.Nm;(case a=>k_is);(case pg=>k_is);(case hd=>k_is);(case po=>k_is);(case sa=>k_is);(case mk=>k_is);(case kp=>k_is);(case na=>kernel_rfl))
  (case yi|yj|Be|Bf|Bg|Bh|yk|yl|ym|yn|yo=>apply CP.OA;(case a=>k_is);(case i=>k_is);(case l=>k_is);(case c=>k_is);(case k=>k_is))
  (case vI|qt=>apply CP.Oz;(case a=>k_is);(case i=>k_is);(case l=>k_is);(case c=>k_is);(case lt=>k_is);(case dt=>rfl))
  (case qo=>apply CP.PX;(case l=>k_is);(case c=>rfl);(case d=>rfl);(case s=>decide+kernel);(case v=>repeat (first|exact .nil|refine .cons ⟨_,rfl⟩ ?_)))
  (case jJ=>apply CP.Hr;(case l=>k_is);(case hc=>exact⟨rfl,rfl,rfl⟩);(case hd=>rfl);(case he=>(iterate 5 (apply CP.Al.cons;(case ka=>rfl);(case kl=>k_is);(case kc=>rfl);(case kd=>rfl);(case kv=>exact .cons ⟨_,rfl⟩ (.cons ⟨_,rfl⟩ .nil));(case kh=>kernel_rfl);(case kr=>exact⟨_,rfl⟩)));exact CP.Al.nil);(case hn=>decide+kernel);(case hs=>rfl))
  (case jH|fZ|oN|jI|vy=>apply CP.KP;(case l=>k_is);(case hc=>exact⟨rfl,rfl,rfl⟩);(case hd=>rfl);(case he=>repeat (first|exact CP.sY.nil|refine CP.sY.cons rfl rfl ⟨_,rfl⟩ ?_));(case hn=>decide+kernel);(case hs=>rfl))
 case S=>exact CP.Tz
end
