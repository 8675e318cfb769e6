import PyProof.Rows.All
import Wide.All
import KE.KDictOf
import KE.LcSums
import KE.KRevIter
import KE.KDictList
import KE.KUnpack
import KE.KSortTup
import KE.KIntText
import KE.KTryMore
import KE.KFromBytes
import Wide.FinOn
import KE.RegKIsAll
import Lean
import PySem.Challenge.RW_ringbeat_k87_desk_refused
set_option Elab.async false
set_option linter.all false
set_option compiler.extract_closed false
set_option genSizeOf false
set_option maxRecDepth 100000
set_option maxHeartbeats 4000000
set_option bootstrap.genMatcherCode false
noncomputable section
structure PySem.W.Fast:Prop where(tw4630614887086808859 tw2107134041426853528 tw11794303720564056958 tw14534440265516814757 tw11580632924096685413 tw3991910135257849898 tw255375351393765567 tw14063750077630785753 tw9094184467422252234 tw338660121568653451 tw2663134497348703037 tw6778075652568984122 tw298384464570196644 tw18120812600091866090 tw7043002002629481067 tw9149847441290190865 tw203765198623234845 tw9654015282060394931 tw15773586457311388358 tw14604355409985696082 tw17702131693083715365 tw8277200603190969786 tw5021049485731185092 tw268172330257315576 tw15397921963824984484 tw10574089005045190948 tw6305989005397019785 tw13285231125306735014 tw17246918580552037867 tw7689968604959265249 tw17308650721659661244 tw5434740266287076646 tw1932568956964120650 tw12985329060892640981 tw13333215214207096039 tw14859372700282053379 tw2008336460036441271 tw11958179057973072123 tw16958327724750463285 tw6114245239557629695 tw4111775125219494292 tw8031946209478202699 tw12173054268481260082 tw6096541219891262812 tw7527799060842075054 tw9069822407734730701 tw9831127772621856017 tw5240928661740067087 tw929352743209543007 tw3764671740020276169 tw13920196905864570041 tw3579449975377282579 tw2832255652678659300 tw16695293420153542750 tw5832431031237098529 tw8830109412659127821 tw174213981138398411 tw18413439416196067265 tw3282685234382742693 tw9419729269623698746 tw6940179839259094735 tw16748815379967743920 tw15991251853068936004 tw6181454193412669305 tw13563583082654832532 tw8661022975843002404 tw17298728687398095427 tw15087328118174271774 tw1465708796042303730 tw15345179373934675063 tw17853691770377721708 tw8582187477388120129 tw2449584457684994207 tw11981025227905715712 tw17517703777145792013 tw15156541167523411284 tw5902964126793957671 tw8422217079412130384 tw138574676059902336 tw8572766673584933412 tw17264007790577797529 tw9415157710891198989 tw172442617530688986 tw6116943059598056762 tw7223284057912543708 tw2275575483964367031 tw14061697006318744936 tw11686963771818812140 tw10083664870954640556 tw19843946547055063 tw6170367583411503908 tw7586320794767148349 tw4744998357756567513 tw1056457320319474723 tw17517028834443792642 tw10090267596471999100 tw14632326854445788308 tw10046546953276261277 tw14491397940077314058 tw17891666178708092702 tw3182763890695364533 tw11219590272421074919 tw14424504578027385112 tw9930563490563300203 tw16677388620687204974 tw5868530974987298366 tw6973801746104949609 tw13404478889411092250 tw9684001121172112941 tw4174280700831360196 tw9900519664884561676 tw15113431946868946781 tw1957498286618439493 tw15398897374017153396 tw5721774075647682109 tw6417911253303636871 tw9049749497260347918 tw3018162688658662317 tw10277788567070271871 tw16977315618606346005 tw9072905308926727421 tw4308123785879055931 tw5678710873526531156 tw13880715845325369581 tw1061491778649283258 tw6013732886842322007 tw1589190380818394744 tw15671516230796696346 tw4142816124901501335 tw5810339231678414005 tw4203518752531648031 tw5413866021262110790 tw1429095196398108461 tw14882294452342321373 tw13329695880435662532 tw7380235708987649732 tw11548625694933379407 tw14941415076483763962 tw17809396691638616227 tw18143374269899021593 tw4988513071445161680 tw14933714865563563220 tw8513843907617977689 tw6380559417105911561 tw13786044934516861906 tw10384670766574601406 tw15752224129997259539 tw2362677700205884696 tw6477704123259549262 tw5352329410314296844 tw85475200767626759 tw9656337851557278317 tw13936111606287679325 tw2192194183350307021 tw3741209900485371430 tw10869685419237273542 tw17970855819746949387 tw12412905107561893832 tw4749207477608351045 tw164912532435079990 tw16671656765224999657 tw11492056139014383687 tw12526683263387463141 tw7509664740323264749 tw5542111357039807852 tw6465015541147542574 tw13382811022291172425 tw5810566510885588398 tw5948013696892089421 tw2688913032534302099 tw16535138149300873911 tw9031684834009893153 tw16198070141962696792 tw7808419170863544587 tw15138787931238286840 tw15991177162763749461 tw171366590638812472 tw7033885769069035575 tw13342687158489663515 tw2351359136580117084 tw7086344400852139256 tw18021899943202104059 tw2727684065509078607 tw7322830737505471647 tw4235142444101570902 tw14045901001655840600 tw6631439551319238660 tw12182866303423332723 tw9633311548777665249 tw14396618837132750505 tw229915819631643194 tw16253329513008689639 tw18332061119468829467 tw12472441022300434507 tw13410721110248125112 tw9886328818518206503 tw9809649108375484683 tw17710913405590922262 tw15491237217520474925 tw2043623902123591976 tw15098822266063582555 tw384973378813085268 tw6263593565387435112 tw13479723464530289419 tw11003520499376964718 tw4968388851335046494 tw1892042795490359217 tw5280544647975642958 tw3043141609824793942 tw7712762406256171547 tw6789616505058805132 tw9224841968368721995 tw15758072252899994852 tw10444837847935687599 tw773837588089752436 tw1060621554623183737 tw5183835740710425471 tw2920665384278819756 tw3916154650032958175 tw5405033742573320681 tw9847149549385282875 tw9425893862980610349 tw14562507204147832040 tw1798489981756054255 tw278091425418800429 tw5817241815303200104 tw5745499909406077800 tw5856264819112728020 tw15388723545539943275 tw16639786434070947826 tw1153111071504360225 tw14599097043566413667 tw5655332429124515980 tw11941347885321003495 tw11389908694384399593 tw11463275865453300021 tw11183994510384506652 tw13517266583193282974 tw10491091718325126814 tw981816797675697407 tw8886063228545124322 tw662836758025161823 tw15943358354443407231 tw9998907336409617499 tw14683695041640038052 tw13122554635114498255 tw16651556681418054663 tw6409949673440004677 tw5472453233943662872 tw892925065853493074 tw682509728702249737 tw507852180776508639 tw3834278152298978124 tw222581928346876495 tw16256120693414045602 tw12102388370634488220 tw11557400564275816454 tw7645258650218140736 tw13482304243288587505 tw4174049640664121235 tw261569087075202090 tw7628517622463246403 tw2800181990859139613 tw7921085658859955724 tw12028743017661600286 tw9484157083819412839 tw10934534130727672278 tw9831409566331976608 tw15006530943746504190 tw3735397746155457578 tw2373543394765977276 tw12994478621313973525 tw1246186251144729147 tw5863724919350916873 tw17797163926503162155 tw12250188158928933967 tw14090385409373060308 tw13292332857021655163 tw3455282592001398030 tw10528329575175989489 tw91947965078982000 tw16847356055486053210 tw13116331839231238369 tw1663260961033258568 tw7772344297081683556 tw2712559557389219645 tw7592283822709305711 tw17232158506023650857 tw14972485598542880202 tw15626438215767364297 tw15755328363763286105 tw14204823869929384073 tw17681532470658541090 tw6704996971759313750 tw7715333846864757483 tw11401068808991081857 tw374618578797458849 tw463592959530538751 tw16036673980134197800 tw7943718689102667380 tw15239431277977537466 tw11055646618570814509 tw15744562090704797835 tw15276686779466845929 tw1076018541458514200 tw4376666790780293573 tw12871458346896916827 tw16052899454938688212 tw6929076949109133105 tw16542472340864777317 tw9319699601814803744 tw14472373924660901693 tw16113817976569302998 tw10631901306434007589 tw17340771677684676946 tw11299914399528532252 tw14001247230269390771 tw13232178177047767892 tw131296072504910853 tw5562141949237902475 tw13428259368677488428 tw6684246931789439219 tw367066482932049919 tw12626630976004486890 tw7291235797831155746 tw4027473891062512156 tw13294645775010018508 tw2945675398594583472 tw15931703023824590139 tw1397644612435810973 tw656027924494536058 tw3157655322189342288 tw12783750587914696299 tw10270232151460115838 tw5936461600675909028 tw14354744343094910557 tw9267106134466745901 tw12498826674489336399 tw12917459608649555178 tw16580270385799344236 tw16053474179407470792 tw5650425753510067581 tw14113223640659395834 tw8457637714350975149 tw7884401884218516315 tw12875595995377853936 tw9455332414290363247 tw13296098840183104006 tw6232540265587663372 tw7061000794529931991 tw2709494981609601709 tw626696500009388147 tw6034775642586406522 tw16473128226292525081 tw7265738662454612163 tw6285604059285450280 tw1507609442733245862 tw17444010266883156889 tw9438230212828485173 tw9271154973312445042 tw15964609209146670129 tw14422072923620769420 tw829143046149414128 tw7350230886168056836 tw11373380316566804331 tw17330311536267374677 tw7994811133207094303 tw671726764031430844 tw10995651232587989834 tw11429753012899440513 tw3310211710763114205 tw17178897200674954731 tw15357139516351185584 tw9887084238740129302 tw9151933544660887115 tw4474980687375805942 tw17332518857721784942 tw11016731713179036456 tw10739730180952657627 tw8063849301607948182 tw10310332616933029506 tw16502690383261193909 tw15963801691374436739 tw985299984812179961 tw1293136840990413523 tw8604257043265508281 tw13284527500695403464 tw3556651866547893530 tw2380342486378015795 tw17294580678671505419 tw15962069682068953635 tw17830953411015406513 tw2743018431186529800 tw4298161980399558617 tw12732305860837895686 tw12047368430555367155 tw4078744162081083862 tw12092635750267714463 tw2254004862400360371 tw182905923901357201 tw10900322794384949508 tw3578923988131111148 tw5048515185927600058 tw3558892032306533774 tw1527682920316557403 tw14847229529956267866 tw15375898591755259516 tw2105337121195910961 tw11392790482888773011 tw6190388798503830724 tw1369928815381093443 tw11631105909110695692 tw8410502130519771029 tw16605254171821909955 tw2167599653326839559 tw13910982485251209546 tw11615437769533623045 tw9221709223202778782 tw16152881816017590281 tw11412386906116446507 tw14657490945362595769 tw16260925912512855970 tw6904042868320053861 tw17195450797910891439 tw5685012889404086773 tw13866638131056147642 tw11493844974663300754 tw13951857243440974962 tw7014686596129358684 tw2667845087509704984 tw15602747320980485216 tw10226805609177620437 tw10772818868665817535 tw12335302410904907432 tw12428116396898843335 tw12266641221895405913 tw6408112174060685847 tw4344812326457667244 tw7326574103108340045 tw4525628798758225912 tw1467994975604170842 tw10576078643999795911 tw6778926428608261763 tw15727693868926493731 tw10449296001373656321 tw8051413445001525745 tw12956513119201107808 tw7879725201748948576 tw10161101658817549611 tw1636437973035628045 tw17782623754215839479 tw3389722045823070620 tw293431403705018295 tw15298685913979700106 tw10421219047506012070 tw16079007731994276664 tw3907024656319693505 tw6535926744727866155 tw46659475569477864 tw14233553837690250730 tw15705121017984880494 tw921443902135610818 tw10634580909950287647 tw16047095151376743677 tw3318668443297637561 tw9289646308057276970 tw10209893135388148663 tw8939254977868589530 tw3762208554546127370 tw13041258484249540081 tw11739931472189197449 tw3019804113327870093 tw9363833089418762066 tw11261870164662801058 tw952712918471702324 tw9369973310982739239 tw1887395961134126017 tw12277590336074484941 tw16042537136121514554 tw635749783926292892 tw2663026064661564703 tw16154165155259212596 tw12904656035697260165 tw9986986901789024330 tw9931158434038045701 tw7855795817619962177 tw6548796103926503325 tw3829538928701075469 tw3637843315264040724 tw261540769544123157 tw10292563190655081119 tw305080721844537094 tw14743261847208913739 tw8790360430392698371 tw2284003058682352818 tw1499579060393644250 tw10158443189792357315 tw5436536591853929335 tw7579231808319723037 tw5386527623964326259:True)
set_option maxRecDepth 100000 in
set_option maxHeartbeats 0 in
open_top PySem.Challenge.hd for PySem.Challenge.rw_ringbeat_k87_desk_refused
open Array renaming length_toList→gu,getElem?_eq_some_iff→l7,all_toList→m6,toList_inj→rO,mem_toList_iff→yW,append_assoc→AH,find?_toList→AI,replicate→B9,toList→Ez
open Bool renaming false_ne_true→di,and_eq_true→dP,false_eq_true→fI,or_eq_true→iV,and_eq_true_iff→oU,or_eq_false_iff→oV,and_true→vO,or_false→vP,not_eq_true'→BV,eq_iff_iff→C5,and_false→Dz
open Int renaming toNat_natCast→kS,toNat_of_nonneg→p5,emod_lt_of_pos→qY,emod_nonneg→uG,fdiv_eq_ediv_of_nonneg→vB,le_refl→AL
open List renaming mem_cons_self→cV,mem_append_right→c8,mem_append_left→dc,mem_cons_of_mem→df,replicate→dg,nodup_append→dm,mem_cons→dn,length_cons→dw,lookup_cons→dC,mem_append→dD,size_toArray→dF,map_cons→dJ,mem_singleton→dW,length_map→dY,nodup_nil→d4,append_nil→d6,length_append→d7,getElem?_eq_some_iff→ee,zip_cons_cons→ez,nodup_cons→eJ,contains→eU,mem_map_of_mem→fC,find?_cons→fJ,all_eq_true→fN,replicate_succ→fQ,getElem?_set_ne→gj,length_zip→gx,set→gC,getElem?_eq_getElem→gI,mem_map→g0,all_cons→hG,contains_cons→hW,length_replicate→hZ,forall_mem_cons→iw,getElem?_map→ix,not_mem_nil→iK,forall_mem_append→iQ,getElem?_set_self→iR,any_cons→iZ,flatten_cons→jB,lookup→jP,drop_eq_getElem_cons→jV,sublist_append_right→jW,findIdx?_cons→kx,pairwise_cons→ky,range→kz,append_assoc→kQ,of_mem_zip→lN,filterMap_cons→lS,Nodup→ma,getElem?_append_left→mx,ext_getElem?→mL,getElem?_replicate→nc,length_drop→ng,drop_eq_nil_of_le→nP,map_nil→nQ,map_append→nY,range'→oW,mem_range→oX,length_reverse→pH,mem_range'_1→rh,Sublist→rj,getElem?_set→rl,set_set→rn,forIn_cons→tq,getElem?_append_right→uP,filter_cons_of_neg→xA,filter_cons_of_pos→xB,length_eq_zero_iff→xC,map_map→xN,getElem?_eq_none→yX,length_singleton→yY,getElem_toArray→zY,mem_of_getElem?→zZ,getElem?_range→AM,foldl→Bm,mem_filterMap→Bn,reverse_cons→BX,getElem_mem→Ca,length_take→Cb,zipIdx_cons→Cc,foldl_cons→C6,length_nil→C7,length_set→C8,mem_filter→C9,range_succ→Dd,zip_append→De,forIn_nil→DB,Pairwise→EA,findIdx?→EB,sum_cons→EC
open Nat renaming le_refl→dE,ne_of_lt→dU,lt_of_lt_of_le→d8,le_trans→fk,zero_le→gQ,min_self→iB,lt_irrefl→iF,lt_succ_self→jX,ne_of_gt→kT,le_of_ble_eq_true→lm,le_succ→lM,lt_succ_of_lt→mR,le_of_lt→rQ,le_of_succ_le→rR,le_of_eq→yZ,succ_mul→zJ,log2_lt→AN,lt_of_le_of_lt→BY
open Option renaming bind→ej,map_eq_some_iff→gr,bind_some→gD,isSome_map→p9,map_some→sC,isSome_iff_exists→uQ,getD_none→Bo,getD_some→Bp
open PyProof.Rows renaming callWith_type1→fV,callWith_builtin1→oY
open PySem renaming Value→cU,wpAny_bind→cY,Addr→cZ,FuncData→c9,Shared→de,model→dq,wpAny→dr,Heap→dz,wpAny_pure→dA,starEach→dM,Around→dO,PyData→dX,NameKind→dZ,World→d5,Stmt→et,sizeLine_eq→eD,Program→eI,bootBuiltins→eM,eval→eP,mainGlobals→eQ,assignEach→eY,compareOp→e9,wpAny_Call_Name_kw→fu,holding→fH,keywordEach→fO,wpAny_mono→fW,strIterType→f9,swapsWith→gc,behindInMarks→gh,wpAny_holding→gA,PassesOwn→gE,Obj→gM,backTo→gR,sysModules→hJ,codeAny_mono→ig,standAt→ij,backToKw→ir,binaryOp→iu,wpAny_newObj_type→iI,getMethod→iU,cLine→i8,codeAny→jC,tupleKind_room_in1→jD,callWith→jK,wpAny_passesOwn→jL,wpAny_truthy_bool→jR,wpAny_standAt→kP,assign→kU,sliceBounds→kW,attributeBase→lU,letOwnedTupleGo→mj,Pos→my,call_meets→m7,wpAny_pyIter_list→nR,swappedStores→nZ,swapsWithSole→n4,tupleKind→oJ,Data→pj,Scope→pI,wpAny_execs_nil→pJ,Operator→qZ,recursionLimit→rc,BindsTo→rp,setItem→rq,typeLookup→sZ,Code→uH,callerA→uI,getItem→uJ,seqIndex_neg→uK,slot_list_getitem→uL,valueAt→uM,isTrue→vC,seqIndex_of→vQ,subscripted→vR,wpAny_specialOf→xD,Keyword→xO,release→xP,atKey→zK,newFunctionEnv→zL,evalPart_none→AO,CmpOp→Bq,bindC→Br,bindL→Bs,concat_meets→BZ,Sem→Cd,builtinsNs→ED,revObj→EE,typeIs_int→EG,wpAny_Name→EH
open PySem.Heap renaming get?_push_of_some→c7,lt_size→dB,get?_push_size→dG,get?_update_self→fD,get?_update_other→fM,SameBut→fZ,size_push→gw,update_setField_same→vA,ExtBut→zV,get?_none_of_le→zW,get?_update_ne→AJ,get?_push_at→BW,IsSliceOf→DA
open PySem.W renaming Frag→cX,findIn→dI,kitOne→dN,keepIn→dQ,Looks→ek,hasDictIn→eF,kia_one→eW,callWith_K→fe,takerIn→ft,exmOne→fR,mroIn→fS,emptyDict→gp,specialIn→gq,looks_findIn→gG,methodCall_KW→hU,instObj→ik,InstAt→jE,isFn→jM,cellsFrom_some→kB,fnOf→kC,clsIn→kX,findCls→lG,readsIn→lH,check_slot→lT,any_some→mM,plainGet→mP,codeIn→n6,lookIn→n8,looks_clsIn→oK,looks_mroIn→oM,plainGet_of→oN,kitx_list→p6,methodObj→p7,handedIn→rf,OpenLaw→rS,findObj→rT,makesIn→rV,takesIn→rW,callWith_K0→xQ,findObj_own→xR,codeRec_of→zN,looks_find→zP,method_cls→zQ,cls_value→Aa,kitx_dict→Ab,kitx_none→Ac,plainOver→Ad,set_plain→Ae,InitBack→AQ,bind_fn→Bt,isClsIn→Bu,notCls→B0,typeIn→B1,WalkO→Ce,subIn→Cf
open Option renaming some→Z,none→S
open Bool renaming true→Â,false→Ã
local macro_rules| `(tactic|walk_at "v1")=>`(tactic|first|exact Or.inl rfl|exact Or.inr (Or.inl rfl)|exact Or.inr<|Or.inr rfl)
local macro_rules| `(tactic|walk_at "v2")=>`(tactic|first|exact .inl rfl|exact .inr rfl|assumption)
local macro_rules| `(tactic|walk_at "v3")=>`(tactic|first|exact Or.inl rfl|exact Or.inr rfl)
abbrev iM (x:PySem.Str):Prop:=(x==("__debug__":PySem.Str))=Ã
abbrev qD (x:PySem.Str):Prop:=(x==("__classdict__":PySem.Str))=Ã
namespace L2
open PySem PySem.Spec PyProof.Rows
noncomputable abbrev kr:=Sum Int Str
def vK:kr->cU->Bool
 |.inl k,v=>cU.isInt k v
 |.inr x,v=>cU.isStrOf x v
def Na (w:d5):kr->Int
 |.inl k=>hashInt k
 |.inr x=>hashStr w x
theorem yt:∀{k:kr} {v:cU},vK k v=Â->(∃i t,k=Sum.inl i/\v=cU.int i t)\/(∃x t,k=Sum.inr x/\v=cU.str x t)
 |.inl i,v,h=>by obtain⟨t,e⟩:=cU.isInt_shape (k:=i) (v:=v) h;exact .inl ⟨i,t,rfl,e⟩
 |.inr x,v,h=>by obtain⟨t,e⟩:=cU.isStrOf_shape (x:=x) (v:=v) h;exact .inr ⟨x,t,rfl,e⟩
theorem YM (i:Int)(t:Tok):vK (.inl i) (.int i t)=Â:=by simp[vK,cU.isInt]
theorem YN (x:Str)(t:Tok):vK (.inr x) (.str x t)=Â:=by simp[vK,cU.isStrOf]
theorem Ξ (a b:Int):decide ((Sum.inl a:kr)=Sum.inl b)=(a==b):=by
 by_cases e:a=b
 ·subst e;simp
 ·have h:¬(Sum.inl a:kr)=Sum.inl b:=λq=>e<|Sum.inl.inj q;rw[decide_eq_false h];exact(beq_eq_false_iff_ne.mpr e).symm
theorem Ν (a b:Str):decide ((Sum.inr a:kr)=Sum.inr b)=decide (a=b):=by
 by_cases e:a=b
 ·subst e;simp
 ·have h:¬(Sum.inr a:kr)=Sum.inr b:=λq=>e<|Sum.inr.inj q;rw[decide_eq_false h,decide_eq_false e]
theorem Μ (a:Int)(b:Str):decide ((Sum.inl a:kr)=Sum.inr b)=Ã:=decide_eq_false<|λq=>nomatch q
theorem Λ (a:Str)(b:Int):decide ((Sum.inr a:kr)=Sum.inl b)=Ã:=decide_eq_false<|λq=>nomatch q
def iq (prog:eI)(w:d5):PySem.KeyKind prog w kr where
 is:=vK
 hash:=Na w
 inj:=λv a b ha hb=>by
  rcases yt ha with⟨i,t,rfl,rfl⟩|⟨x,t,rfl,rfl⟩
  ·rcases yt hb with⟨j,u,rfl,e⟩|⟨y,u,rfl,e⟩
   ·injection e with e1 _;rw[e1]
   ·exact nomatch e
  ·rcases yt hb with⟨j,u,rfl,e⟩|⟨y,u,rfl,e⟩
   ·exact nomatch e
   ·injection e with e1 _;rw[e1]
 byValue:=λk v h=>by rcases yt h with⟨i,t,rfl,rfl⟩|⟨x,t,rfl,rfl⟩<;>rfl
 pyHash:=λhv h=>by
  rcases yt hv with⟨i,t,rfl,rfl⟩|⟨x,t,rfl,rfl⟩
  ·exact wpAny_pyHash_int h
  ·exact wpAny_pyHash_str h
 eqBool:=λhu hv h=>by
  rcases yt hu with⟨i,t,rfl,rfl⟩|⟨x,t,rfl,rfl⟩
  ·rcases yt hv with⟨j,u,rfl,rfl⟩|⟨y,u,rfl,rfl⟩
   ·rw[Ξ]at h;exact wpAny_eqBool_int h
   ·rw[Μ]at h;exact SeqAt.EqAt.int_str i t y u _ _ _ _ h
  ·rcases yt hv with⟨j,u,rfl,rfl⟩|⟨y,u,rfl,rfl⟩
   ·rw[Λ]at h;exact SeqAt.EqAt.str_int x t j u _ _ _ _ h
   ·rw[Ν]at h;exact wpAny_eqBool_str h
 «strs»:=λk x t v h=>by
  rcases yt h with⟨i,u,rfl,e⟩|⟨y,u,rfl,e⟩
  ·exact nomatch e
  ·injection e with e1 _;subst e1;cases v<;>rfl
theorem XX (prog:eI)(w:d5)(i:Int)(t:Tok):(iq prog w).is (.inl i) (.int i t)=Â:=YM i t
theorem XY (prog:eI)(w:d5)(x:Str)(t:Tok):(iq prog w).is (.inr x) (.str x t)=Â:=YN x t
inductive V where
 |non|bl (b:Bool)|int (i:Int)|str (x:Str)|byt (b:Array UInt8)|flt (b:UInt64)|ref (a:cZ)|ty (n:String)
 deriving DecidableEq
noncomputable def Ì:V->cU->Prop
 |.non,u=>u=cU.none
 |.bl b,u=>u=cU.bool b
 |.int i,u=>∃t,u=cU.int i t
 |.str x,u=>∃t,u=cU.str x t
 |.byt b,u=>∃t,u=cU.bytes b t
 |.flt b,u=>∃t,u=cU.float b t
 |.ref a,u=>u=cU.ref a
 |.ty n,u=>u=cU.type n
abbrev eh:List V->List cU->Prop:=Paired Ì
variable {us:List cU}{xs:List V}
theorem eh.length (r:eh xs us):xs.length=us.length:=Paired.length r
theorem eh.get:∀{xs:List V} {us:List cU} {i:Nat} {x:V},eh xs us->xs[i]?=Z x->∃u,us[i]?=Z u/\Ì x u
 |_,_,_,_,.nil,e=>by simp at e
 |_,_,0,_,.cons r _,e=>by simp at e;subst e;exact⟨_,rfl,r⟩
 |_,_,i+1,x,.cons _ t,e=>by obtain⟨u,h1,h2⟩:=eh.get (i:=i) (x:=x) t (by simpa using e);exact⟨u,by simpa using h1,h2⟩
variable {u:cU}
theorem eh.set {x:V}{u:cU}(r:Ì x u):∀{xs:List V} {us:List cU} (i:Nat),eh xs us->eh (xs.set i x) (us.set i u)
 |_,_,_,.nil=>.nil
 |_,_,0,.cons _ t=>.cons r t
 |_,_,i+1,.cons q t=>.cons q<|eh.set r i t
theorem eh.append:∀{xs ys:List V} {us ws:List cU},eh xs us->eh ys ws->eh (xs++ys) (us++ws)
 |_,_,_,_,.nil,s=>s
 |_,_,_,_,.cons r t,s=>.cons r<|eh.append t s
theorem eh.take:∀{xs:List V} {us:List cU} (n:Nat),eh xs us->eh (xs.take n) (us.take n)
 |_,_,0,_=>.nil
 |_,_,_+1,.nil=>.nil
 |_,_,n+1,.cons r t=>.cons r<|eh.take n t
theorem eh.drop:∀{xs:List V} {us:List cU} (n:Nat),eh xs us->eh (xs.drop n) (us.drop n)
 |_,_,0,r=>r
 |_,_,_+1,.nil=>.nil
 |_,_,n+1,.cons _ t=>eh.drop n t
def nU:Option V->Option cU->Prop
 |some v,Z u=>Ì v u
 |none,S=>True
 |_,_=>False
variable {κ:Type}
def KV:List (κ×V)->List (κ×cU)->Prop:=Paired λ(p:κ×V) (q:κ×cU)=>p.1=q.1/\Ì p.2 q.2
def kV:kr->V
 |.inl i=>.int i
 |.inr x=>.str x
inductive HO where
 |lst (xs:List V)
 |tup (xs:List V)
 |dK (fF:List<|kr×V)|dT (fF:List<|List kr×V)
 |set (S':Int->Bool) (n:Nat)
 |ins (C dx:cZ) (fs:List<|Str×V)
 |own (x:cZ)
 |xd (fs:List<|Str×V)
 |met (f x:cZ)
 |rng (lo hi:Int)
 |frz (o:gM) (u:HO)
 |tbl (ps:Array cU)
 |ext (φ:dz->Prop)
noncomputable abbrev Hp:=cZ->Option HO
def upd (H:Hp)(a:cZ)(o:HO):Hp:=λb=>if b=a then Z o else H b
variable {H:Hp}{a:cZ}
theorem zo {o:HO}:upd H a o a=Z o:=by unfold upd;rw[if_pos rfl]
variable {b:cZ}
theorem zn {o:HO}(h:b≠a):upd H a o b=H b:=by unfold upd;rw[if_neg h]
theorem Ş {o u:HO}(h:H a=Z o)(h':H b=Z u)(d:o≠u):a≠b:=by intro e;subst e;rw[h]at h';exact d<|Option.some.inj h'
theorem zp {o:HO}(h:H a=Z o)(h':H b=S):a≠b:=by intro e;subst e;rw[h]at h';cases h'
section
variable (P:eI)(w:d5)
def il (H:Hp)(h:dz)(a:cZ):HO->Prop
  |.lst xs=>xs.length<=sizeLine/\∃(eG:List cU) (n:Nat),eh xs eG/\h.get? a=Z { cls:=.type "list",data:=.seq eG.toArray n }
  |.tup xs=>xs.length<=sizeLine/\∃eG:List cU,eh xs eG/\IsTup h a eG.toArray
  |.dK fF=>fF.length<=sizeLine/\(a==hJ)=Ã/\∃vs,KV fF vs/\h.DictOf (iq P w) a vs
  |.dT fF=>fF.length<=sizeLine/\(a==hJ)=Ã/\∃xs:List (List kr×cZ×cU),
      Paired (λ(p:List kr×V) (q:List kr×cZ×cU)=>p.1=q.1/\H q.2.1=Z (.tup<|p.1.map kV)/\Ì p.2 q.2.2) fF xs /\
      ∃o es ep,h.get? a=Z o/\o.ExactDict/\o.data=.dict es ep/\es.toList=xs.map (entryOfKey<|oJ<|iq P w)/\(xs.map (·.1)).Nodup
  |.set S' n=>h.SetOf (intKind P w) a S' n
  |.ins C dx fs=>H dx=Z (.own a)/\fs.length<=1000/\dx≠a/\h.get? a=Z (ik C dx) /\
      ∃mA,h.Ns1 dx mA/\(∀f,nU (fs.lookup f)<|mA f)/\PySem.Within mA (fs.map (·.1))
  |.own _=>∃o,h.get? a=Z o
  |.xd fs=>∃mA,h.Ns1 a mA/\∀f,nU (fs.lookup f) (mA f)
  |.rng lo hi=>∃t u v,h.get? a=Z { cls:=.type "range",data:=.fields #[.int lo t,.int hi u,.int 1 v] }
  |.frz o u=>h.get? a=Z o/\il H h a u
  |.tbl ps=>h.get? a=Z { cls:=.none,data:=.fields ps }
  |.met f x=>h.get? a=Z (p7 (.ref f)<|.ref x)
  |.ext φ=>φ h/\(∃o,h.get? a=Z o)/\∀h1 h2:dz,φ h1->(∀o,h1.get? a=Z o->h2.get? a=Z o)->φ h2
def pL (H:Hp)(h:dz):Prop:=∀a o,H a=Z o->il P w H h a o
end
variable {α β:Type}{G:Hp}{P:eI}{h h':dz}
section
variable {w:d5}{o:HO}
theorem il.lt (x:il P w H h a o):a<h.objs.size:=by
 cases o with
 |lst xs=>obtain⟨_,_,_,_,e⟩:=x;exact dB e
 |tup xs=>obtain⟨_,_,_,p⟩:=x;exact p.lt
 |dK fF=>obtain⟨_,_,_,_,o,_,_,e,_⟩:=x;exact dB e
 |dT fF=>obtain⟨_,_,_,_,o,_,_,e,_⟩:=x;exact dB e
 |set S' n=>obtain⟨o,_,_,_,e,_⟩:=x;exact dB e
 |ins C dx fs=>obtain⟨_,_,_,e,_⟩:=x;exact dB e
 |own y=>obtain⟨_,e⟩:=x;exact dB e
 |xd fs=>obtain⟨_,⟨_,_,_,e,_⟩,_⟩:=x;exact dB e
 |rng lo hi=>obtain⟨_,_,_,e⟩:=x;exact dB e
 |frz ob u=>obtain⟨e,_⟩:=x;exact dB e
 |tbl ps=>exact dB<|show h.get? a=Z _ from x
 |met f y=>exact dB<|show h.get? a=Z _ from x
 |ext φ=>obtain⟨_,⟨_,e⟩,_⟩:=x;exact dB e
theorem Paired.mapP {α β:Type}{F W':α->β->Prop}:∀{l₁:List α} {l₂:List β},Paired F l₁ l₂->(∀a b,F a b->W' a b)->Paired W' l₁ l₂
 |_,_,.nil,_=>.nil
 |_,_,.cons r t,f=>.cons (f _ _ r)<|Paired.mapP t f
theorem il.stay (x:il P w H h a o)(k:∀b u,(b=a\/H b=Z (.own a))->h.get? b=Z u->h'.get? b=Z u)
    (ho:∀b,H b=Z (.own a)->G b=Z (.own a)) (ht:∀b xs,H b=Z (.tup xs)->G b=Z (.tup xs)):il P w G h' a o:=by
  induction o with
  |lst xs=>obtain⟨z,eG,n,r,e⟩:=x;exact⟨z,eG,n,r,k _ _ (.inl rfl) e⟩
  |tup xs=>obtain⟨z,eG,r,ob,e,c⟩:=x;exact⟨z,eG,r,ob,k _ _ (.inl rfl) e,c⟩
  |dK fF=>obtain⟨z,y,vs,r,ob,es,ep,e,c⟩:=x;exact⟨z,y,vs,r,ob,es,ep,k _ _ (.inl rfl) e,c⟩
  |dT fF=>obtain⟨z,y,xs,r,ob,es,ep,e,c⟩:=x;exact⟨z,y,xs,Paired.mapP r λp q z=>⟨z.1,ht _ _ z.2.1,z.2.2⟩,ob,es,ep,k _ _ (.inl rfl) e,c⟩
  |set S' n=>obtain⟨ob,es,ep,t,e,c⟩:=x;exact⟨ob,es,ep,t,k _ _ (.inl rfl) e,c⟩
  |ins C dx fs=>obtain⟨d,z,ne,e,mA,⟨od,es,ep,e2,c⟩,r⟩:=x;exact⟨ho _ d,z,ne,k _ _ (.inl rfl) e,mA,⟨od,es,ep,k _ _ (.inr d) e2,c⟩,r⟩
  |own y=>obtain⟨ob,e⟩:=x;exact⟨ob,k _ _ (.inl rfl) e⟩
  |xd fs=>obtain⟨mA,⟨od,es,ep,e,c⟩,r⟩:=x;exact⟨mA,⟨od,es,ep,k _ _ (.inl rfl) e,c⟩,r⟩
  |rng lo hi=>obtain⟨t,u,v,e⟩:=x;exact⟨t,u,v,k _ _ (.inl rfl) e⟩
  |frz ob u ih=>obtain⟨e,q⟩:=x;exact⟨k _ _ (.inl rfl) e,ih q⟩
  |tbl ps=>have e:h.get? a=Z { cls:=.none,data:=.fields ps }:=x;show h'.get? a=Z { cls:=.none,data:=.fields ps };exact k a _ (.inl rfl) e
  |met f y=>have e:h.get? a=Z (p7 (.ref f)<|.ref y):=x;show h'.get? a=Z (p7 (.ref f)<|.ref y);exact k a _ (.inl rfl) e
  |ext φ=>obtain⟨p,⟨o,e⟩,st⟩:=x;exact⟨st _ _ p λo q=>k _ _ (.inl rfl) q,⟨o,k _ _ (.inl rfl) e⟩,st⟩
theorem pL.lt (x:pL P w H h)(e:H a=Z o):a<h.objs.size:=(x a o e).lt
theorem pL.fresh (x:pL P w H h)(e:h.objs.size<=a):H a=S:=by
 cases q:H a with
 |none=>rfl
 |some u=>exact absurd (d8 (x.lt q) e)<|iF _
theorem pL.kept (x:pL P w H h)(k:∀b u,h.get? b=Z u->h'.get? b=Z u):pL P w H h':=λa o e=>(x a o e).stay (λb u _ q=>k b u q) (λ_ q=>q) λ_ _ q=>q
theorem pL.laid (x:pL P w H h)(k:∀b u,h.get? b=Z u->h'.get? b=Z u)(hp:h.objs.size<=a)(new:il P w (upd H a o) h' a o):pL P w (upd H a o) h':=λb u e=>by
 have hn:=x.fresh hp;by_cases hb:b=a
 ·subst hb;rw[zo]at e;cases e;exact new
 ·rw[zn hb]at e;exact(x b u e).stay (λc v _ q=>k c v q) (λc q=>by rw[zn<|zp q hn];exact q) λc xs q=>by rw[zn<|zp q hn];exact q
end
def Rd (H:Hp)(a:cZ)(u:HO):Prop:=H a=Z u\/∃o,H a=Z (.frz o u)
theorem Rd.ok {w:d5}{u:HO}(r:Rd H a u)(x:pL P w H h):il P w H h a u:=by
 rcases r with r|⟨o,r⟩
 ·exact x a u r
 ·obtain⟨_,q⟩:=x a _ r;exact q
def HJ:Option HO->Prop
 |some (.lst _)=>True
 |some (.dK _)=>True
 |some (.dT _)=>True
 |some (.set _ _)=>True
 |some (.ins _ _ _)=>True
 |some (.ext _)=>True
 |_=>False
section
variable {w:d5}{x e:cZ}{o':HO}
theorem pL.write (ok:pL P w H h)(mu:HJ<|H x)(he:e=x\/H e=Z (.own x))(k:∀b u,b≠e->h.get? b=Z u->h'.get? b=Z u)(Hb:∃u,h'.get? e=Z u)
  (new:il P w (upd H x o') h' x o'):pL P w (upd H x o') h':=λb u q=>by
 have IZ:∀c y,H c=Z (.own y)->c≠x:=λc y r z=>by subst z;rw[r]at mu;exact mu
 have Nn:∀c xs,H c=Z (.tup xs)->c≠x:=λc xs r z=>by subst z;rw[r]at mu;exact mu
 by_cases hb:b=x
 ·subst hb;rw[zo]at q;cases q;exact new
 ·rw[zn hb]at q;by_cases FL:b=e
  ·have q':H b=Z (.own x):=by
    rcases he with z|z
    ·exact absurd (FL.trans z) hb
    ·rw[FL];exact z
   rw[q]at q';cases q';obtain⟨v,hv⟩:=Hb;exact⟨v,by rw[FL];exact hv⟩
  ·refine(ok b u q).stay (λc v hc r=>k c v ?_ r) (λc r=>by rw[zn<|IZ c b r];exact r) λc xs r=>by rw[zn<|Nn c xs r];exact r
   rcases hc with rfl|hc
   ·exact FL
   ·rintro rfl;rcases he with z|z
    ·exact IZ c b hc z
    ·rw[hc]at z;cases z;exact hb rfl
end
structure Un (fs ex:List cZ)(H G:Hp)(h h':dz):Prop where
 keep:∀b o,h.get? b=Z o->H b=S->b∉fs->b∉ex->h'.get? b=Z o
 slot:∀b o,h.get? b=Z o->H b=S->b∈fs->b∉ex->∃sl,h'.get? b=Z { o with slots:=sl }
 free:∀b o,h.get? b=Z o->H b=S->b∉ex->G b=S
 there:∀b o,h.get? b=Z o->b∉ex->∃o',h'.get? b=Z o'
 tups:∀b xs,H b=Z (.tup xs)->G b=Z (.tup xs)
 frzs:∀b o u,H b=Z (.frz o u)->G b=Z (.frz o u)
 tbls:∀b ps,H b=Z (.tbl ps)->∃more,G b=Z (.tbl<|ps++more)
section
variable {fs G5 ex ex':List cZ}{H1 H2:Hp}{h1 h2:dz}{x e:cZ}{o:HO}
theorem Un.any (u:Un fs ex H H1 h h1){ob:gM}(q:h.get? b=Z ob)(n:H b=S)(hx:b∉ex):∃sl,h1.get? b=Z { ob with slots:=sl }:=by
 by_cases hb:b∈fs
 ·exact u.slot b ob q n hb hx
 ·exact⟨ob.slots,u.keep b ob q n hb hx⟩
theorem Un.kept (k:∀b u,h.get? b=Z u->h'.get? b=Z u):Un fs ex H H h h' :=
 ⟨λb ob q _ _ _=>k b ob q,λb ob q _ _ _=>⟨ob.slots,k b ob q⟩,λ_ _ _ n _=>n,λb ob q _=>⟨ob,k b ob q⟩,λ_ _ q=>q,λ_ _ _ q=>q,λ_ ps q=>⟨#[],by rw[q];simp⟩⟩
theorem Un.refl:Un fs ex H H h h:=Un.kept λ_ _ q=>q
theorem Un.laid (k:∀b u,h.get? b=Z u->h'.get? b=Z u)(hp:h.objs.size<=a)(hn:H a=S):Un fs ex H (upd H a o) h h' where
 keep:=λb u q _ _ _=>k b u q
 slot:=λb u q _ _ _=>⟨u.slots,k b u q⟩
 free:=λb u q n _=>by rw[zn<|dU<|d8 (dB q) hp];exact n
 there:=λb u q _=>⟨u,k b u q⟩
 tups:=λb xs q=>by rw[zn<|zp q hn];exact q
 frzs:=λb u xs q=>by rw[zn<|zp q hn];exact q
 tbls:=λb ps q=>⟨#[],by rw[zn<|zp q hn,q];simp⟩
theorem Un.write (mu:HJ<|H x)(he:e=x\/H e=Z (.own x))(k:∀b u,b≠e->h.get? b=Z u->h'.get? b=Z u)(Hb:∃u,h'.get? e=Z u):Un fs ex H (upd H x o) h h':=by
 have hx:∀b,H b=S->b≠x:=λb n z=>by subst z;rw[n]at mu;exact mu
 have hb:∀b,H b=S->b≠e:=λb n z=>by
  subst z;rcases he with r|r
  ·exact hx b n r
  ·rw[n]at r;cases r
 have hm:∀b u,H b=Z u->¬HJ (Z u)->b≠x:=λb u q nm z=>by subst z;rw[q]at mu;exact nm mu
 refine⟨λb u q n _ _=>k b u (hb b n) q,λb u q n _ _=>⟨u.slots,k b u (hb b n) q⟩,λb u q n _=>by rw[zn<|hx b n];exact n,λb u q _=>?_,
  λb xs q=>by rw[zn<|hm b _ q λz=>z];exact q,λb u xs q=>by rw[zn<|hm b _ q λz=>z];exact q,λb ps q=>⟨#[],by rw[zn<|hm b _ q λz=>z,q];simp⟩⟩
 by_cases FL:b=e
 ·subst FL;exact Hb
 ·exact⟨u,k b u FL q⟩
end
def KJ (h:dz)(H:Hp):List cZ:=(kz h.objs.size).filter λa=>(H a).isSome
def wJ (h:dz)(H:Hp):dz:=PySem.W.hideAll h<|KJ h H
theorem YO (h:dz)(H:Hp):(wJ h H).objs.size=h.objs.size:=PySem.W.hideAll_size _ _
theorem ZD {o:gM}(e:h.get? b=Z o)(n:H b=S):(wJ h H).get? b=Z o :=
 PySem.W.hideAll_get _ e λhm=>by have q:(H b).isSome=Â:=(C9.mp hm).2;rw[n]at q;simp at q
theorem zqq {o:gM}(e:(wJ h H).get? b=Z o):h.get? b=Z o/\H b=S:=by
 have e':h.get? b=Z o:=PySem.W.of_hideAll (KJ h H) e;refine⟨e',?_⟩;cases q:H b with
 |none=>rfl
 |some x=>have hm:b∈KJ h H:=C9.mpr ⟨oX.mpr<|dB e',by simp[q]⟩;have z:(wJ h H).get? b=S:=PySem.W.hideAll_none (KJ h H) hm;rw[z]at e;cases e
noncomputable def DK (g h:dz)(U':cZ):List (cZ×gM):=(kz h.objs.size).filterMap λa=>if a=U'\/(g.get? a).isSome=Â then S else(h.get? a).map λo=>(a,o)
def Ê (g h:dz)(U' d:cZ):List (cZ×gM):=(DK g h U').filter λp=>decide<|p.1≠d
structure Mod (K:cX)(mg:Str->Option cU)(base:dz):Prop where
 kin:K.In base
 glob:base.Ns eQ mg
 blt:∃mb,base.Ns ED mb/\∀x:Str,x≠"__name__"->mb x=eM x
 nolimit:base.NoLimit
structure Cx where
 prog:eI
 w:d5
 K:cX
 mg:Str->Option cU
 base:dz
 A:dO
 N:List Str
 s₀:de
 H₀:Hp
 env:Env
 outer:List Env
 stack:List Env
 ex:List cZ
 fn:Str->Bool
 calm:Bool
 pn:List (cZ×gM)
 xe:cU->de->Prop
abbrev SE (X:Cx)(e:Expr)(es:List Expr):Prop:=dM (e::es) X.env=(Ã,eP e X.env)::dM es X.env
abbrev SN (X:Cx)(e:Expr):Prop:=dM [e] X.env=[(Ã,eP e X.env)]
abbrev lV (X:Cx)(p:my)(es:List Expr):Prop:=(gR p<|dM es X.env).any (·.1)=Ã
abbrev xE (X:Cx)(x:Str):Prop:=X.fn x=Â\/X.env.scope.names.lookup x=Z .local
abbrev G0 (X:Cx)(e:Expr)(x:Str)(p q:my):Prop:=gc e (Z<|.Name x p) q.line X.env=pure Ã
abbrev B4 (X:Cx)(i:Expr):Prop:=∀x,foldedSetIterable i X.env x=pure x
abbrev Af (X:Cx)(e:Expr)(x:Str):Prop:=lU e x X.env (eP e X.env)=eP e X.env
abbrev DD (X:Cx)(p:my)(es:List Expr):Prop:=((gR p<|dM es X.env).all (λx=>!x.1)&&(ir p<|fO [] X.env).all (λx=>x.1.isSome)&&decide (es.length+([]:List xO).length+(if([]:List xO).isEmpty then 0 else 1)<30))=Â
noncomputable def B6 (l:List Env):List cZ:=l.filterMap (·.frame)
abbrev Cx.fs (X:Cx):List cZ:=B6 X.outer
def pN (sc:pI)(x:Str):Prop:=sc.names.lookup x=Z .local\/sc.names.lookup x=Z .cell\/sc.names.lookup x=Z .free
def ë (sc:pI)(x:Str):Prop:=sc.names.lookup x=Z .local\/sc.names.lookup x=Z .cell
def ĭ (env:Env)(h:dz)(m:Str->Option cU)(x:Str)(u:cU):Prop :=
 (env.kindOf x=Z .local/\m x=Z u)\/((env.kindOf x=Z .cell\/env.kindOf x=Z .free)/\∃c,env.cells.lookup x=Z c/\h.IsCell c (Z u))
structure Cx.Ok (X:Cx):Prop where
 mod:Mod X.K X.mg X.base
 kind:X.env.scope.kind=.function
 glob:X.env.globals=eQ
 blt:X.env.builtins=ED
 above:X.s₀.heap.objs.size<=X.env.locals
 inj:∀x y c,X.env.cells.lookup x=Z c->X.env.cells.lookup y=Z c->x=y
 has:∀x,(X.env.kindOf x=Z .cell\/X.env.kindOf x=Z .free)->∃c,X.env.cells.lookup x=Z c
 cab:∀x c,X.fn x=Â->X.env.cells.lookup x=Z c->X.s₀.heap.objs.size<=c
 hd:X.calm=Â->X.A.handled=S
 frames:X.A.frames=Z X.stack
 stk:X.stack=X.outer\/(X.stack=X.env::X.outer/\X.env.frame=Z X.env.locals)
 exf:∀b∈X.ex,b≠X.env.locals/\∀x c,X.env.cells.lookup x=Z c->c≠b
 bs:∀b o,X.base.get? b=Z o->X.s₀.heap.get? b=Z o/\X.H₀ b=S
 bsz:X.base.objs.size<=X.s₀.heap.objs.size
 noex:∀b o,X.base.get? b=Z o->b∉X.ex
 exfs:∀b∈X.ex,b∉X.fs
 funs:X.s₀.heap.FunFrames X.base X.outer
 frf:∀b∈X.fs,X.H₀ b=S
structure Ç (X:Cx)(cW:List<|cZ×gM)(U:List<|Option V)(H:Hp)(s:de):Prop where
 ok:X.Ok
 os:s.os=X.s₀.os
 bare:AllBare s.gens
 base:Un X.fs X.ex X.H₀ H X.s₀.heap s.heap
 loc:∃m,s.heap.Ns X.env.locals m/\∀(i:Nat) (x:Str) (v:V),X.N[i]?=Z x->U[i]?=Z (Z v)->pN X.env.scope x->∃u,Ì v u/\ĭ X.env s.heap m x u
 cell:∀x c,X.env.cells.lookup x=Z c->∃v,s.heap.IsCell c v
 free:H X.env.locals=S
 freeC:∀x c,X.env.cells.lookup x=Z c->H c=S
 pin:∀p∈X.pn++cW,s.heap.get? p.1=Z p.2/\H p.1=S/\p.1≠X.env.locals/\p.1∉X.fs/\∀v,p.2.data≠.cell v
 hok:pL X.prog X.w H s.heap
 len:U.length=X.N.length
variable {E:cU->de->Prop}{J':Model}{X:Cx}{ch:List cZ}{j t':Nat}{cW:List (cZ×gM)}{s s':de}{v:V}{x:Str}
section
variable {U:List (Option V)}
theorem Cx.Ok.nofr (ok:X.Ok){o:gM}(e:X.base.get? b=Z o):b∉X.fs:=λhb=>by have:=(ok.funs.mem hb).1;rw[e]at this;cases this
theorem Ç.bs (I:Ç X cW U H s):∀b o,X.base.get? b=Z o->s.heap.get? b=Z o/\H b=S:=λb o e=>⟨I.base.keep b o (I.ok.bs b o e).1 (I.ok.bs b o e).2 (I.ok.nofr e)<|I.ok.noex b o e,I.base.free b o (I.ok.bs b o e).1 (I.ok.bs b o e).2<|I.ok.noex b o e⟩
theorem Ç.bk (I:Ç X cW U H s):∀b o,X.base.get? b=Z o->s.heap.get? b=Z o:=λb o e=>(I.bs b o e).1
theorem Ç.mod (I:Ç X cW U H s):Mod X.K X.mg X.base:=I.ok.mod
theorem Ç.kIn (I:Ç X cW U H s):X.K.In s.heap:=I.ok.mod.kin.keeps I.bk
theorem Ç.fr (I:Ç X cW U H s):∃m,Fr X.base X.env.locals s.heap m :=
 let⟨m,hn,_⟩:=I.loc
 ⟨m,hn,I.bk,fk I.ok.bsz I.ok.above⟩
theorem Ç.lt (I:Ç X cW U H s):X.env.locals<s.heap.objs.size:=let⟨_,hn,_⟩:=I.loc;hn.lt
theorem Ç.sz (I:Ç X cW U H s):X.s₀.heap.objs.size<=s.heap.objs.size:=fk I.ok.above<|rQ I.lt
theorem Ç.nofs (I:Ç X cW U H s)(h:s.heap.objs.size<=a):a∉X.fs:=λhb=>by obtain⟨_,o,ho,_⟩:=I.ok.funs.mem hb;exact absurd (d8 (dB ho)<|fk I.sz h)<|iF _
theorem Ç.cne (I:Ç X cW U H s):∀x c,X.env.cells.lookup x=Z c->c≠X.env.locals:=λx c e z=>by obtain⟨v,o,ho,hd⟩:=I.cell x c e;obtain⟨m,⟨o',es,ep,Ds,Mx,_⟩,_⟩:=I.loc;rw[z,Ds]at ho;cases ho;rw[Mx]at hd;cases hd
theorem Ç.funs (I:Ç X cW U H s):s.heap.FunFrames X.base X.outer:=by
 have all:∀(l:List Env),(∀b∈B6 l,b∈X.fs)->X.s₀.heap.FunFrames X.base l->s.heap.FunFrames X.base l:=by
  intro l;induction l with
  |nil=>intro _ _;trivial
  |cons env r ih=>intro hs hl;obtain⟨hk,⟨U',o,hf,hn,ho,hd⟩,hr⟩:=hl;have hL:U'∈X.fs:=hs U' (by unfold B6;rw[lS,hf];exact cV);obtain⟨sl,e⟩:=I.base.slot U' o ho (I.ok.frf U' hL) hL λz=>I.ok.exfs U' z hL;exact⟨hk,⟨U',_,hf,hn,e,hd⟩,ih (λb hb=>hs b<|by unfold B6;rw[lS,hf];exact df _ hb) hr⟩
 exact all X.outer (λ_ hb=>hb) I.ok.funs
theorem Ç.stack (I:Ç X cW U H s):s.heap.FunFrames X.base X.stack:=by
 rcases I.ok.stk with e|⟨e,hf⟩
 ·rw[e];exact I.funs
 ·rw[e];obtain⟨m,hn,_⟩:=I.loc;refine .cons (by rw[I.ok.kind];decide) hf hn ?_ I.funs;exact zW<|fk I.ok.bsz I.ok.above
theorem Ç.stkSub (I:Ç X cW U H s):∀b∈B6 X.stack,b∈X.env.locals::X.fs:=λb hb=>by
 rcases I.ok.stk with e|⟨e,hf⟩
 ·rw[e]at hb;exact df _ hb
 ·rw[e]at hb;unfold B6 at hb;rw[lS,hf]at hb;exact hb
theorem Ç.stkFree (I:Ç X cW U H s):∀b∈B6 X.stack,H b=S:=λb hb=>by
 rcases dn.mp (I.stkSub b hb)with e|hb
 ·rw[e];exact I.free
 ·obtain⟨_,o,ho,_⟩:=I.ok.funs.mem hb;exact I.base.free b o ho (I.ok.frf b hb) λz=>I.ok.exfs b z hb
theorem Ç.step {g':Array GenState}{d':Drawn}(I:Ç X cW U H s)
  (tm:∀b∈ch,(b∈X.ex\/X.s₀.heap.objs.size<=b)/\b≠X.env.locals/\(∀x c,X.env.cells.lookup x=Z c->c≠b)/\∀p∈X.pn++cW,p.1≠b)
  (keep:∀b o,b≠X.env.locals->b∉X.fs->b∉ch->s.heap.get? b=Z o->H b=S->h'.get? b=Z o)
  (slot:∀b o,b≠X.env.locals->b∈X.fs->b∉ch->s.heap.get? b=Z o->H b=S->∃sl,h'.get? b=Z { o with slots:=sl }) (free:∀b o,b∉ch->s.heap.get? b=Z o->H b=S->G b=S)
  (there:∀b o,b∉ch->s.heap.get? b=Z o->∃o',h'.get? b=Z o')
  (tups:∀b xs,H b=Z (.tup xs)->G b=Z (.tup xs)) (frzs:∀b o u,H b=Z (.frz o u)->G b=Z (.frz o u)) (tbls:∀b ps,H b=Z (.tbl ps)->∃more,G b=Z (.tbl<|ps++more))
  (ns:∀m,s.heap.Ns X.env.locals m->h'.Ns X.env.locals m) (hok:pL X.prog X.w G h') (hg:AllBare g') :
  Ç X cW U G { s with heap:=h',gens:=g',drawn:=d',toks:=t' }:=by
 have Hh:∀b o,X.s₀.heap.get? b=Z o->b≠X.env.locals:=λb o e=>dU<|d8 (dB e) I.ok.above;have Kw:∀b o,X.s₀.heap.get? b=Z o->b∉X.ex->b∉ch:=λb o e hx hb=>by
  rcases(tm b hb).1 with z|z
  ·exact hx z
  ·exact absurd (d8 (dB e) z)<|iF _
 have cellK:∀x c,X.env.cells.lookup x=Z c->∀v,s.heap.IsCell c v->h'.IsCell c v:=λx c e v ⟨o,ho,hd⟩=>by
  have IT:c∉ch:=λz=>(tm c z).2.2.1 x c e rfl;by_cases hc:c∈X.fs
  ·obtain⟨sl,q⟩:=slot c o (I.cne x c e) hc IT ho<|I.freeC x c e;exact⟨_,q,hd⟩
  ·exact⟨o,keep c o (I.cne x c e) hc IT ho<|I.freeC x c e,hd⟩
 refine⟨I.ok,I.os,hg,⟨λb o e n hb hx=>?_,λb o e n hb hx=>?_,λb o e n hx=>?_,λb o e hx=>?_,λb xs e=>tups b xs<|I.base.tups b xs e,λb o xs e=>frzs b o xs<|I.base.frzs b o xs e,λb ps e=>?_⟩,?_,λx c e=>?_,?_,λx c e=>?_,λp hp=>?_,hok,I.len⟩
 ·exact keep b o (Hh b o e) hb (Kw b o e hx) (I.base.keep b o e n hb hx)<|I.base.free b o e n hx
 ·obtain⟨sl,e1⟩:=I.base.slot b o e n hb hx;obtain⟨NC,e2⟩:=slot b _ (Hh b o e) hb (Kw b o e hx) e1<|I.base.free b o e n hx;exact⟨NC,e2⟩
 ·obtain⟨o',e1⟩:=I.base.there b o e hx;exact free b o' (Kw b o e hx) e1<|I.base.free b o e n hx
 ·obtain⟨o',e1⟩:=I.base.there b o e hx;exact there b o' (Kw b o e hx) e1
 ·obtain⟨m1,e1⟩:=I.base.tbls b ps e;obtain⟨m2,e2⟩:=tbls b _ e1;exact⟨m1++m2,by rw[e2,AH]⟩
 ·obtain⟨m,hn,hl⟩:=I.loc;refine⟨m,ns m hn,λi x v e1 e2 e3=>?_⟩;obtain⟨u,r,l⟩:=hl i x v e1 e2 e3;refine⟨u,r,?_⟩;rcases l with l|⟨k,c,e,z⟩
  ·exact .inl l
  ·exact .inr ⟨k,c,e,cellK x c e _ z⟩
 ·obtain⟨v,z⟩:=I.cell x c e;exact⟨v,cellK x c e v z⟩
 ·obtain⟨m,⟨o,_,_,ho,_⟩,_⟩:=I.loc;exact free _ o (λz=>(tm _ z).2.1 rfl) ho I.free
 ·obtain⟨v,o,ho,hd⟩:=I.cell x c e;exact free c o (λz=>(tm c z).2.2.1 x c e rfl) ho<|I.freeC x c e
 ·obtain⟨e,n,ne,nf,d⟩:=I.pin p hp;have IT:p.1∉ch:=λz=>(tm p.1 z).2.2.2 p hp rfl;exact⟨keep p.1 p.2 ne nf IT e n,free p.1 p.2 IT e n,ne,nf,d⟩
theorem Ç.un (I:Ç X cW U H s)(u:Un X.fs [] H G s.heap h')(hok:pL X.prog X.w G h'):Ç X cW U G { s with heap:=h',toks:=t' }:=by obtain⟨m,⟨o,es,ep,ho,r⟩,_⟩:=id I.loc;obtain⟨sl,hL⟩:=u.any ho I.free (by simp);exact I.step (g':=s.gens) (d':=s.drawn) (ch:=[]) (λ_ z=>nomatch z) (λb o _ hb _ e n=>u.keep b o e n hb<|by simp) (λb o _ hb _ e n=>u.slot b o e n hb<|by simp) (λb o _ e n=>u.free b o e n<|by simp) (λb o _ e=>u.there b o e<|by simp) u.tups u.frzs u.tbls (λm' hm=>by obtain⟨o',DU,L4,Ds,r'⟩:=hm;rw[ho]at Ds;cases Ds;exact⟨_,DU,L4,hL,r'⟩) hok I.bare
theorem Ç.call {g':Array GenState}{d':Drawn}(I:Ç X cW U H s)(u:Un (B6 X.stack) ch H G s.heap h')(hok:pL X.prog X.w G h')(hg:AllBare g')
  (tm:∀b∈ch,(b∈X.ex\/X.s₀.heap.objs.size<=b)/\b≠X.env.locals/\(∀x c,X.env.cells.lookup x=Z c->c≠b)/\∀p∈X.pn++cW,p.1≠b) :
  Ç X cW U G { s with heap:=h',gens:=g',drawn:=d',toks:=t' }:=by
 obtain⟨m,⟨o,es,ep,ho,r⟩,_⟩:=id I.loc;obtain⟨sl,hL⟩:=u.any ho I.free λz=>(tm _ z).2.1 rfl;exact I.step (ch:=ch) tm (λb o hL hb hc e n=>u.keep b o e n (λz=>(dn.mp<|I.stkSub b z).elim hL hb) hc) (λb o _ _ hc e n=>u.any e n hc) (λb o hc e n=>u.free b o e n hc) (λb o hc e=>u.there b o e hc) u.tups u.frzs u.tbls (λm' hm=>by obtain⟨o',DU,L4,Ds,r'⟩:=hm;rw[ho]at Ds;cases Ds;exact⟨_,DU,L4,hL,r'⟩) hok hg
theorem Ç.turned {it:cZ}(I:Ç X cW U H s)(k:∀b o,b≠it->s.heap.get? b=Z o->h'.get? b=Z o)(hn:H it=S)(hL:it≠X.env.locals)
  (h1:it∈X.ex\/X.s₀.heap.objs.size<=it) (h2:∀x c,X.env.cells.lookup x=Z c->c≠it) (h3:∀p∈X.pn++cW,p.1≠it):Ç X cW U H { s with heap:=h',toks:=t' }:=by
 have P6:∀b u,H b=Z u->b≠it:=λb u e z=>by rw[z,hn]at e;cases e
 refine I.step (g':=s.gens) (d':=s.drawn) (ch:=[it]) (λb hb=>?_) (λb o _ _ hc e _=>k b o (λz=>hc<|by simp[z]) e) (λb o _ _ hc e _=>⟨o.slots,k b o (λz=>hc<|by simp[z]) e⟩) (λ_ _ _ _ n=>n)
  (λb o hc e=>⟨o,k b o (λz=>hc<|by simp[z]) e⟩) (λ_ _ e=>e) (λ_ _ _ e=>e) (λb ps e=>⟨#[],by rw[e];simp⟩) (λm hm=>?_) (λb u e=>?_) I.bare
 ·have e:b=it:=by simpa using hb
  subst e;exact⟨h1,hL,h2,h3⟩
 ·obtain⟨o,es,ep,ho,r⟩:=hm;exact⟨o,es,ep,k _ o (Ne.symm hL) ho,r⟩
 ·refine(I.hok b u e).stay (λc v hc q=>k c v ?_ q) (λ_ q=>q) λ_ _ q=>q;rcases hc with z|z
  ·rw[z];exact P6 b u e
  ·exact P6 c _ z
theorem Ç.tok (I:Ç X cW U H s)(t:Nat):Ç X cW U H { s with toks:=t }:=I.un (h':=s.heap) (t':=t) Un.refl I.hok
theorem Ç.kept (I:Ç X cW U H s)(k:∀b u,s.heap.get? b=Z u->h'.get? b=Z u):Ç X cW U H { s with heap:=h',toks:=t' }:=I.un (Un.kept k)<|I.hok.kept k
theorem Ç.laid {o:HO}(I:Ç X cW U H s)(k:∀b u,s.heap.get? b=Z u->h'.get? b=Z u)(hp:s.heap.objs.size<=a)(new:il X.prog X.w (upd H a o) h' a o) :
  Ç X cW U (upd H a o) { s with heap:=h',toks:=t' }:=I.un (Un.laid k hp<|I.hok.fresh hp)<|I.hok.laid k hp new
theorem Ç.write {x e:cZ}{o:HO}(I:Ç X cW U H s)(mu:HJ<|H x)(he:e=x\/H e=Z (.own x))(k:∀b u,b≠e->s.heap.get? b=Z u->h'.get? b=Z u)(Hb:∃u,h'.get? e=Z u)
  (new:il X.prog X.w (upd H x o) h' x o):Ç X cW U (upd H x o) { s with heap:=h',toks:=t' }:=I.un (Un.write mu he k Hb)<|I.hok.write mu he k Hb new
theorem Ç.weak {σ':List (Option V)}(I:Ç X cW U H s)(hl:σ'.length = U.length)(w:∀(i:Nat) v,σ'[i]?=Z (Z v)->U[i]?=Z (Z v)):Ç X cW σ' H s :=
 ⟨I.ok,I.os,I.bare,I.base,let⟨m,hn,Do⟩:=I.loc;⟨m,hn,λi x v e1 e2 e3=>Do i x v e1 (w i v e2) e3⟩,I.cell,I.free,I.freeC,I.pin,I.hok,hl.trans I.len⟩
theorem Ç.pins_of {E9:List (cZ×gM)}(I:Ç X cW U H s)(h:∀p∈E9,s.heap.get? p.1=Z p.2/\H p.1=S/\p.1≠X.env.locals/\p.1∉X.fs/\∀v,p.2.data≠.cell v):Ç X E9 U H s :=
 ⟨I.ok,I.os,I.bare,I.base,I.loc,I.cell,I.free,I.freeC,λp hp=>(dD.mp hp).elim (λz=>I.pin p<|dc _ z)<|h p,I.hok,I.len⟩
theorem Oe {N:List Str}(hN:N.Nodup){i:Nat}(a:N[i]?=Z x)(b:N[j]?=Z x):i=j:=by obtain⟨h1,e1⟩:=ee.mp a;obtain⟨h2,e2⟩:=ee.mp b;exact(List.getElem_inj hN).mp<|e1.trans e2.symm
theorem Q6 {A:dO}{i:Nat}{Q:Unit->de->Prop}(I:Ç X cW U H s)(hN:X.N.Nodup)(hi:X.N[i]?=Z x)(hx:ë X.env.scope x)(r:Ì v u)
  (h:∀s',Ç X cW (U.set i<|Z v) H s'->(∃a,fZ a s.heap s'.heap/\(a=X.env.locals\/X.env.cells.lookup x=Z a))->Q () s') (hf:xE X x:=by walk_at "v2"):dr J' A (storeName X.env x u) Q E s:=by
 obtain⟨m,hn,hl⟩:=id I.loc;have FM:(X.env.scope.kind==.class || (X.env.scope.kind==.module&&X.env.locals != X.env.globals))=Ã:=by rw[I.ok.kind];rfl
 have PR:i < U.length:=by rw[I.len];exact(ee.mp hi).1
 have cne:=I.cne;have tracked:∀{a:cZ} {h':dz},(∃o,s.heap.get? a=Z o/\H a=S)->fZ a s.heap h'->pL X.prog X.w H h':=λ{a h'} ha hs b ob e=>by
  obtain⟨_,_,ES⟩:=ha;refine(I.hok b ob e).stay (λc w' hc q=>(hs.2 c ?_).trans q) (λ_ q=>q) λ_ _ q=>q;rintro rfl;rcases hc with rfl|hc
  ·rw[ES]at e;cases e
  ·rw[ES]at hc;cases hc
 rcases hx with hk|hk
 ·refine wpAny_storeName_local hk hn (λh' EU hs=>?_) FM;obtain⟨oL,_,_,PV,_⟩:=id hn;refine h _ ⟨I.ok,I.os,I.bare,⟨λb o e n hb hx=>?_,λb o e n hb hx=>?_,I.base.free,λb o e hx=>?_,I.base.tups,I.base.frzs,I.base.tbls⟩,⟨_,EU,λj y v' e1 e2 e3=>?_⟩,λy c e=>?_,I.free,I.freeC,λp hp=>?_,tracked ⟨oL,PV,I.free⟩ hs,by simpa using I.len⟩ ⟨_,hs,.inl rfl⟩
  ·exact(hs.2 b<|dU<|d8 (dB e) I.ok.above).trans<|I.base.keep b o e n hb hx
  ·obtain⟨sl,e1⟩:=I.base.slot b o e n hb hx;exact⟨sl,(hs.2 b<|dU<|d8 (dB e) I.ok.above).trans e1⟩
  ·obtain⟨o',e1⟩:=I.base.there b o e hx;exact⟨o',(hs.2 b<|dU<|d8 (dB e) I.ok.above).trans e1⟩
  ·by_cases hj:j=i
   ·subst hj;rw[hi]at e1;cases e1;rw[iR PR]at e2;cases e2;exact⟨u,r,.inl ⟨hk,by simp⟩⟩
   ·rw[gj<|Ne.symm hj]at e2;obtain⟨u',r',q⟩:=hl j y v' e1 e2 e3;refine⟨u',r',?_⟩;rcases q with⟨k,e⟩|⟨k,c,e,z⟩
    ·refine .inl ⟨k,?_⟩;have:y≠x:=λe=>hj<|Oe hN e1<|e▸hi;simp[this,e]
    ·exact .inr ⟨k,c,e,z.sameBut hs<|cne y c e⟩
  ·obtain⟨w',z⟩:=I.cell y c e;exact⟨w',z.sameBut hs<|cne y c e⟩
  ·obtain⟨e,n,ne,nf,d⟩:=I.pin p hp;exact⟨(hs.2 p.1 ne).trans e,n,ne,nf,d⟩
 ·have zS:X.fn x=Â:=by
   rcases hf with z|z
   ·exact z
   ·rw[z]at hk;cases hk
  obtain⟨c,hc⟩:=I.ok.has x<|.inl hk;obtain⟨w',z⟩:=I.cell x c hc;refine wpAny_storeName_cell I.ok.kind hk hc z<|λh' ER hs=>?_;obtain⟨oc,PX,MM⟩:=id z;refine h { s with heap:=h' } ⟨I.ok,I.os,I.bare,⟨λb o e n hb hx=>?_,λb o e n hb hx=>?_,I.base.free,λb o e hx=>?_,I.base.tups,I.base.frzs,I.base.tbls⟩,⟨m,hn.sameBut hs<|Ne.symm<|cne x c hc,λj y v' e1 e2 e3=>?_⟩,λy c' e=>?_,I.free,I.freeC,λp hp=>?_,tracked ⟨oc,PX,I.freeC x c hc⟩ hs,by simpa using I.len⟩ ⟨c,hs,.inr hc⟩
  ·exact(hs.2 b<|dU<|d8 (dB e)<|I.ok.cab x c zS hc).trans<|I.base.keep b o e n hb hx
  ·obtain⟨sl,e1⟩:=I.base.slot b o e n hb hx;exact⟨sl,(hs.2 b<|dU<|d8 (dB e)<|I.ok.cab x c zS hc).trans e1⟩
  ·obtain⟨o',e1⟩:=I.base.there b o e hx;exact⟨o',(hs.2 b<|dU<|d8 (dB e)<|I.ok.cab x c zS hc).trans e1⟩
  ·by_cases hj:j=i
   ·subst hj;rw[hi]at e1;cases e1;rw[iR PR]at e2;cases e2;exact⟨u,r,.inr ⟨.inl hk,c,hc,ER⟩⟩
   ·rw[gj<|Ne.symm hj]at e2;obtain⟨u',r',q⟩:=hl j y v' e1 e2 e3;refine⟨u',r',?_⟩;rcases q with q|⟨k,c',e,z'⟩
    ·exact .inl q
    ·refine .inr ⟨k,c',e,z'.sameBut hs ?_⟩;rintro rfl;exact hj<|Oe hN e1<|I.ok.inj _ _ _ e hc▸hi
  ·by_cases PD:c'=c
   ·subst PD;exact⟨_,ER⟩
   ·obtain⟨w2,z2⟩:=I.cell y c' e;exact⟨w2,z2.sameBut hs PD⟩
  ·obtain⟨e,n,ne,nf,d⟩:=I.pin p hp;refine⟨(hs.2 p.1 ?_).trans e,n,ne,nf,d⟩;intro q;rw[q,PX]at e;have q':oc=p.2:=Option.some.inj e;exact d w' (by rw[←q'];exact MM)
theorem jy {A:dO}{i:Nat}{Q:Unit->de->Prop}(I:Ç X cW U H s)(hN:X.N.Nodup)(hi:X.N[i]?=Z x)(hx:ë X.env.scope x)(r:Ì v u)
  (h:∀s',Ç X cW (U.set i<|Z v) H s'->Q () s') (hf:xE X x:=by walk_at "v2"):dr J' A (storeName X.env x u) Q E s :=
 Q6 I hN hi hx r (λs' I' _=>h s' I') hf
theorem Ç.call' (I:Ç X cW U H s)(ho:s'.os=s.os)(u:Un (B6 X.stack) ch H G s.heap s'.heap)(hok:pL X.prog X.w G s'.heap)(hg:AllBare s'.gens)
  (tm:∀b∈ch,(b∈X.ex\/X.s₀.heap.objs.size<=b)/\b≠X.env.locals/\(∀x c,X.env.cells.lookup x=Z c->c≠b)/\∀p∈X.pn++cW,p.1≠b):Ç X cW U G s':=by
 obtain⟨h',g',d',t',o'⟩:=s';have e:o'=s.os:=ho;subst e;exact I.call (g':=g') (t':=t') (d':=d') u hok hg tm
end
abbrev XK:=cU->Option cZ->Hp->Prop
noncomputable abbrev St:=List<|Option V
abbrev VK:=V->Hp->Prop
abbrev TE:=St->Hp->VK->Prop
abbrev TT:=St->Hp->(Bool->Hp->Prop)->Prop
abbrev TA:=St->Hp->(List V->Hp->Prop)->Prop
structure lO where
 nx:St->Hp->Prop
 rt:VK
 bk:St->Hp->Prop:=λ_ _=>False
 ct:St->Hp->Prop:=λ_ _=>False
abbrev TS:=lO->St->Hp->Prop
def EP (X:Cx)(cW:List<|cZ×gM)(U:St)(Q:VK)(u:cU)(s':de):Prop:=∃v G,Ç X cW U G s'/\Ì v u/\Q v G
def TP (X:Cx)(cW:List<|cZ×gM)(U:St)(Q:Bool->Hp->Prop)(b:Bool)(s':de):Prop:=∃G,Ç X cW U G s'/\Q b G
def AP (X:Cx)(cW:List<|cZ×gM)(U:St)(Q:List V->Hp->Prop)(us:List cU)(s':de):Prop:=∃vs G,Ç X cW U G s'/\eh vs us/\Q vs G
def SP (X:Cx)(cW:List<|cZ×gM)(D:lO)(f:Flow)(s':de):Prop :=
 match f with
 |.next=>∃σ' G,Ç X cW σ' G s'/\D.nx σ' G
 |.brk=>∃σ' G,Ç X cW σ' G s'/\D.bk σ' G
 |.cont=>∃σ' G,Ç X cW σ' G s'/\D.ct σ' G
 |.ret u=>∃v σ' G,Ç X cW σ' G s'/\Ì v u/\D.rt v G
def PE (X:Cx)(e:Expr)(t:TE):Prop :=
 ∀(cW:List<|cZ×gM) (s:de) (U:St) (H:Hp) (Q:VK),Ç X cW U H s->t U H Q->dr (dq X.prog X.w) X.A (eP e X.env) (EP X cW U Q) X.xe s
def PT (X:Cx)(e:Expr)(t:TT):Prop :=
 ∀(cW:List<|cZ×gM) (s:de) (U:St) (H:Hp) (Q:Bool->Hp->Prop),Ç X cW U H s->t U H Q->dr (dq X.prog X.w) X.A (vC e X.env<|eP e X.env) (TP X cW U Q) X.xe s
def PW (X:Cx)(e:Expr)(t:TT):Prop :=
 ∀(whole:Cd cU) (cW:List<|cZ×gM) (s:de) (U:St) (H:Hp) (Q:Bool->Hp->Prop),Ç X cW U H s->t U H Q->dr (dq X.prog X.w) X.A (vC e X.env whole) (TP X cW U Q) X.xe s
variable {e:Expr}
theorem PW.pt {t:TT}(h:PW X e t):PT X e t:=h _
def PA (X:Cx)(es:List Expr)(t:TA):Prop :=
 ∀(pos:my) (cW:List<|cZ×gM) (s:de) (U:St) (H:Hp) (Q:List V->Hp->Prop),Ç X cW U H s->t U H Q->dr (dq X.prog X.w) X.A (spliced<|gR pos<|dM es X.env) (AP X cW U Q) X.xe s
def PS (X:Cx)(st:et)(t:TS):Prop :=
 ∀(cW:List<|cZ×gM) (s:de) (U:St) (H:Hp) (D:lO),Ç X cW U H s->t D U H->dr (dq X.prog X.w) X.A (exec st X.env) (SP X cW D) X.xe s
def tG (X:Cx)(st:List et)(t:TS):Prop :=
 ∀(cW:List<|cZ×gM) (s:de) (U:St) (H:Hp) (D:lO),Ç X cW U H s->t D U H->dr (dq X.prog X.w) X.A (execs st X.env) (SP X cW D) X.xe s
theorem gb {t:Cd α}{Q Q':α->de->Prop}{A:dO}(h:dr J' A t Q E s)(hQ:∀a s,Q a s->Q' a s):dr J' A t Q' E s:=fW h hQ λ_ _ x=>x
variable {Q:cU->de->Prop}{c:Expr}{op:Bq}{pos:my}{ta tb:TE}{U:St}
section
theorem bin {a b:Expr}(ha:PE X a ta)(hb:PE X b tb){R:V->V->Hp->Prop}(I:Ç X cW U H s)(h:ta U H λx H1=>tb U H1 λy H2=>R x y H2)
 {Q:α->de->Prop} {f:cU->cU->Cd α}
    (hf:∀v u s2 x y H2,Ç X cW U H2 s2->Ì x v->Ì y u->R x y H2->dr (dq X.prog X.w) X.A (f v u) Q X.xe s2) :
    dr (dq X.prog X.w) X.A (eP a X.env) (λv s₁=>dr (dq X.prog X.w) X.A (eP b X.env) (λu s₂=>dr (dq X.prog X.w) X.A (f v u) Q X.xe s₂) X.xe s₁) X.xe s:=by
  refine gb (ha cW s U H _ I h) λv s1 gP=>?_;obtain⟨x,H1,I1,r1,q1⟩:=gP;refine gb (hb cW s1 U H1 _ I1 q1) λu s2 gP=>?_;obtain⟨y,H2,I2,r2,q2⟩:=gP;exact hf v u s2 x y H2 I2 r1 r2 q2
def rM (i:Nat):TE:=λU H Q=>∃v,U[i]?=Z (Z v)/\Q v H
def tC (v:V):TE:=λ_ H Q=>Q v H
theorem yb {i:Nat}(hN:X.N[i]?=Z x)(hv:pN X.env.scope x)(hd:iM x:=by decide)(iY:qD x:=by decide):PE X (.Name x pos) (rM i):=by
 intro cW s U H Q I h;obtain⟨v,e,h⟩:=h;obtain⟨m,hn,hl⟩:=I.loc;obtain⟨u,r,l⟩:=hl i x v hN e hv;have fin:EP X cW U Q u s:=⟨v,H,I,r,h⟩;rcases l with⟨hk,hm⟩|⟨hk,c,hc,AZ⟩
 ·exact EH (wpAny_loadName_local I.ok.kind hk hn hm fin) hd
 ·rcases hk with hk|hk
  ·exact EH (wpAny_loadName_cell I.ok.kind hk hc AZ fin) hd
  ·exact EH (wpAny_loadName_free I.ok.kind hk hc AZ fin iY) hd
theorem Κ {i j pos}:PE X (.Constant (.int i) j pos) (tC<|.int i):=λ_ _ _ H _ I h=>wpAny_Constant_int ⟨.int i,H,I.tok _,⟨_,rfl⟩,h⟩
theorem ŝ {b j pos}:PE X (.Constant (.bool b) j pos) (tC<|.bl b):=λ_ _ _ H _ I h=>Constant_bool ⟨.bl b,H,I,rfl,h⟩
theorem Ι {j pos}:PE X (.Constant .none j pos) (tC .non):=λ_ _ _ H _ I h=>Constant_none ⟨.non,H,I,rfl,h⟩
theorem Θ {x j pos}:PE X (.Constant (.str x) j pos) (tC<|.str x):=λ_ _ _ H _ I h=>Calls.Constant_str ⟨.str x,H,I.tok _,⟨_,rfl⟩,h⟩
def Gl (X:Cx)(x:Str):Prop:=X.env.kindOf x=Z .globalImplicit
theorem xj (I:Ç X cW U H s)(hg:Gl X x)(hm:X.mg x=Z u)(h:Q u s)
  (hd:iM x:=by decide):dr (dq X.prog X.w) X.A (eP (.Name x pos) X.env) Q E s :=
 Calls.Name_function_global I.ok.kind hg (Calls.loadGlobal_global (by rw[I.ok.glob];exact I.mod.glob.keeps I.bk) hm h) hd
theorem Fo (I:Ç X cW U H s)(hg:Gl X x)(hm:X.mg x=S)(hv:eM x=Z u)(h:Q u s)
  (hn:x≠"__name__":=by decide) (hd:iM x:=by decide):dr (dq X.prog X.w) X.A (eP (.Name x pos) X.env) Q E s:=by
 obtain⟨mb,h1,h2⟩:=I.mod.blt;exact Calls.Name_function_global I.ok.kind hg (Calls.loadGlobal_builtin (by rw[I.ok.glob];exact I.mod.glob.keeps I.bk) hm (by rw[I.ok.blt];exact h1.keeps I.bk) ((h2 x hn).trans hv) h) hd
theorem K2 (hg:Gl X x)(hm:X.mg x=Z u)(r:Ì v u)(hd:iM x:=by decide):PE X (.Name x pos) (tC v) :=
 λ_ _ _ H _ I h=>xj I hg hm ⟨v,H,I,r,h⟩ hd
theorem R4 (hg:Gl X x)(hm:X.mg x=S)(hv:eM x=Z u)(r:Ì v u)(hn:x≠"__name__":=by decide)(hd:iM x:=by decide):PE X (.Name x pos) (tC v) :=
 λ_ _ _ H _ I h=>Fo I hg hm hv ⟨v,H,I,r,h⟩ hn hd
variable {a b:Expr}
def PC (X:Cx)(op:Bq)(a b:Expr)(t:TE):Prop :=
 ∀(cW:List<|cZ×gM) (s:de) (U:St) (H:Hp) (Q:VK),Ç X cW U H s->t U H Q ->
  dr (dq X.prog X.w) X.A (eP a X.env) (λv s₁=>dr (dq X.prog X.w) X.A (eP b X.env) (λu s₂=>dr (dq X.prog X.w) X.A (e9 op v u) (EP X cW U Q) X.xe s₂) X.xe s₁) X.xe s
def tB (t:TE):TT:=λU H Q=>t U H λx H1=>∃c,x=.bl c/\Q c H1
theorem Li {t:TE}(h:PC X op a b t)(h1:gh op b=Ã:=by first|exact IY _ (by decide) (by decide)|rfl):PT X (.Compare a [op] [b] pos) (tB t):=by intro cW s U H Q I hw;refine wpAny_isTrue_Compare1 (gb (h cW s U H _ I hw) λv s1 h1=>gb h1 λu s2 h2=>gb h2 λc s3 hq=>?_) h1;obtain⟨x,H1,I1,r1,q1⟩:=hq;obtain⟨d,rfl,q⟩:=q1;cases r1;exact jR ⟨H1,I1,q⟩
theorem ON {t:TE}(h:PE X e t)(he:∀whole,vC e X.env whole=(do let v ← whole;ij e.pos;fH [v] (truthy v)):=by intro _;rfl):PT X e (tB t):=by intro cW s U H Q I hw;refine isTrue_plain (gb (h cW s U H _ I hw) λv s1 hq=>?_)<|he _;obtain⟨x,H1,I1,r1,q1⟩:=hq;obtain⟨d,rfl,q⟩:=q1;cases r1;exact jR ⟨H1,I1,q⟩
variable {tA KA:TT}{Ê:List Expr}
def NE (t u:TT):TT:=λU H Q=>t U H λc H1=>if c=Â then u U H1 Q else Q Ã H1
def VY (t u:TT):TT:=λU H Q=>t U H λc H1=>if c=Â then Q Â H1 else u U H1 Q
def NN (t:TT):TT:=λU H Q=>t U H λc H1=>Q (!c) H1
theorem zqr (ha:PT X a tA):PW X (.BoolOp .And [a] pos) tA:=by
 intro wh cW s U H Q I h;refine isTrue_and<|gb (ha cW s U H Q I h) λc s1 e=>?_;cases c with
 |true=>exact isTrue_and_nil e
 |false=>exact e
theorem SX (ha:PT X a tA):PW X (.BoolOp .Or [a] pos) tA:=by
 intro wh cW s U H Q I h;refine isTrue_or<|gb (ha cW s U H Q I h) λc s1 e=>?_;cases c with
 |false=>exact isTrue_or_nil e
 |true=>exact e
theorem Η (ha:PT X a tA)(hb:PW X (.BoolOp .And (b::Ê) pos) KA):PW X (.BoolOp .And (a::b::Ê) pos) (NE tA KA):=by
 intro wh cW s U H Q I h;refine isTrue_and<|gb (ha cW s U H _ I h) λc s1 gP=>?_;obtain⟨H1,I1,q1⟩:=gP;cases c with
 |true=>exact hb wh cW s1 U H1 Q I1 q1
 |false=>exact⟨H1,I1,q1⟩
theorem To (ha:PT X a tA)(hb:PW X (.BoolOp .Or (b::Ê) pos) KA):PW X (.BoolOp .Or (a::b::Ê) pos) (VY tA KA):=by
 intro wh cW s U H Q I h;refine isTrue_or<|gb (ha cW s U H _ I h) λc s1 gP=>?_;obtain⟨H1,I1,q1⟩:=gP;cases c with
 |true=>exact⟨H1,I1,q1⟩
 |false=>exact hb wh cW s1 U H1 Q I1 q1
theorem SY (ha:PT X a tA):PT X (.UnaryOp .Not a pos) (NN tA):=by intro cW s U H Q I h;exact isTrue_not<|ha cW s U H (λc H1=>Q (!c) H1) I h
def Jr (ta tb:TE):TE:=λU H Q=>ta U H λx H1=>∃c,x=.bl c/\if c=Â then tb U H1 Q else Q (.bl Ã) H1
def NO (ta tb:TE):TE:=λU H Q=>ta U H λx H1=>∃c,x=.bl c/\if c=Â then Q (.bl Â) H1 else tb U H1 Q
theorem S0 {op}{t:TE}(h:PE X a t):PE X (.BoolOp op [a] pos) t:=λcW s U H Q I hw=>BoolOp_one<|h cW s U H Q I hw
theorem S1 (ha:PE X a ta)(hb:PE X (.BoolOp .And (b::Ê) pos) tb):PE X (.BoolOp .And (a::b::Ê) pos) (Jr ta tb):=by
 intro cW s U H Q I h;refine BoolOp_and<|gb (ha cW s U H _ I h) λv s1 gP=>?_;obtain⟨x,H1,I1,r1,q1⟩:=gP;obtain⟨c,rfl,q1⟩:=q1;cases r1;refine jR ?_;cases c with
 |true=>exact hb cW s1 U H1 Q I1 q1
 |false=>exact⟨.bl Ã,H1,I1,rfl,q1⟩
theorem Ŝ (ha:PE X a ta)(hb:PE X (.BoolOp .Or (b::Ê) pos) tb):PE X (.BoolOp .Or (a::b::Ê) pos) (NO ta tb):=by
 intro cW s U H Q I h;refine BoolOp_or<|gb (ha cW s U H _ I h) λv s1 gP=>?_;obtain⟨x,H1,I1,r1,q1⟩:=gP;obtain⟨c,rfl,q1⟩:=q1;cases r1;refine jR ?_;cases c with
 |false=>exact hb cW s1 U H1 Q I1 q1
 |true=>exact⟨.bl Â,H1,I1,rfl,q1⟩
def VV (t:TT)(ta tb:TE):TE:=λU H Q=>t U H λc H1=>if c=Â then ta U H1 Q else tb U H1 Q
theorem ZE (hc:PT X c tA)(ha:PE X a ta)(hb:PE X b tb):PE X (.IfExp c a b pos) (VV tA ta tb):=by
 intro cW s U H Q I h;refine wpAny_IfExp<|gb (hc cW s U H _ I h) λd s1 gP=>?_;obtain⟨H1,I1,q1⟩:=gP;cases d with
 |true=>exact ha cW s1 U H1 Q I1 q1
 |false=>exact hb cW s1 U H1 Q I1 q1
end
def i6 (K:cX)(H:Hp)(a:cZ)(xs:List V):Prop :=
 Rd H a (.lst xs) \/
  ∃(o:gM) (eG:Array cU) (n:Nat),K.lookup a=Z o/\o.cls=.type "list"/\o.dict=S/\o.data=.seq eG n/\eG.size<=sizeLine/\eh xs eG.toList
def oP (K:cX)(H:Hp)(a:cZ)(xs:List V):Prop :=
 Rd H a (.tup xs) \/
  ∃(o:gM) (eG:Array cU) (n:Nat),K.lookup a=Z o/\o.cls=.type "tuple"/\o.data=.seq eG n/\eG.size<=sizeLine/\eh xs eG.toList
noncomputable def LJ:cU->Option V
 |.none=>Z .non
 |.bool b=>Z<|.bl b
 |.int i _=>Z<|.int i
 |.str x _=>Z<|.str x
 |.bytes b _=>Z<|.byt b
 |.float b _=>Z<|.flt b
 |.ref a=>Z<|.ref a
 |.type n=>Z<|.ty n
 |_=>S
theorem Ì.abs {x:V}(r:Ì x u):LJ u=Z x:=by
 cases x with
 |non=>cases r;rfl
 |bl _=>cases r;rfl
 |int _=>obtain⟨t,rfl⟩:=r;rfl
 |str _=>obtain⟨t,rfl⟩:=r;rfl
 |byt _=>obtain⟨t,rfl⟩:=r;rfl
 |flt _=>obtain⟨t,rfl⟩:=r;rfl
 |ref _=>cases r;rfl
 |ty _=>cases r;rfl
variable {y:V}
theorem Ì.inj {x:V}(r:Ì x u)(q:Ì y u):x=y:=Option.some.inj<|r.abs.symm.trans q.abs
theorem eh.inj:∀{xs ys:List V} {us:List cU},eh xs us->eh ys us->xs=ys
 |_,_,_,.nil,.nil=>rfl
 |_,_,_,.cons r t,.cons r' t'=>by rw[r.inj r',eh.inj t t']
variable {ys:List V}
theorem i6.of {K:cX}(h:H a=Z (.lst xs)):i6 K H a xs:=.inl<|.inl h
theorem oP.of {K:cX}(h:H a=Z (.tup xs)):oP K H a xs:=.inl<|.inl h
theorem Ç.list (I:Ç X cW U H s)(h:i6 X.K H a xs):∃eG:List cU,eh xs eG/\PlainL s.heap a eG.toArray/\xs.length<=sizeLine:=by
 rcases h with h|⟨o,eG,n,hk,hc,hd,hs,hz,r⟩
 ·obtain⟨z,eG,n,r,e⟩:=h.ok I.hok;exact⟨eG,r,⟨_,n,e,rfl,rfl,rfl⟩,z⟩
 ·refine⟨eG.toList,r,⟨o,n,I.kIn a o hk,hc,hd,by simpa using hs⟩,?_⟩;have e:=r.length;simp only[gu]at e;lia
theorem Ç.tuple (I:Ç X cW U H s)(h:oP X.K H a xs):∃eG:List cU,eh xs eG/\IsTup s.heap a eG.toArray/\xs.length<=sizeLine:=by
 rcases h with h|⟨o,eG,n,hk,hc,hs,hz,r⟩
 ·obtain⟨z,eG,r,p⟩:=h.ok I.hok;exact⟨eG,r,p,z⟩
 ·refine⟨eG.toList,r,⟨o,I.kIn a o hk,hc,n,by simpa using hs⟩,?_⟩;have e:=r.length;simp only[gu]at e;lia
theorem Ç.list_inj (I:Ç X cW U H s)(h:i6 X.K H a xs)(h':i6 X.K H a ys):xs=ys:=by
 obtain⟨eG,r,⟨o,n,e,_,_,d⟩,_⟩:=I.list h;obtain⟨its',r',⟨o',n',e',_,_,d'⟩,_⟩:=I.list h';rw[e]at e';cases e';rw[d]at d';injection d' with d1 _;have:eG=its':=by simpa using congrArg Ez d1
 subst this;exact r.inj r'
theorem Ç.tuple_inj (I:Ç X cW U H s)(h:oP X.K H a xs)(h':oP X.K H a ys):xs=ys:=by
 obtain⟨eG,r,⟨o,e,_,n,d⟩,_⟩:=I.tuple h;obtain⟨its',r',⟨o',e',_,n',d'⟩,_⟩:=I.tuple h';rw[e]at e';cases e';rw[d]at d';injection d' with d1 _;have:eG=its':=by simpa using congrArg Ez d1
 subst this;exact r.inj r'
noncomputable abbrev Cx.wish (X:Cx)(E:cU->de->Prop):Cx:={ X with xe:=E }
abbrev Cx.nox (X:Cx):Cx:=X.wish λ_ _=>False
theorem Cx.Ok.wish (ok:X.Ok)(E:cU->de->Prop):(X.wish E).Ok :=
 ⟨ok.mod,ok.kind,ok.glob,ok.blt,ok.above,ok.inj,ok.has,ok.cab,ok.hd,ok.frames,ok.stk,ok.exf,ok.bs,ok.bsz,ok.noex,ok.exfs,ok.funs,ok.frf⟩
theorem Cx.Ok.unwish (ok:(X.wish E).Ok):X.Ok :=
 ⟨ok.mod,ok.kind,ok.glob,ok.blt,ok.above,ok.inj,ok.has,ok.cab,ok.hd,ok.frames,ok.stk,ok.exf,ok.bs,ok.bsz,ok.noex,ok.exfs,ok.funs,ok.frf⟩
theorem Ç.wish (I:Ç X cW U H s)(E:cU->de->Prop):Ç (X.wish E) cW U H s:=⟨I.ok.wish E,I.os,I.bare,I.base,I.loc,I.cell,I.free,I.freeC,I.pin,I.hok,I.len⟩
theorem Ç.unwish (I:Ç (X.wish E) cW U H s):Ç X cW U H s:=⟨I.ok.unwish,I.os,I.bare,I.base,I.loc,I.cell,I.free,I.freeC,I.pin,I.hok,I.len⟩
theorem SP.unwish {D:lO}{f:Flow}(h:SP (X.wish E) cW D f s'):SP X cW D f s':=by
 cases f with
 |next=>obtain⟨σ',G,I,q⟩:=h;exact⟨σ',G,I.unwish,q⟩
 |brk=>obtain⟨σ',G,I,q⟩:=h;exact⟨σ',G,I.unwish,q⟩
 |cont=>obtain⟨σ',G,I,q⟩:=h;exact⟨σ',G,I.unwish,q⟩
 |ret u=>obtain⟨v,σ',G,I,r,q⟩:=h;exact⟨v,σ',G,I.unwish,r,q⟩
theorem tG.nox {st:List et}{t:TS}(h:tG X.nox st t):tG X st t:=λcW s U H D I hw=>fW (h cW s U H D (I.wish _) hw) (λ_ _ q=>q.unwish) λ_ _ z=>False.elim z
variable {te:TE}
section
variable {st:et}{Ê:List et}{t u:TS}
def Fm:TS:=λD U H=>D.nx U H
def Eo (t u:TS):TS:=λD U H=>t { D with nx:=u D } U H
theorem zqs:tG X [] Fm:=λ_ _ U H _ I h=>pJ ⟨U,H,I,h⟩
theorem wx (h1:PS X st t)(h2:tG X Ê u):tG X (st::Ê) (Eo t u):=by
 intro cW s U H D I h;refine wpAny_execs_cons<|gb (h1 cW s U H { D with nx:=u D } I h) λf s1 q=>?_;cases f with
 |next=>obtain⟨σ',G,I',q⟩:=q;exact h2 cW s1 σ' G D I' q
 |ret v=>exact q
 |brk=>exact q
 |cont=>exact q
theorem vw (h1:PS X st t):tG X [st] t:=by
 intro cW s U H D I h;refine wpAny_execs_cons<|gb (h1 cW s U H D I h) λf s1 q=>?_;cases f with
 |next=>exact pJ q
 |ret v=>exact q
 |brk=>exact q
 |cont=>exact q
theorem zqt:PS X (.Pass pos) Fm:=λ_ _ U H _ I h=>wpAny_Pass ⟨U,H,I,h⟩
theorem Ç.quiet (I:Ç X cW U H s):interactive X.env=Ã:=by simp[interactive,I.ok.kind]
def Bk (te:TE):TS:=λD U H=>te U H λ_ H1=>D.nx U H1
theorem w9 (he:PE X e te)(hs:gc e S pos.line X.env=pure Ã:=by rfl):PS X (.Expr e pos) (Bk te):=by intro cW s U H D I h;exact wpAny_Expr_any (gb (he cW s U H _ I h) λv s1 ⟨x,H1,I1,r1,q1⟩=>⟨U,H1,I1,q1⟩) I.quiet hs
def NP (te:TE):TS:=λD U H=>te U H D.rt
theorem GO (he:PE X e te):PS X (.Return (Z e) pos) (NP te):=by intro cW s U H D I h;exact wpAny_Return_some<|gb (he cW s U H _ I h) λv s1 ⟨x,H1,I1,r1,q1⟩=>⟨x,U,H1,I1,r1,q1⟩
def NL (c:TT)(t u:TS):TS:=λD U H=>c U H λb H1=>if b=Â then t D U H1 else u D U H1
theorem O3 {a b:List et}{tc:TT}(hc:PT X c tc)(ha:tG X a t)(hb:tG X b u):PS X (.If c a b pos) (NL tc t u):=by
 intro cW s U H D I h;refine wpAny_If<|gb (hc cW s U H _ I h) λd s1 gP=>?_;obtain⟨H1,I1,q1⟩:=gP;cases d with
 |true=>exact ha cW s1 U H1 D I1 q1
 |false=>exact hb cW s1 U H1 D I1 q1
def C0:TS:=λ_ _ _=>False
theorem ZF:PS X st C0:=λ_ _ _ _ _ _ h=>h.elim
theorem YQ {Gr:List et}:tG X Gr C0:=λ_ _ _ _ _ _ h=>h.elim
end
abbrev TG:=V->St->Hp->(St->Hp->Prop)->Prop
abbrev Di:=List V->St->Hp->(St->Hp->Prop)->Prop
def PG (X:Cx)(target:Expr)(t:TG):Prop :=
 ∀(cW:List<|cZ×gM) (s:de) (U:St) (H:Hp) (v:V) (u:cU) (Q:St->Hp->Prop),Ç X cW U H s->Ì v u->t v U H Q ->
  dr (dq X.prog X.w) X.A (kU target X.env u) (λ_ s'=>∃σ' G,Ç X cW σ' G s'/\Q σ' G) X.xe s
def FD (X:Cx)(ts:List Expr)(t:Di):Prop :=
 ∀(cW:List<|cZ×gM) (s:de) (U:St) (H:Hp) (vs:List V) (us:List cU) (Q:St->Hp->Prop),Ç X cW U H s->eh vs us->t vs U H Q ->
  dr (dq X.prog X.w) X.A (assignInOrder ((eY ts X.env).map (·.2)) us) (λ_ s'=>∃σ' G,Ç X cW σ' G s'/\Q σ' G) X.xe s
abbrev Cj:=V->V->V->Hp->(Hp->Prop)->Prop
def FE (X:Cx)(t:Cj):Prop :=
 ∀(cW:List<|cZ×gM) (s:de) (U:St) (H:Hp) (o i v:V) (ov iv u:cU) (Q:Hp->Prop),Ç X cW U H s->Ì o ov->Ì i iv->Ì v u->t o i v H Q ->
  dr (dq X.prog X.w) X.A (rq ov iv u) (λ_ s'=>∃G,Ç X cW U G s'/\Q G) X.xe s
abbrev G1:=V->V->Hp->VK->Prop
def GZ (X:Cx)(op:qZ)(t:G1):Prop :=
 ∀(cW:List<|cZ×gM) (s:de) (U:St) (H:Hp) (x y:V) (v u:cU) (Q:VK),Ç X cW U H s->Ì x v->Ì y u->t x y H Q ->
  dr (dq X.prog X.w) X.A (inplaceOp op v u) (EP X cW U Q) X.xe s
variable {es:List Expr}{g:TG}{n:Nat}{o tg:Expr}{pos' ko:my}
def AY (i:Nat):TG:=λv U H Q=>Q (U.set i<|Z v) H
theorem RY {i:Nat}(hN:X.N.Nodup)(hi:X.N[i]?=Z x)(hx:ë X.env.scope x)(hf:xE X x:=by walk_at "v2"):PG X (.Name x pos) (AY i):=by intro cW s U H v u Q I r h;exact wpAny_assign_Name<|jy I hN hi hx r (λs' I'=>⟨_,H,I',h⟩) hf
def Mb:Di:=λvs U H Q=>vs=[]/\Q U H
def HZ (t:TG)(u:Di):Di:=λvs U H Q=>∃v r,vs=v::r/\t v U H λσ' G=>u r σ' G Q
theorem RZ:FD X [] Mb:=by intro cW s U H vs us Q I r h;obtain⟨e,h⟩:=h;subst e;cases r;exact assignInOrder_nil ⟨U,H,I,h⟩
theorem Rz {t:TG}{u:Di}(h1:PG X e t)(h2:FD X es u)
  (hs:(eY (e::es) X.env).map (·.2)=kU e X.env::(eY es X.env).map (·.2):=by rfl):FD X (e::es) (HZ t u):=by
 intro cW s U H vs us Q I r h;obtain⟨v,vr,e1,h⟩:=h;subst e1;cases r with
 |cons r rr=>rw[hs];refine assignInOrder_cons<|gb (h1 cW s U H _ _ _ I r h) λ_ s1 gP=>?_;obtain⟨σ1,H1,I1,q1⟩:=gP;exact h2 cW s1 σ1 H1 _ _ Q I1 rr q1
def Md (K:cX)(n:Nat)(t:Di):TG:=λv U H Q=>∃a xs,v=.ref a/\oP K H a xs/\xs.length=n/\t xs U H Q
theorem S2 {k:Nat}{t:Di}(hc:X.calm=Â)(h:FD X es t)
  (hn:(eY es X.env).length=n:=by rfl) (jH:(eY es X.env).findIdx? (·.1)=S:=by rfl):PG X (.Tuple es k pos) (Md X.K n t):=by
 intro cW s U H v u Q I r hw;obtain⟨a,xs,e1,hq,hl,hw⟩:=hw;subst e1;cases r;obtain⟨eG,rv,ht,hz⟩:=I.tuple hq;refine assign_Tuple_tuple (I.ok.hd hc) ht (by simp[hn,←hl,rv.length]) jH λh' hx=>?_;have I1:Ç X cW U H { s with heap:=h' }:=I.kept (t':=s.toks) λb o e=>hx b o (dU<|dB e) e;exact h cW _ U H xs _ Q I1 (by simpa using rv) hw
def Mc (to ti:TE)(t:Cj):TG:=λv U H Q=>to U H λo H1=>ti U H1 λi H2=>t o i v H2 λH3=>Q U H3
theorem OL {i:Expr}{to ti:TE}{t:Cj}(ho:PE X o to)(hi:PE X i ti)(hs:FE X t)
  (ha:∀v,kU (.Subscript o i pos) X.env v=(do
   let ov ← fH [v] (eP o X.env)
   let iv ← fH [v,ov] (eP i X.env)
   ij pos
   fH [v,ov,iv] (rq ov iv v)
   xP [v,ov,iv] []):=by intro _;rfl):PG X (.Subscript o i pos) (Mc to ti t):=by
 intro cW s U H v u Q I r h;rw[ha];refine cY<|gA<|gb (ho cW s U H _ I h) λov s1 gP=>?_;obtain⟨x,H1,I1,r1,q1⟩:=gP;refine cY<|gA<|gb (hi cW s1 U H1 _ I1 q1) λiv s2 gP=>?_;obtain⟨y,H2,I2,r2,q2⟩:=gP;refine cY<|kP<|cY<|gA<|gb (hs cW s2 U H2 x y v ov iv u _ I2 r1 r2 r q2) λ_ s3 gP=>?_;obtain⟨H3,I3,q3⟩:=gP;exact wpAny_release ⟨U,H3,I3,q3⟩
def Gs (te:TE)(g:TG):TS:=λD U H=>te U H λx H1=>g x U H1 D.nx
theorem Lj (he:PE X e te)(hg:PG X tg g)(hs:n4 [tg] e pos.line X.env=pure Ã:=by rfl)(hw:nZ [tg] e X.env=pure S:=by rfl)
  (h1:(eY [tg] X.env).map (·.2)=[kU tg X.env]:=by rfl):PS X (.Assign [tg] e pos) (Gs te g):=by
 intro cW s U H D I h;refine wpAny_Assign_stores (gb (he cW s U H _ I h) λv s1 hq=>?_) hs hw;obtain⟨x,H1,I1,r1,q1⟩:=hq;rw[h1];exact gb (hg cW s1 U H1 x v _ I1 r1 q1) λ_ s2 q=>q
theorem OM {i:Nat}(hN:X.N.Nodup)(hi:X.N[i]?=Z x)(hx:ë X.env.scope x)(he:PE X e te)(hs:G0 X e x pos' pos:=by rfl)(hf:xE X x:=by walk_at "v2") :
  PS X (.Assign [.Name x pos'] e pos) (Gs te<|AY i):=by
 intro cW s U H D I h;refine wpAny_Assign_Name (gb (he cW s U H _ I h) λv s1 hq=>?_) hs;obtain⟨y,H1,I1,r1,q1⟩:=hq;exact jy I1 hN hi hx r1 (λs2 I2=>⟨_,H1,I2,q1⟩) hf
def NF (i:Nat)(te:TE)(ti:G1):TS:=λD U H=>∃x,U[i]?=Z (Z x)/\te U H λy H1=>ti x y H1 λz H2=>D.nx (U.set i<|Z z) H2
theorem Ζ {i:Nat}{op:qZ}{ti:G1}(hN:X.N.Nodup)(hi:X.N[i]?=Z x)(hx:ë X.env.scope x)(he:PE X e te)(ho:GZ X op ti)(hf:xE X x:=by walk_at "v2") :
  PS X (.AugAssign (.Name x pos') op e pos) (NF i te ti):=by
 intro cW s U H D I h;obtain⟨v,e1,h⟩:=h;obtain⟨m,hn,hl⟩:=I.loc;have V7:pN X.env.scope x:=by rcases hx with k|k;exact .inl k;exact .inr<|.inl k
 obtain⟨u,r,l⟩:=hl i x v hi e1 V7;refine wpAny_AugAssign_Name ?_;have go:dr (dq X.prog X.w) X.A (eP e X.env) (λw s₂=>dr (dq X.prog X.w) X.A (inplaceOp op u w) (λr s₃=>dr (dq X.prog X.w) X.A (storeName X.env x r) (λ_=>SP X cW D .next) X.xe s₃) X.xe s₂) X.xe s:=by refine gb (he cW s U H _ I h) λw s1 gP=>?_;obtain⟨y,H1,I1,r1,q1⟩:=gP;refine gb (ho cW s1 U H1 v y u w _ I1 r r1 q1) λz s2 gP=>?_;obtain⟨zv,H2,I2,r2,q2⟩:=gP;exact jy I2 hN hi hx r2 (λs3 I3=>⟨_,H2,I3,q2⟩) hf
 rcases l with⟨hk,hm⟩|⟨hk,c,hc,AZ⟩
 ·exact wpAny_loadName_local I.ok.kind hk hn hm go
 ·rcases hk with hk|hk
  ·exact wpAny_loadName_cell I.ok.kind hk hc AZ go
  ·rcases hx with k|k
   ·have:X.env.scope.names.lookup x=Z .free:=hk;rw[k]at this;cases this
   ·have:X.env.scope.names.lookup x=Z .free:=hk;rw[k]at this;cases this
def Js (to ti te:TE)(Ep:V->V->Hp->VK->Prop)(KI:G1)(Er:Cj):TS:=λD U H=>to U H λo H1=>ti U H1 λi H2=>Ep o i H2 λx H3=>te U H3 λy H4=>KI x y H4 λz H5=>Er o i z H5 λH6=>D.nx U H6
def HL (X:Cx)(t:V->V->Hp->VK->Prop):Prop :=
 ∀(cW:List<|cZ×gM) (s:de) (U:St) (H:Hp) (o i:V) (ov iv:cU) (Q:VK),Ç X cW U H s->Ì o ov->Ì i iv->t o i H Q ->
  dr (dq X.prog X.w) X.A (uJ ov iv) (EP X cW U Q) X.xe s
theorem zqv {i:Expr}{to ti:TE}{Ep:V->V->Hp->VK->Prop}{KI:G1}{Er:Cj}{op:qZ}(ho:PE X o to)(hi:PE X i ti)(hg:HL X Ep)(he:PE X e te)(hp:GZ X op KI)(hs:FE X Er)
  (ha:∀ov iv new,augStore i ov iv new=(do fH [new,ov,iv] (rq ov iv new);xP [new,ov,iv] [];pure .next):=by intros;rfl):PS X (.AugAssign (.Subscript o i ko) op e pos) (Js to ti te Ep KI Er):=by
 intro cW s U H D I h;refine wpAny_AugAssign_SubscriptAny (gb (ho cW s U H _ I h) λov s1 hq=>?_) ha;obtain⟨x1,H1,I1,r1,q1⟩:=hq;refine gb (hi cW s1 U H1 _ I1 q1) λiv s2 gP=>?_;obtain⟨x2,H2,I2,r2,q2⟩:=gP;refine gb (hg cW s2 U H2 x1 x2 ov iv _ I2 r1 r2 q2) λold s3 gP=>?_;obtain⟨x3,H3,I3,r3,q3⟩:=gP;refine gb (he cW s3 U H3 _ I3 q3) λv s4 gP=>?_;obtain⟨x4,H4,I4,r4,q4⟩:=gP;refine gb (hp cW s4 U H4 x3 x4 old v _ I4 r3 r4 q4) λnew s5 gP=>?_;obtain⟨x5,H5,I5,r5,q5⟩:=gP;exact gb (hs cW s5 U H5 x1 x2 x5 ov iv new _ I5 r1 r2 r5 q5) λ_ s6 ⟨H6,I6,q6⟩=>⟨U,H6,I6,q6⟩
def Ku (f:Int->Int->Int):G1:=λx y H Q=>∃i j,x=.int i/\y=.int j/\Q (.int<|f i j) H
theorem S3:GZ X .Add (Ku λi j=>i+j):=by intro cW s U H x y v u Q I r1 r2 h;obtain⟨i,j,e1,e2,q⟩:=h;subst e1;subst e2;obtain⟨t,rfl⟩:=r1;obtain⟨t',rfl⟩:=r2;exact iadd_int ⟨.int _,H,I.tok _,⟨_,rfl⟩,q⟩
theorem Ε:GZ X .Sub (Ku λi j=>i-j):=by intro cW s U H x y v u Q I r1 r2 h;obtain⟨i,j,e1,e2,q⟩:=h;subst e1;subst e2;obtain⟨t,rfl⟩:=r1;obtain⟨t',rfl⟩:=r2;exact isub_int ⟨.int _,H,I.tok _,⟨_,rfl⟩,q⟩
variable {body:List et}
def GD (c:TT)(tb:TS):TS:=λD U H=>∃W:Nat->St->Hp->Prop,(∃m,W m U H)/\∀m U H,W m U H ->
 c U H λb H1=>if b=Â then∃N:St->Hp->Prop,(∀σ' G,N σ' G->∃m',m'<m/\W m' σ' G)/\tb { D with nx:=N,ct:=N,bk:=D.nx } U H1 else D.nx U H1
theorem RA {tc:TT}{tb:TS}(hp:gE (dq X.prog X.w) X.A X.env X.xe)(hc:PT X c tc)(hb:tG X body tb):PS X (.While c body [] pos) (GD tc tb):=by
 intro cW s U H D I h;obtain⟨W,⟨m0,w0⟩,turn⟩:=h;refine wpAny_While<|codeAny_whileLoop (λn s'=>∃σ' G,Ç X cW σ' G s'/\W n σ' G) ?_ m0 ⟨U,H,I,w0⟩;rintro n s1 ⟨σ1,H1,I1,w1⟩;refine jL hp<|gb (hc cW s1 σ1 H1 _ I1<|turn n σ1 H1 w1) λb s2 gP=>?_;obtain⟨H2,I2,q2⟩:=gP;cases b with
 |true=>
  obtain⟨N,hN,q2⟩:=q2;rw[if_pos rfl];refine jL hp<|gb (hb cW s2 σ1 H2 _ I2 q2) λf s3 q3=>?_;cases f with
  |next=>obtain⟨σ3,H3,I3,n3⟩:=q3;obtain⟨m',hm,w3⟩:=hN σ3 H3 n3;exact⟨m',hm,σ3,H3,I3,w3⟩
  |cont=>obtain⟨σ3,H3,I3,n3⟩:=q3;obtain⟨m',hm,w3⟩:=hN σ3 H3 n3;exact⟨m',hm,σ3,H3,I3,w3⟩
  |brk=>exact q3
  |ret v=>exact q3
 |false=>rw[if_neg di];exact pJ ⟨σ1,H2,I2,q2⟩
structure It where
 go:Nat->Hp->Prop
 yld:Nat->Hp->V->Hp->Prop
 stop:Nat->Hp->Prop
def sD (X:Cx)(cW:List<|cZ×gM)(H:Hp)(b:cZ):Prop :=
 H b=S/\b≠X.env.locals/\b∉X.fs/\(b∈X.ex\/X.s₀.heap.objs.size<=b)/\(∀x c,X.env.cells.lookup x=Z c->c≠b)/\∀p∈X.pn++cW,p.1≠b
theorem Ç.fpOk (I:Ç X cW U H s)(hb:s.heap.objs.size<=b)(hn:G b=S):sD X cW G b:=by
 refine⟨hn,kT<|d8 I.lt hb,I.nofs hb,.inr<|fk I.sz hb,λx c e z=>?_,λp hp z=>?_⟩
 ·obtain⟨v,q⟩:=I.cell x c e;exact absurd (d8 q.lt<|by rw[z];exact hb)<|iF _
 ·exact absurd (d8 (dB (I.pin p hp).1)<|by rw[z];exact hb)<|iF _
structure Ck (P:eI)(w:d5)(K:cX)(tg:Expr)(L':It)(fp:List cZ)(it:cZ)(tn:Nat->dz->Prop)(Cs:Cx->Prop):Prop where
 mem:it∈fp
 obj:∀i h,tn i h->∀b∈fp,∃o,h.get? b=Z o/\∀v,o.data≠.cell v
 keep:∀i h h',tn i h->(∀b∈fp,∀o,h.get? b=Z o->h'.get? b=Z o)->tn i h'
 item:∀(X:Cx),X.prog=P->X.w=w->X.K=K->Cs X->∀(i:Nat) (cW:List<|cZ×gM) (s:de) (U:St) (H:Hp) (E:cU->de->Prop),Ç X cW U H s->(∀b∈fp,sD X cW H b)->tn i s.heap->L'.go i H ->
  dr (dq P w) X.A (pyNext<|.ref it) (λr s1=>∃u,r=Z u /\
   dr (dq P w) X.A (mj tg (.ref it) u) (λ_ s2=>∃x G,Ç X cW U G s2/\Ì x u/\L'.yld i H x G/\tn (i+1) s2.heap/\∀b∈fp,G b=S) E s1) E s
 done:∀(X:Cx),X.prog=P->X.w=w->X.K=K->Cs X->∀(i:Nat) (cW:List<|cZ×gM) (s:de) (U:St) (H:Hp) (E:cU->de->Prop),Ç X cW U H s->(∀b∈fp,sD X cW H b)->tn i s.heap->L'.stop i H ->
  dr (dq P w) X.A (pyNext<|.ref it) (λr s1=>r=S/\Ç X cW U H s1) E s
 self:∀(A:dO) (i:Nat) (s:de) (Q:cU->de->Prop) (E:cU->de->Prop),tn i s.heap->Q (.ref it) s->dr (dq P w) A (pyIter<|.ref it) Q E s
abbrev è (P:eI)(w:d5)(K:cX)(tg:Expr)(L':It)(fp:List cZ)(it:cZ)(tn:Nat->dz->Prop):Prop:=Ck P w K tg L' fp it tn λX=>X.calm=Â
abbrev TI:=St->Hp->(It->Hp->Prop)->Prop
def ù (X:Cx)(c:Prop)(tg:Expr)(L':It)(fp:List cZ)(it:cZ)(tn:Nat->dz->Prop):Prop:=∃Cs,Ck X.prog X.w X.K tg L' fp it tn Cs/\(c->∀Y':Cx,Y'.A=X.A->Y'.calm=X.calm->Cs Y')
variable {fp:List cZ}
theorem è.ok {L':It}{it:cZ}{tn:Nat->dz->Prop}(T:è X.prog X.w X.K tg L' fp it tn):ù X (X.calm=Â) tg L' fp it tn:=⟨_,T,λhc _ _ e=>e.trans hc⟩
def HM (X:Cx)(c:Prop)(cW:List<|cZ×gM)(U:St)(tg:Expr)(R:It->Hp->Prop)(M6:cU)(s2:de):Prop :=
 ∃(it:cZ) (fp:List cZ) (tn:Nat->dz->Prop) (L':It) (G:Hp),M6=.ref it/\Ç X cW U G s2/\ù X c tg L' fp it tn/\tn 0 s2.heap/\(∀b∈fp,sD X cW G b)/\R L' G
abbrev TZ (X:Cx):=HM X<|X.calm=Â
def GY (X:Cx)(c:Prop)(tg iter:Expr)(wi:TI):Prop :=
 ∀(cW:List<|cZ×gM) (s:de) (U:St) (H:Hp) (R:It->Hp->Prop),Ç X cW U H s->wi U H R ->
  dr (dq X.prog X.w) X.A (eP iter X.env) (λv s1=>dr (dq X.prog X.w) X.A (pyIter v) (HM X c cW U tg R) X.xe s1) X.xe s
abbrev PI (X:Cx):=GY X<|X.calm=Â
theorem Lu {A:dO}{it:cZ}{o:gM}{n:String}{vs:Array cU}{Q:Unit->de->Prop}(ho:s.heap.get? it=Z o)(hc:o.cls=.type n)(hd:o.data=.fields vs)
    (hn:["enumerate","zip","dict_itemiterator","dict_reverseitemiterator","odict_iterator","itertools.zip_longest","itertools.pairwise"].contains n=Ã) (hQ:Q () s):dr J' A (mj tg (.ref it) u) Q E s:=by
  unfold mj;cases tg<;>first
    |exact dA hQ
    |(cases u<;>first
        |exact dA hQ
        |(refine cY (wpAny_load ho ?_)
          rw[hc,hd];show dr J' A (if(["enumerate","zip","dict_itemiterator","dict_reverseitemiterator","odict_iterator","itertools.zip_longest","itertools.pairwise"].contains n&&vs[0]?==Z (rawInt _))=Â then _ else _) Q E s;rw[if_neg<|by intro h;rw[hn,Bool.false_and]at h;cases h];exact dA hQ))
def GW (K:cX)(a:cZ):It :=
 ⟨λi H=>∃xs x,i6 K H a xs/\xs[i]?=Z x,λi H x G=>G=H/\∀xs,i6 K H a xs->xs[i]?=Z x,λi H=>∃xs,i6 K H a xs/\xs.length<=i⟩
def JR (lo:Int)(n:Nat):It:=⟨λi _=>i<n,λi H x G=>G=H/\x=.int (lo+i),λi _=>n<=i⟩
theorem jz {w:d5}{K:cX}(a it:cZ):è P w K tg (GW K a) [it] it (λi h=>h.IsListIter it a i) where
 mem:=by simp
 obj:=λi h st b hb=>by
  have e:b=it:=by simpa using hb
  subst e;obtain⟨o,e,c,d⟩:=st;exact⟨o,e,λv z=>by rw[d]at z;cases z⟩
 keep:=λi h h' st k=>st.at λo e=>k it (by simp) o e
 item:=by intro X hP hw hK hc i cW s U H E I hf st hg;subst hP hw hK;obtain⟨xs,x,hq,hx⟩:=hg;obtain⟨eG,rv,p,hz⟩:=I.list hq;obtain⟨u,hu,ru⟩:=rv.get hx;obtain⟨f0,f1,f2,f3,f4,f5⟩:=hf it (by simp);refine wpAny_pyNext_list_item st p.isList (x:=u) (by simpa using hu) λh' AE sb=>?_;have I1:Ç X cW U H { s with heap:=h' }:=I.turned (t':=s.toks) (λb o hb e=>(sb.2 b hb).trans e) f0 f1 f3 f4 f5;obtain⟨o,e,c,d⟩:=id AE;exact⟨u,rfl,Lu (s:={ s with heap:=h' }) e c d (by decide) ⟨x,H,I1,ru,⟨rfl,λys hy=>by rw[I.list_inj hy hq];exact hx⟩,AE,λb hb=>(hf b hb).1⟩⟩
 done:=by intro X hP hw hK hc i cW s U H E I hf st hg;subst hP hw hK;obtain⟨xs,hq,hx⟩:=hg;obtain⟨eG,rv,p,hz⟩:=I.list hq;obtain⟨f0,f1,f2,f3,f4,f5⟩:=hf it (by simp);have hl:=rv.length;exact wpAny_pyNext_list_end (I.ok.hd hc) st p.isList (by simp;lia) λh' eb=>⟨rfl,I.turned (t':=s.toks) (λb o hb e=>eb b o hb e) f0 f1 f3 f4 f5⟩
 self:=λ_ _ _ _ _ st h=>wpAny_pyIter_listiter st h
theorem Yr {w:d5}{K:cX}(it:cZ)(lo:Int)(n:Nat):è P w K tg (JR lo n) [it] it (λi h=>IsRangeIter h it (lo+(i:Nat)*1) ((n:Int)-(i:Nat)) 1) where
 mem:=by simp
 obj:=λi h st b hb=>by
  have e:b=it:=by simpa using hb
  subst e;exact⟨_,st,λv z=>by have z':pj.fields _=pj.cell v:=z;cases z'⟩
 keep:=λi h h' st k=>k it (by simp) _ st
 item:=by intro X hP hw hK hc i cW s U H E I hf st hg;subst hP hw hK;obtain⟨f0,f1,f2,f3,f4,f5⟩:=hf it (by simp);have W:=Walks.range (prog:=X.prog) (w:=X.w) (I.ok.hd hc) it lo 1 n;refine W.item i s _ _ hg st λv h' tk hv AE kk=>?_;obtain⟨t,rfl⟩:=hv;have I1:Ç X cW U H { s with heap:=h',toks:=tk }:=I.turned (λb o hb e=>kk b o (by simpa using hb) e) f0 f1 f3 f4 f5;refine⟨_,rfl,Lu (s:={ s with heap:=h',toks:=tk }) (n:="range_iterator") AE rfl rfl (by decide) ⟨.int<|lo+i,H,I1,⟨t,?_⟩,⟨rfl,rfl⟩,AE,λb hb=>(hf b hb).1⟩⟩;rw[Int.mul_one]
 done:=by intro X hP hw hK hc i cW s U H E I hf st hg;subst hP hw hK;obtain⟨f0,f1,f2,f3,f4,f5⟩:=hf it (by simp);exact wpAny_pyNext_range_end (I.ok.hd hc) st (by have:n<=i:=hg;lia) λh' eb=>⟨rfl,I.turned (t':=s.toks) (λb o hb e=>eb b o hb e) f0 f1 f3 f4 f5⟩
 self:=λ_ _ _ _ _ st h=>wpAny_pyIter_rangeiter st h
variable {iter:Expr}{p:my}{wi:TI}
def IE (K:cX)(tl:TE):TI:=λU H R=>tl U H λx H1=>∃a,x=.ref a/\(∃xs,i6 K H1 a xs)/\R (GW K a) H1
theorem Ox {l:Expr}{tl:TE}(hl:PE X l tl):PI X tg l (IE X.K tl):=by
 intro cW s U H R I h;refine gb (hl cW s U H _ I h) λv s1 gP=>?_;obtain⟨x,H1,I1,r1,q1⟩:=gP;obtain⟨a,e,⟨xs,hq⟩,q⟩:=q1;subst e;cases r1;obtain⟨eG,rv,p,hz⟩:=I1.list hq;refine nR p.isList ?_;refine⟨s1.heap.objs.size,[s1.heap.objs.size],_,_,H1,rfl,I1.kept (t':=s1.toks) λb o e=>c7 _ e,(jz a _).ok,⟨_,dG _ rfl,rfl,rfl⟩,λb hb=>?_,q⟩;have e:b=s1.heap.objs.size:=by simpa using hb
 subst e;exact I1.fpOk (dE _)<|I1.hok.fresh<|dE _
theorem ZG {R:It->Hp->Prop}{lo hi:Int}{t u v:Tok}{tk:Nat}(I:Ç X cW U H s)(h1:-(2 ^ 62)<=lo)(h2:lo<2 ^ 62)(h3:-(2 ^ 62)<=hi)(h4:hi<2 ^ 62)
    (q:R (JR lo (hi-lo).toNat) H):dr (dq X.prog X.w) X.A (pyIter<|.ref s.heap.objs.size) (TZ X cW U tg R) E { s with heap:=s.heap.push { cls:=.type "range",data:=.fields #[.int lo t,.int hi u,.int 1 v] },toks:=tk }:=by
  refine wpAny_pyIter_range (IsRange.new ..) (small_one h1 h2 h3 h4) ?_;have I1:Ç X cW U H { s with heap:=s.heap.push { cls:=.type "range",data:=.fields #[.int lo t,.int hi u,.int 1 v] },toks:=tk }:=I.kept λb o e=>c7 _ e;refine⟨(s.heap.push { cls:=.type "range",data:=.fields #[.int lo t,.int hi u,.int 1 v] }).objs.size,[(s.heap.push { cls:=.type "range",data:=.fields #[.int lo t,.int hi u,.int 1 v] }).objs.size],_,_,H,rfl,
    I1.kept (t':=tk) λb o e=>c7 _ e,(Yr _ lo (hi-lo).toNat).ok,?_,λb hb=>?_,q⟩
  · have e1:lo+((0:Nat):Int)*1=lo:=by simp
    have e2:(((hi-lo).toNat:Nat):Int)-((0:Nat):Int)=Builtin.Range.rangeSize lo hi 1:=by rw[rangeSize_one];split<;>lia
    show IsRangeIter _ _ (lo+((0:Nat):Int)*1) ((((hi-lo).toNat:Nat):Int)-((0:Nat):Int)) 1;rw[e1,e2];exact dG _ rfl
  · have e:b=(s.heap.push { cls:=.type "range",data:=.fields #[.int lo t,.int hi u,.int 1 v] }).objs.size:=by simpa using hb
    subst e;exact I1.fpOk (dE _)<|I1.hok.fresh<|dE _
def IF (ta:TA):TI:=λU H R=>ta U H λvs H1=>∃j:Int,vs=[.int j]/\-(2 ^ 62)<=j/\j<2 ^ 62/\R (JR 0 j.toNat) H1
theorem Ys {a:Expr}{ta:TA}(hg:Gl X "range")(hm:X.mg "range"=S)(ha:PA X [a] ta)(hs:SN X a:=by rfl):PI X tg (.Call (.Name "range" p) [a] [] pos) (IF ta):=by
 intro cW s U H R I h;refine Call_<|Fo I hg hm boot_range<|fV (gb (ha pos cW s U H _ I h) λus s1 hq=>?_) hs rfl;obtain⟨vs,H1,I1,r1,q1⟩:=hq;obtain⟨j,e,q1,q2,q⟩:=q1;subst e;cases r1 with
 |cons r rr=>cases rr;obtain⟨t,rfl⟩:=r;exact call_range_1 (ZG I1 (by lia) (by lia) q1 q2<|by simpa using q)
def NK (wi:TI)(g:TG)(tb:TS):TS:=λD U H=>wi U H λL' H1=>∃W:Nat->Nat->St->Hp->Prop,(∃m,W 0 m U H1)/\∀i m U H,W i m U H ->
 (L'.stop i H/\D.nx U H)\/(L'.go i H/\∃N:St->Hp->Prop,(∀σ' G,N σ' G->∃m',m'<m/\W (i+1) m' σ' G)/\∀x G,L'.yld i H x G->g x U G λσ2 H2=>tb { D with nx:=N,ct:=N,bk:=D.nx } σ2 H2)
noncomputable def t6 (fp:List cZ)(h:dz):List (cZ×gM):=fp.filterMap λb=>(h.get? b).map λo=>(b,o)
theorem u3 {o:gM}(hb:b∈fp)(e:h.get? b=Z o):(b,o)∈t6 fp h:=Bn.mpr ⟨b,hb,by rw[e];rfl⟩
theorem Yt {p:cZ×gM}(hp:p∈t6 fp h):p.1∈fp/\h.get? p.1=Z p.2:=by
 obtain⟨b,hb,e⟩:=Bn.mp hp;cases q:h.get? b with
 |none=>rw[q]at e;cases e
 |some o=>rw[q]at e;have e':(b,o)=p:=Option.some.inj e;subst e';exact⟨hb,q⟩
theorem Ç.pinned (I:Ç X cW U H s)(hf:∀b∈fp,sD X cW H b)(ho:∀b∈fp,∃o,s.heap.get? b=Z o/\∀v,o.data≠.cell v):Ç X (cW++t6 fp s.heap) U H s :=
 I.pins_of λp hp=>(dD.mp hp).elim (λz=>I.pin p<|c8 _ z) λz=>by obtain⟨hb,e⟩:=Yt z;obtain⟨f0,f1,f2,_⟩:=hf p.1 hb;obtain⟨o,e',d⟩:=ho p.1 hb;rw[e]at e';cases e';exact⟨e,f0,f1,f2,d⟩
theorem Ç.unpinned {pl:List (cZ×gM)}(I:Ç X (cW++pl) U H s):Ç X cW U H s:=I.pins_of λp hp=>I.pin p<|c8 _<|dc _ hp
theorem SK {tb:TS}(hp:gE (dq X.prog X.w) X.A X.env X.xe)(hc:X.calm=Â)(hi:PI X tg iter wi)(hg:PG X tg g)(hb:tG X body tb)
  (hs:B4 X iter:=by intro _;rfl):PS X (.For tg iter body [] pos) (NK wi g tb):=by
 intro cW s U H D I h;refine wpAny_For (gb (hi cW s U H _ I h) λv s1 h1=>gb h1 λM6 s2 h2=>?_) hs;obtain⟨it,fp,tn,L',H2,e,I2,T,CY,f2,W,⟨m0,w0⟩,turn⟩:=h2;obtain⟨Cs,T,hT⟩:=T;have hc:=hT hc X rfl rfl;subst e;have AF:∀{G:Hp},(∀b∈fp,G b=S)->∀b∈fp,sD X cW G b:=λhn b hb=>⟨hn b hb,(f2 b hb).2⟩;refine codeAny_forLoop_any (λn s'=>∃i σ' G,Ç X cW σ' G s'/\tn i s'.heap/\(∀b∈fp,G b=S)/\W i n σ' G) ?_ m0 ⟨0,U,H2,I2,CY,λb hb=>(f2 b hb).1,w0⟩;rintro n s3 ⟨i,σ3,H3,I3,Qj,J5,w3⟩;rcases turn i n σ3 H3 w3 with⟨stop,qn⟩|⟨go,N,hN,step⟩
 ·refine jL hp<|gb (T.done X rfl rfl rfl hc i cW s3 σ3 H3 X.xe I3 (AF J5) Qj stop) λr s4 gP=>?_;obtain⟨hr,I4⟩:=gP;subst hr;exact pJ ⟨σ3,H3,I4,qn⟩
 ·refine jL hp<|gb (T.item X rfl rfl rfl hc i cW s3 σ3 H3 X.xe I3 (AF J5) Qj go) λr s4 gP=>?_;obtain⟨u,hr,h4⟩:=gP;subst hr;refine jL hp<|gb h4 λ_ s5 gP=>?_;obtain⟨x,H5,I5,r5,y5,Hj,J6⟩:=gP;have TV:=I5.pinned (AF J6)<|T.obj _ _ Hj;refine jL hp<|gb (hg _ s5 σ3 H5 x u _ TV r5<|step x H5 y5) λ_ s6 gP=>?_;obtain⟨σ6,H6,I6,q6⟩:=gP;refine jL hp<|gb (hb _ s6 σ6 H6 _ I6 q6) λf s7 q7=>?_;have again:∀{σ7:St} {H7:Hp},Ç X (cW++t6 fp s5.heap) σ7 H7 s7->N σ7 H7->∃m,m<n/\∃i σ' G,Ç X cW σ' G s7/\tn i s7.heap/\(∀b∈fp,G b=S)/\W i m σ' G:=λ{σ7 H7} I7 n7=>by obtain⟨m',hm,w7⟩:=hN σ7 H7 n7;refine⟨m',hm,i+1,σ7,H7,I7.unpinned,T.keep _ _ _ Hj λb hb o e=>(I7.pin (b,o)<|c8 _<|c8 _<|u3 hb e).1,λb hb=>?_,w7⟩;obtain⟨o,e,d⟩:=T.obj _ _ Hj b hb;exact(I7.pin (b,o)<|c8 _<|c8 _<|u3 hb e).2.1
  cases f with
  |next=>obtain⟨σ7,H7,I7,n7⟩:=q7;exact again I7 n7
  |cont=>obtain⟨σ7,H7,I7,n7⟩:=q7;exact again I7 n7
  |brk=>obtain⟨σ7,H7,I7,q7⟩:=q7;exact⟨σ7,H7,I7.unpinned,q7⟩
  |ret v=>obtain⟨x7,σ7,H7,I7,r7,q7⟩:=q7;exact⟨x7,σ7,H7,I7.unpinned,r7,q7⟩
abbrev R2:=V->V->Hp->VK->Prop
def lI (X:Cx)(f:cU->cU->Cd cU)(r:R2):Prop :=
 ∀(cW:List<|cZ×gM) (s:de) (U:St) (H:Hp) (x y:V) (v u:cU) (Q:VK),Ç X cW U H s->Ì x v->Ì y u->r x y H Q ->
  dr (dq X.prog X.w) X.A (f v u) (EP X cW U Q) X.xe s
def JT (X:Cx)(f:cU->Cd cU)(r:V->Hp->VK->Prop):Prop :=
 ∀(cW:List<|cZ×gM) (s:de) (U:St) (H:Hp) (x:V) (v:cU) (Q:VK),Ç X cW U H s->Ì x v->r x H Q ->
  dr (dq X.prog X.w) X.A (f v) (EP X cW U Q) X.xe s
def iL (X:Cx)(f:cU)(r:List V->Hp->VK->Prop):Prop :=
 ∀(cW:List<|cZ×gM) (s:de) (U:St) (H:Hp) (xs:List V) (us:List cU) (Q:VK),Ç X cW U H s->eh xs us->r xs H Q ->
  dr (dq X.prog X.w) X.A (call f us) (EP X cW U Q) X.xe s
def KH (r:R2)(ta tb:TE):TE:=λU H Q=>ta U H λx H1=>tb U H1 λy H2=>r x y H2 Q
def V0 (r:V->Hp->VK->Prop)(ta:TE):TE:=λU H Q=>ta U H λx H1=>r x H1 Q
def rI (C:Int->Int->Prop)(g:Int->Int->V):R2:=λx y H Q=>∃i j,x=.int i/\y=.int j/\C i j/\Q (g i j) H
def zT (g:Int->Int->V):R2:=λx y H Q=>∃i j,x=.int i/\y=.int j/\Q (g i j) H
def rU (g:Int->V):V->Hp->VK->Prop:=λx H Q=>∃i,x=.int i/\Q (g i) H
variable {r:R2}
section
variable {a b:Expr}{tc:TE}
theorem FI (ha:PE X a ta)(hb:PE X b tb){R:V->V->Hp->Prop}(I:Ç X cW U H s)
  (h:ta U H λx H1=>tb U H1 λy H2=>R x y H2) {f:cU->cU->Cd cU}
  (hf:∀v u s2 x y H2,Ç X cW U H2 s2->Ì x v->Ì y u->R x y H2->dr (dq X.prog X.w) X.A (f v u) Q X.xe s2) :
  dr (dq X.prog X.w) X.A (eP a X.env) (λv s₁=>dr (dq X.prog X.w) X.A (eP b X.env) (λu s₂=>dr (dq X.prog X.w) X.A (f v u) Q X.xe s₂) X.xe s₁) X.xe s:=by
 refine gb (ha cW s U H _ I h) λv s1 gP=>?_;obtain⟨x,H1,I1,r1,q1⟩:=gP;refine gb (hb cW s1 U H1 _ I1 q1) λu s2 gP=>?_;obtain⟨y,H2,I2,r2,q2⟩:=gP;exact hf v u s2 x y H2 I2 r1 r2 q2
theorem O4 {op:qZ}(ho:lI X (iu op) r)(ha:PE X a ta)(hb:PE X b tb):PE X (.BinOp a op b pos) (KH r ta tb):=by intro cW s U H Q I h;exact wpAny_BinOp<|FI ha hb I h λv u s2 x y H2 I2 rx ry q=>ho cW s2 U H2 x y v u Q I2 rx ry q
theorem ś {op:UnaryOp}{r:V->Hp->VK->Prop}(ho:JT X (unaryOp op) r)(ha:PE X a ta):PE X (.UnaryOp op a pos) (V0 r ta):=by intro cW s U H Q I h;exact UnaryOp_<|gb (ha cW s U H _ I h) λv s1 ⟨x,H1,I1,r1,q1⟩=>ho cW s1 U H1 x v Q I1 r1 q1
theorem I0 {f:cU->cU->Cd cU}{C:Int->Int->Prop}{g:Int->Int->Int}
  (rule:∀(i j:Int) (t u:Tok) (s:de) (Q:cU->de->Prop) (E:cU->de->Prop),C i j->Q (.int (g i j) s.toks) { s with toks:=s.toks+1 }->dr (dq X.prog X.w) X.A (f (.int i t)<|.int j u) Q E s) :
  lI X f (rI C λi j=>.int<|g i j):=by
 intro cW s U H x y v u Q I rx ry h;obtain⟨i,j,rfl,rfl,hc,q⟩:=h;obtain⟨t,rfl⟩:=rx;obtain⟨t',rfl⟩:=ry;exact rule i j t t' s _ _ hc ⟨.int<|g i j,H,I.tok _,⟨_,rfl⟩,q⟩
theorem Ja {f:cU->cU->Cd cU}{g:Int->Int->Int}
  (rule:∀(i j:Int) (t u:Tok) (s:de) (Q:cU->de->Prop) (E:cU->de->Prop),Q (.int (g i j) s.toks) { s with toks:=s.toks+1 }->dr (dq X.prog X.w) X.A (f (.int i t)<|.int j u) Q E s) :
  lI X f (zT λi j=>.int<|g i j):=by
 intro cW s U H x y v u Q I rx ry h;obtain⟨i,j,rfl,rfl,q⟩:=h;obtain⟨t,rfl⟩:=rx;obtain⟨t',rfl⟩:=ry;exact rule i j t t' s _ _ ⟨.int<|g i j,H,I.tok _,⟨_,rfl⟩,q⟩
theorem D8 {f:cU->cU->Cd cU}{g:Int->Int->Bool}
  (rule:∀(i j:Int) (t u:Tok) (s:de) (Q:cU->de->Prop) (E:cU->de->Prop),Q (.bool<|g i j) s->dr (dq X.prog X.w) X.A (f (.int i t)<|.int j u) Q E s) :
  lI X f (zT λi j=>.bl<|g i j):=by
 intro cW s U H x y v u Q I rx ry h;obtain⟨i,j,rfl,rfl,q⟩:=h;obtain⟨t,rfl⟩:=rx;obtain⟨t',rfl⟩:=ry;exact rule i j t t' s _ _ ⟨.bl<|g i j,H,I,rfl,q⟩
def HD (i j:Int):Prop:=0<=j/\j<=1000000/\i.natAbs<2 ^ 64
def FA (i j:Int):Prop:=(-(2 ^ 64)<i/\i<2 ^ 64)\/(-(2 ^ 64)<j/\j<2 ^ 64)
theorem FA.ok {i j:Int}(h:FA i j):IntMulOk i j:=by
 rcases h with⟨h1,h2⟩|⟨h1,h2⟩
 ·exact .of_left<|intBits_le_64 h1 h2
 ·exact .of_right<|intBits_le_64 h1 h2
theorem Yi (k:Nat):(0:Int)<=2 ^ k:=by rw[two_pow_cast];exact Int.natCast_nonneg _
theorem Δ:lI X (iu .Add) (zT λi j=>.int<|i+j):=Ja λ_ _ _ _ _ _ _ q=>add_int q
theorem Γ:lI X (iu .Sub) (zT λi j=>.int<|i-j):=Ja λ_ _ _ _ _ _ _ q=>sub_int q
theorem zqx:lI X (iu .Mod) (rI (λ_ j=>j≠0) λi j=>.int<|i.fmod j):=I0 λ_ _ _ _ _ _ _ hc q=>mod_int' hc q
theorem Β:lI X (iu .LShift) (rI HD λi j=>.int<|i*2 ^ j.toNat):=I0 λ_ _ _ _ _ _ _ hc q=>lshift_int_small hc.1 hc.2.1 hc.2.2 q
theorem SM:lI X (iu .RShift) (rI (λ_ j=>0<=j) λi j=>.int<|i/2 ^ j.toNat):=I0 λi j _ _ _ _ _ hc q=>rshift_int hc (by rw[vB i<|Yi _];exact q)
theorem V3 {f:cU->Cd cU}{g:Int->Int}
  (rule:∀(i:Int) (t:Tok) (s:de) (Q:cU->de->Prop) (E:cU->de->Prop),Q (.int (g i) s.toks) { s with toks:=s.toks+1 }->dr (dq X.prog X.w) X.A (f<|.int i t) Q E s) :
  JT X f (rU λi=>.int<|g i):=by
 intro cW s U H x v Q I rx h;obtain⟨i,rfl,q⟩:=h;obtain⟨t,rfl⟩:=rx;exact rule i t s _ _ ⟨.int<|g i,H,I.tok _,⟨_,rfl⟩,q⟩
theorem Α:JT X (unaryOp .USub) (rU λi=>.int<|-i):=V3 λ_ _ _ _ _ q=>neg_int q
end
section
variable {a b:Expr}{tc:TE}
theorem Lk {Q:VK}{k k':Bool}(I:Ç X cW U H s)(q:Q (.bl k) H)(e:k=k'):EP X cW U Q (.bool k') s:=by subst e;exact⟨.bl k,H,I,rfl,q⟩
theorem Lv:lI X (e9 .Lt) (zT λi j=>.bl<|decide<|i<j):=D8 λ_ _ _ _ _ _ _ q=>lt_int q
theorem Ś:lI X (e9 .LtE) (zT λi j=>.bl<|decide<|i<=j):=D8 λ_ _ _ _ _ _ _ q=>le_int q
theorem Tp:lI X (e9 .Gt) (zT λi j=>.bl<|decide<|j<i):=D8 λ_ _ _ _ _ _ _ q=>gt_int q
theorem Tl:lI X (e9 .GtE) (zT λi j=>.bl<|decide<|j<=i):=D8 λ_ _ _ _ _ _ _ q=>ge_int q
theorem ϐ:lI X (e9 .Is) (λx y H Q=>y=.non/\Q (.bl<|decide<|x=.non) H):=by
 intro cW s U H x y v u Q I rx ry h;obtain⟨rfl,q⟩:=h;cases ry;refine is_none_gen<|Lk I q ?_;cases x<;>first
  |(cases rx;rfl)
  |(obtain⟨t,rfl⟩:=rx;rfl)
theorem zqy:lI X (e9 .IsNot) (λx y H Q=>y=.non/\Q (.bl<|!decide (x=.non)) H):=by
 intro cW s U H x y v u Q I rx ry h;obtain⟨rfl,q⟩:=h;cases ry;refine isnot_none_gen<|Lk I q ?_;cases x<;>first
  |(cases rx;rfl)
  |(obtain⟨t,rfl⟩:=rx;rfl)
theorem hV (b:Expr)(h:op≠.In:=by decide)(h2:op≠.NotIn:=by decide):gh op b=Ã:=by
 have e1:(op==Bq.In)=Ã:=by cases op<;>first|rfl|exact absurd rfl h
 have e2:(op==Bq.NotIn)=Ã:=by cases op<;>first|rfl|exact absurd rfl h2
 cases b<;>simp[gh,e1,e2]
theorem R0 (ho:lI X (e9 op) r)(ha:PE X a ta)(hb:PE X b tb)(hm:gh op b=Ã):PE X (.Compare a [op] [b] pos) (KH r ta tb):=by intro cW s U H Q I h;exact wpAny_Compare1 (FI ha hb I h λv u s2 x y H2 I2 rx ry q=>ho cW s2 U H2 x y v u Q I2 rx ry q) hm
def Jy (t:TE):TT:=λU H Q=>t U H λx G=>∃k,x=.bl k/\Q k G
theorem R1 (ho:lI X (e9 op) r)(ha:PE X a ta)(hb:PE X b tb)(hm:gh op b=Ã):PT X (.Compare a [op] [b] pos) (Jy<|KH r ta tb):=by intro cW s U H Q I h;refine wpAny_isTrue_Compare1 (gb (ha cW s U H _ I h) λv s1 ⟨x,H1,I1,r1,q1⟩=>gb (hb cW s1 U H1 _ I1 q1) λu s2 ⟨y,H2,I2,r2,q2⟩=>gb (ho cW s2 U H2 x y v u _ I2 r1 r2 q2) λc s3 hq=>?_) hm;obtain⟨z,H3,I3,r3,k,e,q3⟩:=hq;subst e;cases r3;exact jR ⟨H3,I3,q3⟩
theorem pR:(sizeLine:Nat)<2 ^ 63:=by rw[eD];decide
theorem Yj:lI X (iu .Add) (λx y H Q=>∃i j,x=.str i/\y=.str j/\i.length+j.length<=sizeLine/\Q (.str<|i++j) H):=by intro cW s U H x y v u Q I rx ry h;obtain⟨i,j,rfl,rfl,hz,q⟩:=h;obtain⟨t,rfl⟩:=rx;obtain⟨t',rfl⟩:=ry;exact add_str (λt' tk=>⟨.str<|i++j,H,I.tok _,⟨_,rfl⟩,q⟩) hz
theorem sA {x:V}(r:eh [x] us):∃u,us=[u]/\Ì x u:=by
 cases r with
 |cons r1 r2=>cases r2;exact⟨_,rfl,r1⟩
theorem ñ {x:V}(r:eh [x,y] us):∃u w',us=[u,w']/\Ì x u/\Ì y w':=by
 cases r with
 |cons r1 r2=>
  cases r2 with
  |cons r3 r4=>cases r4;exact⟨_,_,rfl,r1,r3⟩
theorem N4 (hc:X.calm=Â):iL X (.builtin "max") (λxs H Q=>∃i j,xs=[.int i,.int j]/\Q (.int<|if j > i then j else i) H):=by
 intro cW s U H xs us Q I r h;obtain⟨i,j,rfl,q⟩:=h;obtain⟨u,w',rfl,⟨t,rfl⟩,⟨t',rfl⟩⟩:=ñ r;refine max_two_ints (I.ok.hd hc) λh' tk k=>⟨_,H,I.kept k,?_,q⟩;by_cases hj:j > i
 ·rw[if_pos hj,if_pos hj];exact⟨_,rfl⟩
 ·rw[if_neg hj,if_neg hj];exact⟨_,rfl⟩
theorem Yu:iL X (.type "int") (λxs H Q=>(∃i,xs=[.int i]/\Q (.int i) H)\/∃k,xs=[.bl k]/\Q (.int<|if k then 1 else 0) H):=by
 intro cW s U H xs us Q I r h;rcases h with⟨i,rfl,q⟩|⟨k,rfl,q⟩
 ·obtain⟨u,rfl,t,rfl⟩:=sA r;exact call_int_int ⟨.int i,H,I,⟨_,rfl⟩,q⟩
 ·obtain⟨u,rfl,r1⟩:=sA r;cases r1;exact call_int_bool ⟨.int<|if k then 1 else 0,H,I.tok _,⟨_,rfl⟩,q⟩
theorem wa:iL X (.type "str") (λxs H Q=>∃i,xs=[.int i]/\i.natAbs.log2<1920/\Q (.str<|toString i) H):=by intro cW s U H xs us Q I r h;obtain⟨i,rfl,hz,q⟩:=h;obtain⟨u,rfl,t,rfl⟩:=sA r;exact PySem.P.str_of_int hz ⟨.str _,H,I.tok _,⟨_,rfl⟩,q⟩
end
structure Ai (h:dz)(x dx C:cZ)(mA:Str->Option cU):Prop where
 obj:h.get? x=Z (ik C dx)
 ns:h.Ns1 dx mA
 ne:dx≠x
theorem Q7 {dx:cZ}{mA:Str->Option cU}(n:h.Ns1 dx mA):∃od,h.get? dx=Z od/\∀name,n8 name od=Z (mA name):=by
 obtain⟨o,es,ep,ho,hd,hk,_,hm⟩:=n;refine⟨o,ho,λname=>?_⟩;have e:=hm name;unfold nsFind findBy at e;rw[←AI]at e;unfold n8;rw[hd];dsimp only;split
 ·rename_i y q;rw[q]at e;exact congrArg Z e
 ·rename_i q;rw[q]at e;have a:es.toList.any (·.refKey)=Ã:=by rw[List.any_eq_false];intro y hy;obtain⟨z,t,MH⟩:=hk y<|yW.mp hy;simp[DictEntry.refKey,MH]
  have a':¬es.toList.any (·.refKey)=Â:=by rw[a];exact di
  rw[if_neg a'];exact congrArg Z e
variable {C:cZ}
theorem Ai.look {x dx:cZ}{mA:Str->Option cU}(I:Ai h x dx C mA):∃od,jE h x (ik C dx) C (Z od)/\∀name,n8 name od=Z (mA name) :=
 let⟨od,ho,hl⟩:=Q7 I.ns
 ⟨od,⟨I.obj,rfl,rfl,ho⟩,hl⟩
variable {R:Result->de->Prop}{f:cZ}{kw:List (Str×cU)}{name:Str}{pl:Cd Bool}
section
variable {prog:eI}{w:d5}{A:dO}{K:cX}{x dx:cZ}{mA:Str->Option cU}{v:cU}
theorem zqz {expr:Bool}(X:K.In s.heap)(I:Ai s.heap x dx C mA)(hg:mP K C name=Â)(hh:eF K C=Â)
  (ha:dI K (.ref C) name=Z S) (hv:mA name=Z v) (EZ:rf v=Â) (h:Q v { s with toks:=s.toks+1 }) :
  dr (dq prog w) A (getAttr (.ref x) name expr) Q E s:=by
 obtain⟨od,L',hl⟩:=I.look;exact PySem.W.get_value X L' (oN hg).1 (xR hh ha rfl<|by rw[hl,hv]) EZ h
theorem ZH {Q:cU×List cU->de->Prop}(X:K.In s.heap)(I:Ai s.heap x dx C mA)(hg:mP K C name=Â)
  (hf:dI K (.ref C) name=Z (Z<|.ref f)) (ht:jM K (.ref f)=Â) (hv:mA name=S) (h:Q (.ref f,[.ref x]) s) :
  dr (dq prog w) A (iU (.ref x) name pl) Q E s:=by
 obtain⟨od,L',hl⟩:=I.look;exact PySem.W.method_fn X L' (oN hg).1 (oN hg).2 hf (beq_iff_eq.mp ht) (by show(n8 name od).map (·.isSome)=Z Ã;rw[hl,hv];rfl) h
theorem zq0 {ns:List Str}{Q:Unit->de->Prop}(X:K.In s.heap)(I:Ai s.heap x dx C mA)
  (hs:dI K (.ref C) "__setattr__"=Z (Z<|.builtin "object.__setattr__")) (hp:Ad K C=Â) (ht:ft K C name=Z S) (hh:eF K C=Â)
  (hw:PySem.Within mA ns) (hsz:ns.length<=sizeLine)
  (h:∀h',Ai h' x dx C (λy=>if y=name then Z v else mA y)->fZ dx s.heap h'->Q () { s with heap:=h',toks:=s.toks+2 }) :
  dr (dq prog w) A (setAttr (.ref x) name v) Q E s:=by
 obtain⟨od,L',hl⟩:=I.look;refine Ae X L' hs<|PySem.W.osa_open (s:={ s with toks:=s.toks+1 }) (r:=none) X L' hp ht λb=>?_;obtain⟨cd,hc,Mx⟩:=mM hh;have hx:s.heap.get? x=Z ⟨.ref C,Z dx,.plain,#[]⟩:=I.obj;refine cY<|dA<|cY<|cY<|wpAny_loadPart hx<|cY<|ek.here (s:={ s with toks:=s.toks+1 }) (oK X hc) ?_;rw[Mx];refine dA (a:=some dx)<|cY<|dA<|cY ?_;refine wpAny_nsSet1 (s:={ s with toks:=s.toks+1 }) I.ns λh' Dr vJ=>?_;obtain⟨oD,Ul,T8,ML,Mz,Mt⟩:=Dr.count<|PySem.Within.cons name v hw;refine cY (wpAny_lookBehind ML (by rw[Mz];exact pastItsLine_dict (fk Mt<|by rw[dw];lia)) ?_);exact dA<|h _ ⟨(vJ.2 _<|Ne.symm I.ne).trans I.obj,Dr,I.ne⟩ vJ
theorem RB {vs:List cU}(X:K.In s.heap)(hm:rV K C=Â)
  (hi:dI K (.ref C) "__init__"=Z (Z<|.ref f)) (hf:B1 K (.ref f)=Z (.type "function"))
  (h:jC (dq prog w) (A.under<|.builtin "type.__call__" ⟨.ref C::vs,kw⟩) (.call (.ref f) ⟨.ref (s.heap.objs.size+1)::vs,kw⟩) (AQ (s.heap.objs.size+1) R)
   { s with heap:=(s.heap.push gp).push (ik C s.heap.objs.size) }) :
  jC (dq prog w) A (.call (.ref C) ⟨vs,kw⟩) R s:=by
 obtain⟨hh,g,d,t,os⟩:=s;exact PySem.W.make_core (PySem.W.makes_of X hm) (gG X hi) (λself=>Bt X self hf) (.inl rfl) h
end
noncomputable def mK (f:Str)(v:V):List (Str×V)->List (Str×V)
 |[]=>[(f,v)]
 |(g,x)::r=>if g=f then(g,v)::r else(g,x)::mK f v r
theorem QH (f g:Str)(v:V):∀fs:List (Str×V),(mK f v fs).lookup g=if g=f then Z v else fs.lookup g
 |[]=>by
  show jP g [(f,v)]=_;by_cases h:g=f
  ·have hb:(g==f)=Â:=beq_iff_eq.mpr h;simp only[jP,hb,if_pos h]
  ·have hb:(g==f)=Ã:=beq_eq_false_iff_ne.mpr h;simp only[jP,hb,if_neg h]
 |(k,x)::r=>by
  have ih:=QH f g v r;rw[show mK f v ((k,x)::r)=(if k=f then(k,v)::r else(k,x)::mK f v r)from rfl];by_cases hk:k=f
  ·rw[if_pos hk];by_cases h:g=k
   ·have hb:(g==k)=Â:=beq_iff_eq.mpr h;simp only[jP,hb,if_pos<|h.trans hk]
   ·have hb:(g==k)=Ã:=beq_eq_false_iff_ne.mpr h;simp only[jP,hb,if_neg<|λe:g=f=>h<|e.trans hk.symm]
  ·rw[if_neg hk];by_cases h:g=k
   ·have hb:(g==k)=Â:=beq_iff_eq.mpr h;simp only[jP,hb,if_neg<|λe:g=f=>hk<|h.symm.trans e]
   ·have hb:(g==k)=Ã:=beq_eq_false_iff_ne.mpr h;simp only[jP,hb];exact ih
theorem N5 (f:Str)(v:V):∀fs:List (Str×V),f∈(mK f v fs).map (·.1)/\∀g,g∈fs.map (·.1)->g∈(mK f v fs).map (·.1)
 |[]=>⟨by simp[mK],λg h=>by simp at h⟩
 |(k,x)::r=>by
  obtain⟨i1,i2⟩:=N5 f v r;rw[show mK f v ((k,x)::r)=(if k=f then(k,v)::r else(k,x)::mK f v r)from rfl];by_cases hk:k=f
  ·rw[if_pos hk];subst hk;exact⟨by simp,λg h=>by simpa using h⟩
  ·rw[if_neg hk];refine⟨?_,λg h=>?_⟩
   ·rw[dJ];exact df _ i1
   ·rw[dJ]at h ⊢;rcases dn.mp h with e|e
    ·exact dn.mpr<|.inl e
    ·exact df _<|i2 g e
theorem QI (f:Str)(v:V):∀fs:List (Str×V),(mK f v fs).length<=fs.length+1
 |[]=>by simp[mK]
 |(k,x)::r=>by
  have ih:=QI f v r;rw[show mK f v ((k,x)::r)=(if k=f then(k,v)::r else(k,x)::mK f v r)from rfl];by_cases hk:k=f
  ·rw[if_pos hk,dw,dw];lia
  ·rw[if_neg hk,dw,dw];lia
theorem nU.some_of {o:Option cU}(r:nU (Z v) o):∃u,o=Z u/\Ì v u:=by
 cases o with
 |none=>exact(show False from r).elim
 |some u=>exact⟨u,rfl,r⟩
theorem nU.none_of {o:Option cU}(r:nU S o):o=S:=by
 cases o with
 |none=>rfl
 |some u=>exact(show False from r).elim
theorem Q8 (r:Ì v u):rf u=Â:=by
 cases v with
 |non=>cases(show u=cU.none from r);rfl
 |bl b=>cases(show u=cU.bool b from r);rfl
 |int i=>obtain⟨t,e⟩:=(show∃t,u=cU.int i t from r);cases e;rfl
 |str x=>obtain⟨t,e⟩:=(show∃t,u=cU.str x t from r);cases e;rfl
 |byt b=>obtain⟨t,e⟩:=(show∃t,u=cU.bytes b t from r);cases e;rfl
 |flt b=>obtain⟨t,e⟩:=(show∃t,u=cU.float b t from r);cases e;rfl
 |ref a=>cases(show u=cU.ref a from r);rfl
 |ty n=>cases(show u=cU.type n from r);rfl
section
variable {w:d5}{dx:cZ}{fs G5:List (Str×V)}
theorem K3 (hok:pL P w H h)(e:H a=Z (.ins C dx fs)):∃mA,Ai h a dx C mA/\(∀f,nU (fs.lookup f)<|mA f)/\PySem.Within mA (fs.map (·.1))/\fs.length<=1000/\H dx=Z (.own a):=by obtain⟨d,z,ne,ob,mA,n,r,q⟩:=(show il P w H h a (.ins C dx fs)from hok a _ e);exact⟨mA,⟨ob,n,ne⟩,r,q,z,d⟩
end
structure mQ (K:cX)(C:cZ):Prop where
 pg:mP K C Str.empty=Â
 hd:eF K C=Â
 po:Ad K C=Â
 sa:dI K (.ref C) "__setattr__"=Z (Z<|.builtin "object.__setattr__")
theorem mQ.get {K:cX}(c:mQ K C)(f:Str):mP K C f=Â:=c.pg
def gk (K:cX)(C:cZ)(f:Str):Prop:=dI K (.ref C) f=Z S
theorem gk.taker {K:cX}{f:Str}(n:gk K C f):ft K C f=Z S:=by unfold ft;rw[show dI K (.ref C) f=Z S from n];rfl
structure qC (K:cX)(C:cZ)(m:Str)(f:cZ):Prop where
 at_:dI K (.ref C) m=Z (Z<|.ref f)
 fn:jM K (.ref f)=Â
 kp:dQ K (.ref f)=Â
variable {m:Str}
section
variable {dx:cZ}{fs:List (Str×V)}{f:Str}{A:dO}
theorem QN {b:Bool}(I:Ç X cW U H s)(e:H a=Z (.ins C dx fs))(c:mQ X.K C)(n:gk X.K C f)(l:fs.lookup f=Z v)
  (h:∀u s',Ç X cW U H s'->Ì v u->Q u s'):dr (dq X.prog X.w) A (getAttr (.ref a) f b) Q E s:=by
 obtain⟨mA,ð,r,_,_,_⟩:=K3 I.hok e;obtain⟨u,hu,ru⟩:=nU.some_of (v:=v) (o:=mA f) (by rw[←l];exact r f);exact zqz I.kIn ð (c.get f) c.hd n hu (Q8 ru)<|h u _ (I.tok _) ru
theorem u4 {g:cZ}{Q:cU×List cU->de->Prop}(I:Ç X cW U H s)(e:H a=Z (.ins C dx fs))(c:mQ X.K C)(k:qC X.K C m g)(l:fs.lookup m=S)
  (h:Q (.ref g,[.ref a]) s):dr (dq X.prog X.w) A (iU (.ref a) m pl) Q E s:=by
 obtain⟨mA,ð,r,_,_,_⟩:=K3 I.hok e;have hn:mA m=S:=nU.none_of (by rw[←l];exact r m);exact ZH I.kIn ð (c.get m) k.at_ k.fn hn h
theorem QO {Q:Unit->de->Prop}(I:Ç X cW U H s)(e:H a=Z (.ins C dx fs))(c:mQ X.K C)(n:gk X.K C f)(hl:fs.length<1000)(ry:Ì y u)
  (h:∀s',Ç X cW U (upd H a<|.ins C dx<|mK f y fs) s'->Q () s'):dr (dq X.prog X.w) A (setAttr (.ref a) f u) Q E s:=by
 obtain⟨mA,ð,r,wi,_,ho⟩:=K3 I.hok e;have hz:(fs.map (·.1)).length<=sizeLine:=by rw[dY,eD];lia
 refine zq0 I.kIn ð c.sa c.po n.taker c.hd wi hz λh' O' sb=>h _ ?_;have hd:∃o,h'.get? dx=Z o:=let⟨o,_,_,e',_⟩:=O'.ns;⟨o,e'⟩;refine I.write (x:=a) (e:=dx) (by rw[e];exact True.intro) (.inr ho) (λb q hb z=>(sb.2 b hb).trans z) hd ?_;refine⟨by rw[zn ð.ne];exact ho,?_,ð.ne,O'.obj,_,O'.ns,λg=>?_,λg hg=>?_⟩
 ·have:=QI f y fs;lia
 ·show nU ((mK f y fs).lookup g) (if g=f then Z u else mA g);rw[QH];by_cases q:g=f
  ·rw[if_pos q,if_pos q];exact ry
  ·rw[if_neg q,if_neg q];exact r g
 ·by_cases q:g=f
  ·rw[q];exact(N5 f y fs).1
  ·refine(N5 f y fs).2 g<|wi g λz=>hg ?_;show(if g=f then Z u else mA g)=S;rw[if_neg q];exact z
theorem Ç.made (I:Ç X cW U H s):Ç X cW U (upd (upd H s.heap.objs.size<|.own<|s.heap.objs.size+1) (s.heap.objs.size+1)<|.ins C s.heap.objs.size [])
  { s with heap:=(s.heap.push gp).push (ik C s.heap.objs.size) }:=by
 have e1:(s.heap.push gp).get? s.heap.objs.size=Z gp:=dG s.heap rfl;have e2:((s.heap.push gp).push<|ik C s.heap.objs.size).get? (s.heap.objs.size+1)=Z (ik C s.heap.objs.size):=by have:=dG (s.heap.push gp) (o:=ik C s.heap.objs.size) rfl;rwa[gw]at this
 have e3:(s.heap.push gp).Ns s.heap.objs.size (λ_=>S):=⟨gp,#[],_,e1,rfl,(λe he=>absurd he<|by simp),λ_=>rfl⟩;have I1:=I.laid (a:=s.heap.objs.size) (o:=.own<|s.heap.objs.size+1) (h':=s.heap.push gp) (t':=s.toks) (λb u q=>c7 _ q) (dE _) ⟨_,e1⟩;refine I1.laid (a:=s.heap.objs.size+1) (o:=.ins C s.heap.objs.size []) (t':=s.toks) (λb u q=>c7 _ q) (yZ<|gw _ _) ?_;have ne:s.heap.objs.size≠s.heap.objs.size+1:=dU<|jX _;refine⟨by rw[zn ne,zo],gQ _,ne,e2,λ_=>S,(dz.Ns1.of_empty e3).at λo q=>c7 _ q,λ_=>True.intro,λy hy=>absurd rfl hy⟩
theorem R3 {prog:eI}{w:d5}{env:Env}{f:Str}(hb:lU e f env (eP e env)=eP e env)
  (h:dr (dq prog w) A (eP e env) (λo s₁=>dr (dq prog w) A (getAttr o f Â) Q E s₁) E s):dr (dq prog w) A (eP (.Attribute e f pos) env) Q E s :=
 Attribute_any_ h (by rw[arm_eval_Attribute,hb])
end
def NJ (K:cX)(ta:TE)(f:Str):TE:=λU H Q=>ta U H λx H1=>∃a C dx fs v,x=.ref a/\H1 a=Z (.ins C dx fs)/\mQ K C/\gk K C f/\fs.lookup f=Z v/\Q v H1
def NB (K:cX)(ta tv:TE)(f:Str):TS:=λD U H=>tv U H λy H1=>ta U H1 λx H2=>∃a C dx fs,x=.ref a/\H2 a=Z (.ins C dx fs)/\mQ K C/\gk K C f/\fs.length<1000 /\
 D.nx U (upd H2 a<|.ins C dx<|mK f y fs)
def HG (X:Cx)(op:qZ)(rd:V->V->Hp->VK->Prop):Prop :=
 ∀(cW:List<|cZ×gM) (s:de) (U:St) (H:Hp) (x y:V) (u v:cU) (Q:VK),Ç X cW U H s->Ì x u->Ì y v->rd x y H Q->dr (dq X.prog X.w) X.A (inplaceOp op u v) (EP X cW U Q) X.xe s
def Ee (K:cX)(ta tv:TE)(rd:V->V->Hp->VK->Prop)(f:Str):TS:=λD U H=>ta U H λx H1=>∃a C dx fs v,x=.ref a/\H1 a=Z (.ins C dx fs)/\mQ K C/\gk K C f/\fs.lookup f=Z v /\
 tv U H1 λy H2=>rd v y H2 λz H3=>∃DT G5,H3 a=Z (.ins C DT G5)/\G5.length<1000/\D.nx U (upd H3 a<|.ins C DT<|mK f z G5)
variable {fG:my}{tv:TE}{value:Expr}
section
variable {f:Str}
theorem OQ (he:PE X e ta)(hb:Af X e f):PE X (.Attribute e f pos) (NJ X.K ta f):=by intro cW s U H Q I h;refine R3 hb<|gb (he cW s U H _ I h) λu s1 gP=>?_;obtain⟨x,H1,I1,rx,a,C,dx,fs,v,ex,ea,c,n,l,q⟩:=gP;subst ex;obtain rfl:u=cU.ref a:=rx;exact QN I1 ea c n l λu' s2 I2 ru=>⟨v,H1,I2,ru,q⟩
theorem JK (ha:PE X o ta)(hv:PE X value tv)(hs:gc value (Z<|.Attribute o f pos') pos.line X.env=pure Ã):PS X (.Assign [.Attribute o f pos'] value pos) (NB X.K ta tv f):=by intro cW s U H D I h;refine plainObj_wpAny_Assign_Attribute (gb (hv cW s U H _ I h) λu s1 ⟨y,H1,I1,ry,q⟩=>gb (ha cW s1 U H1 _ I1 q) λov s2 hq=>?_) hs;obtain⟨x,H2,I2,rx,a,C,dx,fs,ex,ea,c,n,l,q2⟩:=hq;subst ex;obtain rfl:ov=cU.ref a:=rx;exact QO I2 ea c n l ry λs3 I3=>⟨U,_,I3,q2⟩
theorem YV {op:qZ}{rd:V->V->Hp->VK->Prop}(ha:PE X o ta)(hv:PE X value tv)(hop:HG X op rd):PS X (.AugAssign (.Attribute o f ko) op value pos) (Ee X.K ta tv rd f):=by intro cW s U H D I h;refine wpAny_AugAssign_AttributeAny<|gb (ha cW s U H _ I h) λov s1 gP=>?_;obtain⟨x,H1,I1,rx,a,C,dx,fs,v,ex,ea,c,n,l,q⟩:=gP;subst ex;obtain rfl:ov=cU.ref a:=rx;refine QN I1 ea c n l λu s2 I2 ru=>gb (hv cW s2 U H1 _ I2 q) λw3 s3 ⟨y,H2,I3,ry,q3⟩=>gb (hop cW s3 U H2 v y u w3 _ I3 ru ry q3) λw4 s4 gP=>?_;obtain⟨z,H3,I4,rz,DT,G5,T7,l',q4⟩:=gP;exact QO I4 T7 c n l' rz λs5 I5=>⟨U,_,I5,q4⟩
def D9:V->V->Hp->VK->Prop:=λx y H Q=>∃i j,x=.int i/\y=.int j/\Q (.int<|i+j) H
theorem Ϗ:HG X .Add D9:=by rintro cW s U H x y u v Q I rx ry ⟨i,j,rfl,rfl,q⟩;obtain⟨t,rfl⟩:=(show∃t,u=cU.int i t from rx);obtain⟨t',rfl⟩:=(show∃t',v=cU.int j t' from ry);exact PyProof.Rows.iadd_int ⟨.int<|i+j,H,I.tok _,⟨_,rfl⟩,q⟩
theorem zq1 {args:List Expr}(he:PE X e te)(I:Ç X cW U H s)
  (h:te U H λx H1=>∃a C dx fs g,x=.ref a/\H1 a=Z (.ins C dx fs)/\mQ X.K C/\qC X.K C m g/\fs.lookup m=S /\
   ∀s1,Ç X cW U H1 s1->dr (dq X.prog X.w) X.A (jK pos (.ref g) [.ref a] (gR pos<|dM args X.env)<|ir pos<|fO [] X.env) Q X.xe s1)
  (ht:eP (.Call (.Attribute e m fG) args [] pos) X.env=(do
   let ov ← eP e X.env
   ij fG.atName
   let(f,first) ← fH [ov] (iU ov m pl)
   jK pos f first (gR pos<|dM args X.env) (ir pos<|fO [] X.env))) :
  dr (dq X.prog X.w) X.A (eP (.Call (.Attribute e m fG) args [] pos) X.env) Q X.xe s:=by
 refine hU (pl:=pl) (gb (he cW s U H _ I h) λu s1 hq=>?_) ht;obtain⟨x,H1,I1,rx,a,C,dx,fs,g,ex,ea,c,k,l,q⟩:=hq;subst ex;obtain rfl:u=cU.ref a:=rx;exact u4 I1 ea c k l<|q s1 I1
end
section
variable {A:dO}{c:cU}{b:Bool}
class inductive pM (K:cX)(H:Hp):V->cU->Prop where
 |non:pM K H .non (.type "NoneType")
 |bl (x:Bool):pM K H (.bl x) (.type "bool")
 |int (i:Int):pM K H (.int i) (.type "int")
 |str (x:Str):pM K H (.str x) (.type "str")
 |flt (x:UInt64):pM K H (.flt x) (.type "float")
 |lst {a:cZ} {xs:List V} (e:H a=Z (.lst xs)):pM K H (.ref a) (.type "list")
 |frz {a:cZ} {o:gM} {xs:List V} (e:H a=Z (.frz o<|.lst xs)):pM K H (.ref a) (.type "list")
 |tup {a:cZ} {xs:List V} (e:H a=Z (.tup xs)):pM K H (.ref a) (.type "tuple")
 |dK {a:cZ} {fF:List (kr×V)} (e:H a=Z (.dK fF)):pM K H (.ref a) (.type "dict")
 |dT {a:cZ} {fF:List (List kr×V)} (e:H a=Z (.dT fF)):pM K H (.ref a) (.type "dict")
 |ins {a C dx:cZ} {fs:List (Str×V)} (e:H a=Z (.ins C dx fs)) (cl:mQ K C) (ha:dI K (.ref C) "__class__"=Z (Z<|.builtin "object.__class__"))
   (hn:gq K (.builtin "object.__class__") "__get__"=Z (Z<|.builtin "getset_descriptor.__get__")) (Km:rW K (.builtin "object.__class__")=Z Â)
   (hm:fS K C (.type "object")=Z Â):pM K H (.ref a) (.ref C)
theorem Q9 {x:V}{t:cU}(I:Ç X cW U H s)(rx:Ì x u)(ty:pM X.K H x t)(e:dN X.K t c=Z b)(h:∀tk,Q (.bool b) { s with toks:=tk }) :
  dr (dq X.prog X.w) A (call (.builtin "isinstance") [u,c]) Q E s:=by
 cases ty with
 |non=>cases(show u=cU.none from rx);exact eW Ac I.kIn True.intro e (λz=>nomatch z) h
 |bl y=>cases(show u=cU.bool y from rx);exact eW PySem.W.kitx_bool I.kIn True.intro e (λz=>nomatch z) h
 |int i=>obtain⟨t,q⟩:=(show∃t,u=cU.int i t from rx);cases q;exact eW PySem.W.kitx_int I.kIn True.intro e (λz=>nomatch z) h
 |str y=>obtain⟨t,q⟩:=(show∃t,u=cU.str y t from rx);cases q;exact eW PySem.W.kitx_str I.kIn True.intro e (λz=>nomatch z) h
 |flt y=>obtain⟨t,q⟩:=(show∃t,u=cU.float y t from rx);cases q;exact eW PySem.W.kitx_float I.kIn True.intro e (λz=>nomatch z) h
 |@lst a xs ea=>cases(show u=cU.ref a from rx);obtain⟨_,_,n,_,h1⟩:=(show il X.prog X.w H s.heap a (.lst xs)from I.hok a _ ea);exact eW p6 I.kIn ⟨_,h1,rfl⟩ e (λz=>nomatch z) h
 |@frz a ob xs ea=>cases(show u=cU.ref a from rx);obtain⟨_,_,_,n,_,h1⟩:=(show il X.prog X.w H s.heap a (.frz ob<|.lst xs)from I.hok a _ ea);exact eW p6 I.kIn ⟨_,h1,rfl⟩ e (λz=>nomatch z) h
 |@tup a xs ea=>cases(show u=cU.ref a from rx);obtain⟨_,_,_,p⟩:=(show il X.prog X.w H s.heap a (.tup xs)from I.hok a _ ea);obtain⟨o,h1,h2,_⟩:=p;exact eW PySem.W.kitx_tuple I.kIn ⟨o,h1,h2⟩ e (λz=>nomatch z) h
 |@dK a fF ea=>cases(show u=cU.ref a from rx);obtain⟨_,_,vs,_,p⟩:=(show il X.prog X.w H s.heap a (.dK fF)from I.hok a _ ea);obtain⟨o,es,ep,h1,h2,_⟩:=p;exact eW Ab I.kIn ⟨o,h1,h2.1⟩ e (λz=>nomatch z) h
 |@dT a fF ea=>cases(show u=cU.ref a from rx);obtain⟨_,_,xs,_,o,es,ep,h1,h2,_⟩:=(show il X.prog X.w H s.heap a (.dT fF)from I.hok a _ ea);exact eW Ab I.kIn ⟨o,h1,h2.1⟩ e (λz=>nomatch z) h
 |@ins a C dx fs ea cl ha hn Km hm=>cases(show u=cU.ref a from rx);obtain⟨mA,ð,_⟩:=K3 I.hok ea;obtain⟨od,L',_⟩:=ð.look;exact eW (PySem.W.kitx_own (cl.get _) cl.hd ha hn Km hm) I.kIn L' e (λz=>nomatch z) h
end
structure fw (k:Nat)(A:dO):Prop where
 hd:A.handled=S
 dp:A.depth+3*k+5<rc
 un:A.units+16*k+200<i8
 gd:A.guards=Z []
theorem fw.mono {k:Nat}{A:dO}(r:fw k A)(h:j<=k):fw j A:=⟨r.hd,by have:=r.dp;lia,by have:=r.un;lia,r.gd⟩
theorem fw.deeper {k:Nat}{A:dO}(r:fw (k+1) A)(env:Env):fw k (A.deeper env) :=
 ⟨r.hd,by have:=r.dp;show A.depth+1+3*k+5<_;lia,by have:=r.un;show A.units+3+16*k+200<_;lia,r.gd⟩
theorem Yk {A:dO}:(A.under<|.builtin "type.__call__" ⟨.ref C::us,kw⟩).depth=A.depth+1:=by first|rfl|simp[dO.under,uH.weight,uH.isCreation,uH.isGuard,uH.isCaller,uH.frames,uH.isFrame,guardIds]
theorem Yl {A:dO}:(A.under<|.builtin "type.__call__" ⟨.ref C::us,kw⟩).units=A.units+1:=by first|rfl|simp[dO.under,uH.cUnits,uH.frames,uH.isFrame]
theorem XZ {A:dO}:(A.under<|.builtin "type.__call__" ⟨.ref C::us,kw⟩).guards=A.guards:=by first|rfl|simp[dO.under,uH.guards,uH.isGuard,guardIds,pushGuards]
theorem fw.make {k:Nat}{A:dO}(r:fw (k+1) A)(C:cZ)(us:List cU)(kw:List<|Str×cU):fw k (A.under<|.builtin "type.__call__" ⟨.ref C::us,kw⟩) :=
 ⟨r.hd,by have:=r.dp;rw[Yk];lia,by have:=r.un;rw[Yl];lia,by rw[XZ];exact r.gd⟩
theorem fw.depth {k:Nat}{A:dO}(r:fw k A):A.depth<rc:=by have:=r.dp;lia
theorem fw.units {k:Nat}{A:dO}(r:fw k A):A.units+64<i8:=by have:=r.un;lia
def El:TA:=λ_ H Q=>Q [] H
def Fi (ta:TE)(tr:TA):TA:=λU H Q=>ta U H λx H1=>tr U H1 λxs H2=>Q (x::xs) H2
section
variable {t:TA}
theorem yz:PA X [] El:=λ_ _ _ _ H Q I h=>Calls.spliced_nil ⟨[],H,I,.nil,h⟩
theorem ya (ha:PE X e te)(hr:PA X es t)(hs:SE X e es:=by rfl):PA X (e::es) (Fi te t):=by intro pos cW s U H Q I h;rw[hs];show dr _ _ (spliced ((Ã,eP e X.env)::gR pos (dM es X.env))) _ _ s;refine Calls.spliced_cons<|gb (ha cW s U H _ I h) λu s1 gP=>?_;obtain⟨x,H1,I1,r1,q1⟩:=gP;exact gb (hr pos cW s1 U H1 _ I1 q1) λus s2 ⟨xs,H2,I2,r2,q2⟩=>⟨x::xs,H2,I2,.cons r1 r2,q2⟩
def NQ (t:TA):TE:=λU H Q=>t U H λxs H1=>xs.length<=sizeLine/\∀p,H1 p=S->Q (.ref p) (upd H1 p<|.tup xs)
def NM (t:TA):TE:=λU H Q=>t U H λxs H1=>xs.length<=sizeLine/\∀p,H1 p=S->Q (.ref p) (upd H1 p<|.lst xs)
theorem SO {x1}(h:PA X es t):PE X (.Tuple es x1 pos) (NQ t):=by intro cW s U H Q I hq;refine wpAny_Tuple_spliced (gb (h pos cW s U H _ I hq) λus s1 ⟨xs,H1,I1,r,z,q⟩=>⟨by rw[←r.length];exact z,?_⟩);have hf:H1 s1.heap.objs.size=S:=I1.hok.fresh<|dE _;refine⟨.ref s1.heap.objs.size,upd H1 s1.heap.objs.size<|.tup xs,I1.laid (t':=s1.toks) (λb u e=>c7 _ e) (dE _) ?_,rfl,q _ hf⟩;exact⟨z,us,r,⟨_,dG _ rfl,rfl,_,rfl⟩⟩
theorem ώ (h:PA X es t):PE X (.List es pos) (NM t):=by intro cW s U H Q I hq;refine wpAny_List_spliced (gb (h pos cW s U H _ I hq) λus s1 ⟨xs,H1,I1,r,z,q⟩=>⟨by rw[←r.length];exact z,?_⟩);have hf:H1 s1.heap.objs.size=S:=I1.hok.fresh<|dE _;refine⟨.ref s1.heap.objs.size,upd H1 s1.heap.objs.size<|.lst xs,I1.laid (t':=s1.toks) (λb u e=>c7 _ e) (dE _) ?_,rfl,q _ hf⟩;exact⟨z,us,0,r,dG _ rfl⟩
end
abbrev Sp:=List V->Hp->VK->XK->Prop
abbrev Df:=List Env->Hp->de->XK->cU->de->Prop
structure vS (P:eI)(w:d5)(K:cX)(mg:Str->Option cU)(base:dz)(A:dO)(outer:List Env)(s:de)(H:Hp):Prop where
 frames:A.frames=Z outer
 mod:Mod K mg base
 bs:∀b o,base.get? b=Z o->s.heap.get? b=Z o/\H b=S
 bsz:base.objs.size<=s.heap.objs.size
 funs:s.heap.FunFrames base outer
 frf:∀b∈B6 outer,H b=S
 hok:pL P w H s.heap
 bare:AllBare s.gens
def CE (outer:List Env)(P:eI)(w:d5)(H:Hp)(s:de)(Q:VK)(u:cU)(s':de):Prop :=
 ∃v G,s'.os=s.os/\AllBare s'.gens/\Un (B6 outer) [] H G s.heap s'.heap/\pL P w G s'.heap/\Ì v u/\Q v G
def CR (CX:Df)(outer:List Env)(P:eI)(w:d5)(H:Hp)(s:de)(Q:VK)(E:XK)(r:Result)(s':de):Prop :=
 match r with
 |.ok (.ret u)=>CE outer P w H s Q u s'
 |.ok _=>False
 |.error e=>CX outer H s E e s'
structure dR (P:eI)(w:d5)(K:cX)(mg:Str->Option cU)(base:dz)(CX:Df)(k:Nat)(f:cZ)(fd:c9)(ps:List Str)(sp:Sp):Prop where
 len:∀vs H Q E,sp vs H Q E->vs.length=ps.length
 run:∀(A:dO) (outer:List Env) (s:de) (H:Hp) (args:Args) (us:List cU) (vs:List V) (Q:VK) (E:XK),fw k A->vS P w K mg base A outer s H->rp s fd args (ps.zip us)->eh vs us->sp vs H Q E ->
  jC (dq P w) A (.call (.ref f) args) (CR CX outer P w H s Q E) s
theorem vS.make {w:d5}{K:cX}{mg:Str->Option cU}{base:dz}{A:dO}{outer:List Env}(e:vS P w K mg base A outer s H)(C:cZ)(us:List cU)(kw:List<|Str×cU) :
  vS P w K mg base (A.under<|.builtin "type.__call__" ⟨.ref C::us,kw⟩) outer s H:=⟨by first|exact e.frames|(simpa[dO.under,uH.envs,uH.isFrame,pushEnvs]using e.frames),e.mod,e.bs,e.bsz,e.funs,e.frf,e.hok,e.bare⟩
theorem Ç.env0 (I:Ç X cW U H s):vS X.prog X.w X.K X.mg X.base X.A X.stack s H :=
 ⟨I.ok.frames,I.ok.mod,I.bs,fk I.ok.bsz I.sz,I.stack,I.stkFree,I.hok,I.bare⟩
theorem Ç.after {Q:VK}(I:Ç X cW U H s)(h:CE X.stack X.prog X.w H s Q u s'):EP X cW U Q u s':=by obtain⟨v,G,os,bare,un,hok,r,q⟩:=h;obtain⟨hh,g,d,t,Qa⟩:=s';obtain rfl:Qa=s.os:=os;exact⟨v,G,I.call (h':=hh) (g':=g) (d':=d) (t':=t) (ch:=[]) un hok bare<|λb z=>absurd z<|by simp,r,q⟩
def Fh (sp:Sp)(i9:List V)(E:XK)(t:TA):TE:=λU H Q=>t U H λvs H1=>sp (vs++i9) H1 Q E
def Fl (C:cZ)(m:Str)(sp:Sp)(i9:List V)(E:XK)(ta:TE)(t:TA):TE:=λU H Q=>ta U H λx H1=>∃a dx fs,x=.ref a/\H1 a=Z (.ins C dx fs)/\fs.lookup m=S /\
 t U H1 λvs H2=>sp (x::(vs++i9)) H2 Q E
def Fk (C:cZ)(sp:Sp)(i9:List V)(E:XK)(t:TA):TE:=λU H Q=>t U H λvs H1=>∀x dx,H1 x=S->H1 dx=S->dx≠x ->
 sp (.ref x::(vs++i9)) (upd (upd H1 dx<|.own x) x<|.ins C dx []) (λv H2=>v=.non/\Q (.ref x) H2) E
def fK (K:cX)(fd:c9)(ps:List Str)(Y:List cU):Prop :=
 ∀(s:de) (us:List cU),K.In s.heap->(us++Y).length=ps.length->rp s fd ⟨us,[]⟩ (ps.zip<|us++Y)
variable {fd:c9}{ps:List Str}
theorem fK.all {K:cX}(h:∀us:List cU,us.length=ps.length->bindArgs fd ⟨us,[]⟩=pure (ps.zip us)):fK K fd ps []:=λs us _ hl=>by rw[d6]at hl ⊢;exact .of_eq<|h us hl
def lJ (CX:Df)(X:Cx)(E:XK):Prop:=∀(cW:List<|cZ×gM) (U:St) (H:Hp) (s:de) (e:cU) (s':de),Ç X cW U H s->CX X.stack H s E e s'->X.xe e s'
variable {CX:Df}{Y:List cU}{i9 vs:List V}
section
variable {k:Nat}{sp:Sp}{E:XK}{t:TA}
theorem JL {Q:VK}(F:dR X.prog X.w X.K X.mg X.base CX k f fd ps sp)(hr:fw k X.A)(hb:fK X.K fd ps Y)(hd:eh i9 Y)(hx:lJ CX X E)
  (I:Ç X cW U H s) (r:eh vs us) (h:sp (vs++i9) H Q E):dr (dq X.prog X.w) X.A (call (.ref f) us) (EP X cW U Q) X.xe s:=by
 have r2:eh (vs++i9) (us++Y):=r.append hd;have hl:(us++Y).length=ps.length:=by rw[←r2.length];exact F.len _ _ _ _ h
 refine wpAny_call<|ig (F.run X.A X.stack s H ⟨us,[]⟩ (us++Y) (vs++i9) Q E hr I.env0 (hb s us I.kIn hl) r2 h) λr s' hq=>?_;cases r with
 |error e=>exact hx cW U H s e s' I hq
 |ok fl=>
  cases fl with
  |ret u=>exact I.after hq
  |next=>exact False.elim hq
  |brk=>exact False.elim hq
  |cont=>exact False.elim hq
theorem Oy (F:dR X.prog X.w X.K X.mg X.base CX k f fd ps sp)(hr:fw k X.A)(hg:Gl X x)(hm:X.mg x=Z (.ref f))(hk:dQ X.K (.ref f)=Â)(hb:fK X.K fd ps Y)(hd:eh i9 Y)(hx:lJ CX X E)
  (ha:PA X (e::es) t) (jS:iM x:=by decide) (he:SE X e es:=by rfl) (iD:lV X pos es:=by rfl) :
  PE X (.Call (.Name x p) (e::es) [] pos) (Fh sp i9 E t):=by
 intro cW s U H Q I h;refine fu<|xj I hg hm ?_ jS;refine fe (h₀:=X.base) I.ok.mod.kin hk (gb (ha pos cW s U H _ I h) λus s1 ⟨vs,H1,I1,r,q⟩=>⟨I1.kIn,?_⟩) he iD;exact JL F hr hb hd hx I1 r q
theorem R9 (he:PE X o ta)(c:mQ X.K C)(hm:qC X.K C m f)(F:dR X.prog X.w X.K X.mg X.base CX k f fd ps sp)(hr:fw k X.A)(hb:fK X.K fd ps Y)(hd:eh i9 Y)(hx:lJ CX X E)(ha:PA X (e::es) t)
  (jH:SE X e es:=by rfl) (iD:lV X pos es:=by rfl)
  (ht:eP (.Call (.Attribute o m fG) (e::es) [] pos) X.env=(do
   let ov ← eP o X.env
   ij fG.atName
   let(f,first) ← fH [ov] (iU ov m pl)
   jK pos f first (gR pos<|dM (e::es) X.env) (ir pos<|fO [] X.env)):=by rfl) :
  PE X (.Call (.Attribute o m fG) (e::es) [] pos) (Fl C m sp i9 E ta t):=by
 intro cW s U H Q I h;refine hU (pl:=pl) (gb (he cW s U H _ I h) λu s1 hq=>?_) ht;obtain⟨x,H1,I1,rx,a,dx,fs,ex,ea,l,q⟩:=hq;subst ex;obtain rfl:u=cU.ref a:=rx;refine u4 I1 ea c hm l ?_;refine fe (first:=[.ref a]) (h₀:=X.base) I.ok.mod.kin hm.kp (gb (ha pos cW s1 U H1 _ I1 q) λus s2 ⟨vs,H2,I2,r,q2⟩=>⟨I2.kIn,?_⟩) jH iD;exact JL (us:=.ref a::us) (vs:=.ref a::vs) F hr hb hd hx I2 (.cons rfl r) q2
theorem ZI (he:PE X o ta)(c:mQ X.K C)(hm:qC X.K C m f)(F:dR X.prog X.w X.K X.mg X.base CX k f fd ps sp)(hr:fw k X.A)(hb:fK X.K fd ps Y)(hd:eh i9 Y)(hx:lJ CX X E)
  (ht:eP (.Call (.Attribute o m fG) [] [] pos) X.env=(do
   let ov ← eP o X.env
   ij fG.atName
   let(f,first) ← fH [ov] (iU ov m pl)
   jK pos f first (gR pos<|dM [] X.env) (ir pos<|fO [] X.env)):=by rfl) :
  PE X (.Call (.Attribute o m fG) [] [] pos) (Fl C m sp i9 E ta El):=by
 intro cW s U H Q I h;refine hU (pl:=pl) (gb (he cW s U H _ I h) λu s1 hq=>?_) ht;obtain⟨x,H1,I1,rx,a,dx,fs,ex,ea,l,q⟩:=hq;subst ex;obtain rfl:u=cU.ref a:=rx;refine u4 I1 ea c hm l ?_;exact xQ (first:=[.ref a]) I1.kIn hm.kp<|JL (us:=[.ref a]) (vs:=[.ref a]) F hr hb hd hx I1 (.cons rfl .nil) q
structure Mk (K:cX)(C f:cZ):Prop where
 makes:rV K C=Â
 init:dI K (.ref C) "__init__"=Z (Z<|.ref f)
 fn:jM K (.ref f)=Â
 kp:dQ K (.ref C)=Â
theorem RC {Q:VK}(J':Mk X.K C f)(F:dR X.prog X.w X.K X.mg X.base CX k f fd ps sp)(hr:fw (k+1) X.A)(hb:fK X.K fd ps Y)(hd:eh i9 Y)
  (hx:lJ CX X E) (I:Ç X cW U H s) (r:eh vs us)
  (h:∀x dx,H x=S->H dx=S->dx≠x->sp (.ref x::(vs++i9)) (upd (upd H dx<|.own x) x<|.ins C dx []) (λv H2=>v=.non/\Q (.ref x) H2) E) :
  dr (dq X.prog X.w) X.A (call (.ref C) us) (EP X cW U Q) X.xe s:=by
 have hq:=h (s.heap.objs.size+1) s.heap.objs.size (I.hok.fresh<|lM _) (I.hok.fresh<|dE _)<|dU<|jX _;have I2:=Ç.made (C:=C) I;have r2:eh (V.ref (s.heap.objs.size+1)::(vs++i9)) (cU.ref (s.heap.objs.size+1)::(us++Y)):=.cons rfl<|r.append hd;have hl:(cU.ref (s.heap.objs.size+1)::us++Y).length=ps.length:=by have e:=r2.length;rw[F.len _ _ _ _ hq]at e;exact e.symm
 refine wpAny_call<|RB (f:=f) I.kIn J'.makes J'.init (beq_iff_eq.mp J'.fn)<|ig (F.run _ X.stack _ _ ⟨cU.ref (s.heap.objs.size+1)::us,[]⟩ (cU.ref (s.heap.objs.size+1)::(us++Y)) _ _ E (hr.make C us [])
  (I2.env0.make C us []) (hb _ (cU.ref (s.heap.objs.size+1)::us) I2.kIn hl) r2 hq) λr s' wK=>?_
 cases r with
 |error e=>exact hx cW U _ _ e s' I2 wK
 |ok fl=>
  cases fl with
  |ret u=>obtain⟨v,G,I3,rv,ev,q3⟩:=I2.after wK;subst ev;exact⟨rv,⟨V.ref<|s.heap.objs.size+1,G,I3,rfl,q3⟩⟩
  |next=>exact False.elim wK
  |brk=>exact False.elim wK
  |cont=>exact False.elim wK
theorem zq2 (J':Mk X.K C f)(F:dR X.prog X.w X.K X.mg X.base CX k f fd ps sp)(hr:fw (k+1) X.A)(hg:Gl X x)(hm:X.mg x=Z (.ref C))(hb:fK X.K fd ps Y)(hd:eh i9 Y)(hx:lJ CX X E)
  (ha:PA X (e::es) t) (jS:iM x:=by decide) (he:SE X e es:=by rfl) (iD:lV X pos es:=by rfl) :
  PE X (.Call (.Name x p) (e::es) [] pos) (Fk C sp i9 E t):=by
 intro cW s U H Q I h;refine fu<|xj I hg hm ?_ jS;refine fe (h₀:=X.base) I.ok.mod.kin J'.kp (gb (ha pos cW s U H _ I h) λus s1 ⟨vs,H1,I1,r,q⟩=>⟨I1.kIn,?_⟩) he iD;exact RC J' F hr hb hd hx I1 r q
theorem ZJ (J':Mk X.K C f)(F:dR X.prog X.w X.K X.mg X.base CX k f fd ps sp)(hr:fw (k+1) X.A)(hg:Gl X x)(hm:X.mg x=Z (.ref C))(hb:fK X.K fd ps Y)(hd:eh i9 Y)(hx:lJ CX X E)
  (jS:iM x:=by decide):PE X (.Call (.Name x p) [] [] pos) (Fk C sp i9 E El):=by
 intro cW s U H Q I h;refine fu<|xj I hg hm ?_ jS;exact xQ I.kIn J'.kp<|RC (us:=[]) J' F hr hb hd hx I .nil h
end
structure eK (N P:List Str)(sc:pI):Prop where
 kind:sc.kind=.function
 co:sc.isCoroutine=Ã
 gen:sc.isGenerator=Ã
 nd:N.Nodup
 pre:N.take P.length=P
 par:∀x∈P,sc.names.lookup x=Z .local\/sc.names.lookup x=Z .cell
 nofree:∀y∈sc.names,y.2≠.free
variable {kindOf:Str->Option dZ}
theorem Ra {kindOf:Str->Option dZ}{x:Str}:∀{binds:List (Str×cU)} {m:Str->Option cU},(∀v,(x,v)∉binds)->Bs kindOf binds m x=m x
 |[],_,_=>rfl
 |(n,v)::r,m,h=>by
  unfold Bs;rw[Ra λw hw=>h w<|df _ hw];split
  ·have:x≠n:=by rintro rfl;exact h v cV
   simp[this]
  ·rfl
theorem Rb {kindOf:Str->Option dZ}{x:Str}:∀{binds:List (Str×cU)} {m:Str->Option cU},(∀v,(x,v)∉binds)->Br kindOf binds m x=m x
 |[],_,_=>rfl
 |(n,v)::r,m,h=>by
  unfold Br;rw[Rb λw hw=>h w<|df _ hw];split
  ·rfl
  ·have:x≠n:=by rintro rfl;exact h v cV
   simp[this]
theorem Rc {kindOf:Str->Option dZ}{x:Str}{v:cU}:∀{P:List Str} {vs:List cU} {i:Nat} {m:Str->Option cU},P.Nodup->P[i]?=Z x->vs[i]?=Z v->kindOf x=Z .local ->
  Bs kindOf (P.zip vs) m x=Z v
 |[],_,_,_,_,h,_,_=>by simp at h
 |_::_,[],_,_,_,_,h,_=>by simp at h
 |p::P,w::vs,0,m,nd,h1,h2,hk=>by simp at h1 h2;subst h1;subst h2;show Bs kindOf ((p,w)::P.zip vs) m p=_;unfold Bs;rw[Ra λv hv=>(eJ.mp nd).1 (lN hv).1,if_pos hk];simp
 |p::P,w::vs,i+1,m,nd,h1,h2,hk=>by show Bs kindOf ((p,w)::P.zip vs) m x=_;unfold Bs;exact Rc (i:=i) (eJ.mp nd).2 (by simpa using h1) (by simpa using h2) hk
theorem Q3 {kindOf:Str->Option dZ}{x:Str}{v:cU}:∀{P:List Str} {vs:List cU} {i:Nat} {m:Str->Option cU},P.Nodup->P[i]?=Z x->vs[i]?=Z v->kindOf x≠Z .local ->
  Br kindOf (P.zip vs) m x=Z v
 |[],_,_,_,_,h,_,_=>by simp at h
 |_::_,[],_,_,_,_,h,_=>by simp at h
 |p::P,w::vs,0,m,nd,h1,h2,hk=>by simp at h1 h2;subst h1;subst h2;show Br kindOf ((p,w)::P.zip vs) m p=_;unfold Br;rw[Rb λv hv=>(eJ.mp nd).1 (lN hv).1,if_neg hk];simp
 |p::P,w::vs,i+1,m,nd,h1,h2,hk=>by show Br kindOf ((p,w)::P.zip vs) m x=_;unfold Br;exact Q3 (i:=i) (eJ.mp nd).2 (by simpa using h1) (by simpa using h2) hk
def start (N:List Str)(vs:List V):St:=vs.map Z++dg (N.length-vs.length) S
def nj (CX:Df)(P:eI)(w:d5)(K:cX)(mg:Str->Option cU)(base:dz)(N:List Str)(qual:Str)(scope:pI)(f:cZ)(cd:cU)(A:dO)(outer:List Env)(s:de)(H:Hp)(E:XK):Cx where
 prog:=P
 w:=w
 K:=K
 mg:=mg
 base:=base
 A:=A.deeper<|envOfC qual scope s.heap.objs.size f cd
 N:=N
 s₀:=s
 H₀:=H
 env:=envOfC qual scope s.heap.objs.size f cd
 outer:=outer
 stack:=envOfC qual scope s.heap.objs.size f cd::outer
 ex:=[]
 calm:=true
 fn:=λ_=>Â
 pn:=[]
 xe:=λe s'=>dr (dq P w) (A.deeper<|envOfC qual scope s.heap.objs.size f cd) (leaving (envOfC qual scope s.heap.objs.size f cd) e) (λ_ s''=>CX outer H s E e s'') (λe' s''=>CX outer H s E e' s'') s'
theorem RD {sc:pI}(h:sc.names.lookup x=Z .cell):∃c,(cellsFrom n sc.names []).lookup x=Z c:=by have q:=kB sc.names n []<|.inl h;exact uQ.mp q
variable {qual:Str}{scope:pI}
theorem Q4 {w:d5}{K:cX}{mg:Str->Option cU}{base:dz}{N:List Str}{cd:cU}{A:dO}{outer:List Env}{s1:de}{E:XK}
  (S':eK N ps scope) (hd:A.handled=S) (e0:vS P w K mg base A outer s H) (hl:vs.length=ps.length) (r:eh vs us)
  (x:InCallC s s.heap.objs.size (Bs (envOfC qual scope s.heap.objs.size f cd).kindOf (ps.zip us) λ_=>S) (cellsFrom (s.heap.objs.size+1) scope.names []) (Br (envOfC qual scope s.heap.objs.size f cd).kindOf (ps.zip us) λ_=>S) s1) :
  Ç (nj CX P w K mg base N qual scope f cd A outer s H E) [] (start N vs) H s1:=by
 have iD:ps.length<=N.length:=by have:=congrArg List.length S'.pre;rw[Cb]at this;lia
 obtain⟨h1,tk,rfl,hk⟩:=x.done;have IW:∀b:cZ,b∉(nj CX P w K mg base N qual scope f cd A outer s H E).ex:=λb z=>absurd (show b∈([]:List cZ)from z) (by simp);refine⟨⟨e0.mod,S'.kind,rfl,rfl,dE _,λy z c h1 h2=>?_,λy hy=>?_,λy c _ h=>?_,λ_=>hd,dO.frames_deeper e0.frames,.inr ⟨rfl,rfl⟩,λb z=>absurd z<|IW b,e0.bs,e0.bsz,λb _ _=>IW b,λb z=>absurd z<|IW b,e0.funs,e0.frf⟩,
  rfl,e0.bare,Un.kept hk,⟨_,x.toInCall.ns,λi y v h1 h2 h3=>?_⟩,λy c h=>⟨_,x.cell y c h⟩,e0.hok.fresh<|dE _,λy c h=>?_,λp hp=>absurd (show p∈([]:List (cZ×gM))from hp)<|by simp,e0.hok.kept hk,?_⟩
 ·exact name_of_addr x.apart (PySem.mem_of_lookup h1)<|PySem.mem_of_lookup h2
 ·have hy:scope.names.lookup y=Z .cell\/scope.names.lookup y=Z .free:=hy;rcases hy with hy|hy
  ·exact RD hy
  ·exact absurd rfl<|S'.nofree _<|PySem.mem_of_lookup hy
 ·exact rQ<|x.above y c<|PySem.mem_of_lookup h
 ·have hi:i<vs.length:=by
   unfold start at h2;by_cases hi:i<vs.length
   ·exact hi
   ·rw[uP<|by simpa using hi]at h2;rw[nc]at h2
    split at h2<;>cases h2
  have ha:vs[i]?=Z v:=by
   unfold start at h2;rw[mx<|by simpa using hi,ix]at h2;cases e:vs[i]? with
   |none=>rw[e]at h2;cases h2
   |some a=>rw[e]at h2;cases h2;rfl
  obtain⟨u,hu,rv⟩:=r.get ha;have hp:ps[i]?=Z y:=by rw[←S'.pre,List.getElem?_take_of_lt (by lia)];exact h1
  have P5:ps.Nodup:=by rw[←S'.pre];exact S'.nd.sublist<|List.take_sublist _ _
  refine⟨u,rv,?_⟩;rcases S'.par y (zZ hp)with k|k
  ·exact .inl ⟨k,Rc P5 hp hu k⟩
  ·obtain⟨c,e⟩:=RD (n:=s.heap.objs.size+1) k;refine .inr ⟨.inl k,c,e,?_⟩;have q:=x.cell y c e;rw[Q3 P5 hp hu<|by show scope.names.lookup y≠_;rw[k];decide]at q;exact q
 ·exact e0.hok.fresh<|rQ<|x.above y c<|PySem.mem_of_lookup h
 ·unfold start;show _=N.length;rw[d7,dY,hZ];lia
theorem O1 {w:d5}{K:cX}{mg:Str->Option cU}{base:dz}{k:Nat}{params:Arguments}{dV kV doc pm gH M oc:cU}{an od:Option cZ}
    {Bc:Array (Option cU)} {N:List Str} {sp:Sp} (lk:K.lookup f=Z ⟨oc,od,.func<|kC name qual params body scope dV kV doc pm an gH M,Bc⟩) (iY:n6 K gH qual=Â) (S':eK N ps scope)
    (len:∀vs H Q E,sp vs H Q E->vs.length=ps.length)
    (xZ:∀(A:dO) (outer:List Env) (s:de) (H:Hp) (vs:List V) (Q:VK) (E:XK),fw k (A.deeper<|envOfC qual scope s.heap.objs.size f gH)->sp vs H Q E ->
      ∃t,tG (nj CX P w K mg base N qual scope f gH A outer s H E) body t/\t { nx:=λ_ G=>Q .non G,rt:=Q } (start N vs) H) :
    dR P w K mg base CX (k+1) f (kC name qual params body scope dV kV doc pm an gH M) ps sp:=by
  refine⟨len,λA outer s H args us vs Q E hr e0 hb r CD=>?_⟩;have hl:=len _ _ _ _ CD;have KX:K.In s.heap:=e0.mod.kin.keeps λb o e=>(e0.bs b o e).1;have lim:s.heap.NoLimit:=e0.mod.nolimit.keeps λb o e=>(e0.bs b o e).1;have Cz:∀y∈ps.zip us,scope.names.lookup y.1=Z .local\/(scope.names.lookup y.1=Z .cell/\((cellsFrom (s.heap.objs.size+1) scope.names []).lookup y.1).isSome=Â):=λ⟨n,v⟩ hy=>by
    rcases S'.par n (lN hy).1 with q|q
    · exact .inl q
    · exact .inr ⟨q,kB _ _ _<|.inl q⟩
  refine codeAny_call_function hr.depth (KX _ _ lk) rfl S'.co S'.gen rfl (zN KX iY)<|hb _ _ _ _ ?_;refine wpAny_newFunctionEnv_cells S'.kind Cz λenv he s1 x=>?_;subst he;refine⟨lim.keeps x.toInCall.keep,codeAny_func ?_⟩;obtain⟨t,ht,hq⟩:=xZ A outer s H vs Q E (hr.deeper _) CD;have I:Ç (nj CX P w K mg base N qual scope f gH A outer s H E) [] (start N vs) H s1:=Q4 S' hr.hd e0 hl r x;refine fW (ht [] s1 (start N vs) H _ I hq) (λfl s' hs=>?_) λe s' hs=>hs;have fin:∀{σ':St} {G:Hp} {v:V} {u:cU},Ç (nj CX P w K mg base N qual scope f gH A outer s H E) [] σ' G s'->Ì v u->Q v G->CE outer P w H s Q u s' :=
    λ{σ' G v u} L' rv q=>⟨v,G,L'.os,L'.bare,L'.base,L'.hok,rv,q⟩
  cases fl with
  |ret u=>obtain⟨v,σ',G,L',rv,q⟩:=hs;exact fin L' rv q
  |next=>obtain⟨σ',G,L',q⟩:=hs;exact fin (v:=V.non) (u:=cU.none) L' rfl q
  |brk=>obtain⟨_,_,_,q⟩:=hs;exact False.elim q
  |cont=>obtain⟨_,_,_,q⟩:=hs;exact False.elim q
section
variable {t:TA}{id T:String}{r:List V->Hp->VK->Prop}
def NG (r:List V->Hp->VK->Prop)(t:TA):TE:=λU H Q=>t U H λvs H1=>r vs H1 Q
theorem u5 (hc:iL X (.builtin id) r)(hg:Gl X x)(hm:X.mg x=S)(hv:eM x=Z (.builtin id))(ha:PA X (e::es) t)(hn:x≠"__name__":=by decide)(jS:iM x:=by decide)
  (he:SE X e es:=by rfl) (iD:lV X pos es:=by rfl):PE X (.Call (.Name x p) (e::es) [] pos) (NG r t):=by
 intro cW s U H Q I h;refine fu<|Fo I hg hm hv ?_ hn jS;exact oY (gb (ha pos cW s U H _ I h) λus s1 ⟨vs,H1,I1,r1,q1⟩=>hc cW s1 U H1 vs us Q I1 r1 q1) he iD
theorem N6 (hc:iL X (.type T) r)(hg:Gl X x)(hm:X.mg x=S)(hv:eM x=Z (.type T))(ha:PA X (e::es) t)(hn:x≠"__name__":=by decide)(jS:iM x:=by decide)
  (he:SE X e es:=by rfl) (iD:lV X pos es:=by rfl):PE X (.Call (.Name x p) (e::es) [] pos) (NG r t):=by
 intro cW s U H Q I h;refine fu<|Fo I hg hm hv ?_ hn jS;exact fV (gb (ha pos cW s U H _ I h) λus s1 ⟨vs,H1,I1,r1,q1⟩=>hc cW s1 U H1 vs us Q I1 r1 q1) he iD
end
end L2
namespace HT
open PySem PyProof.Rows
open PySem.SeqAt
open PySem.AutoSeq1 (wpAny_loadPart')
open PySem.MeetsSeq PySem.MeetsSeq2 PySem.MeetsSeq3
section
variable {prog:eI}{w:d5}{A:dO}{E:cU->de->Prop}{s:de}
theorem cat_tup {t b:cZ}{vs ws:List cU}{Q:cU->de->Prop}(ht:IsTup s.heap t vs.toArray)(hb:IsTup s.heap b ws.toArray)(hv:vs≠[])
    (h1:ws=[]->Q (.ref t) s) (h2:ws≠[]->Q (.ref s.heap.objs.size) { s with heap:=s.heap.push { cls:=.type "tuple",data:=.seq (vs++ws).toArray } })
    (hsz:vs.length+ws.length<=sizeLine):dr (dq prog w) A (iu .Add (.ref t)<|.ref b) Q E s:=by
  obtain⟨⟨cls,dd,data,sl⟩,ho,hc,n,hd⟩:=id ht;obtain⟨⟨LO,J0,data2,Kz⟩,Kh,PB,n2,hd2⟩:=id hb;simp only at hc hd PB hd2;subst hc hd PB hd2;have e:vs.toArray++ws.toArray=(vs++ws).toArray:=by simp
  by_cases hw:ws=[]
  · exact BZ ⟨_,ho,rfl⟩ ⟨_,Kh,rfl⟩ noFill_tuple_add seq_tuple_add PySem.F.slot_tuple_add PySem.F.entry_tuple_add (PySem.F.args_tuple_add_2 _ _)
      (tuple_addW1 t b vs.toArray ws.toArray n n2 dd J0 sl Kz (by simpa using hv)<|by simp[hw]) ⟨ho,Kh,h1 hw⟩
  · refine BZ ⟨_,ho,rfl⟩ ⟨_,Kh,rfl⟩ noFill_tuple_add seq_tuple_add PySem.F.slot_tuple_add PySem.F.entry_tuple_add (PySem.F.args_tuple_add_2 _ _)
      (tuple_addW2 t b vs.toArray ws.toArray n n2 dd J0 sl Kz (by simpa using hv) (by simpa using hw)<|by rw[dF,dF];exact hsz) ⟨ho,Kh,?_⟩
    rw[e];exact h2 hw
noncomputable def sIx (n d:Nat):Option Int->Nat
 |none=>d
 |some v=>if v<0 then(v+(n:Int)).toNat else min v.toNat n
end
end HT
namespace L2
open PySem PySem.Spec PyProof.Rows
abbrev TO:=St->Hp->(Option Int->Hp->Prop)->Prop
def PO (X:Cx)(e:Option Expr)(t:TO):Prop :=
 ∀(cW:List<|cZ×gM) (s:de) (U:St) (H:Hp) (Q:Option Int->Hp->Prop),Ç X cW U H s->t U H Q ->
  dr (dq X.prog X.w) X.A (evalPart e X.env) (λu s'=>∃o G,Ç X cW U G s'/\IsPart u o/\Q o G) X.xe s
def Em:TO:=λ_ H Q=>Q S H
def Jw (t:TE):TO:=λU H Q=>t U H λx H1=>∃i,x=.int i/\Q (Z i) H1
theorem Ym {ns:List Int}:∀{us:List cU},eh (ns.map V.int) us->IntsAre us ns:=by
 induction ns with
 |nil=>intro us r;rw[nQ]at r;cases r;exact .nil
 |cons n ns ih=>
  intro us r;rw[dJ]at r;cases r with
  |cons r1 r2=>obtain⟨t,e⟩:=r1;subst e;exact .cons n t<|ih r2
variable {X:Cx}{e:Expr}{p2 pos:my}{te:TE}{us:List cU}{xs:List V}
section
variable {lo hi:Option Expr}{tl th:TO}
theorem zq4:PO X S Em:=by intro cW s U H Q I h;rw[AO];exact dA ⟨S,H,I,.none,h⟩
theorem Oz (h:PE X e te):PO X (Z e) (Jw te):=by intro cW s U H Q I hw;rw[evalPart_some];refine gb (h cW s U H _ I hw) λu s1 gP=>?_;obtain⟨x,H1,I1,r1,q1⟩:=gP;obtain⟨i,rfl,q⟩:=q1;obtain⟨t,rfl⟩:=r1;exact⟨Z i,H1,I1,.int i t,q⟩
def Pe (X:Cx)(r:V->Option Int->Option Int->Hp->VK->Prop):Prop :=
 ∀(cW:List<|cZ×gM) (s:de) (U:St) (H:Hp) (x:V) (v vl vu:cU) (lo hi:Option Int) (sl:cZ) (Q:VK),Ç X cW U H s->Ì x v->s.heap.IsSliceOf sl vl vu .none->IsPart vl lo->IsPart vu hi->r x lo hi H Q ->
  ∃T id,sZ (.type T) "__getitem__"=pure (Z<|.builtin id)/\s.TypeIs v T/\dr (dq X.prog X.w) X.A (uJ v<|.ref sl) (EP X cW U Q) X.xe s
def VZ (r:V->Option Int->Option Int->Hp->VK->Prop)(te:TE)(tl th:TO):TE:=λU H Q=>te U H λx H1=>tl U H1 λl H2=>th U H2 λu H3=>r x l u H3 Q
theorem ZK {r:V->Option Int->Option Int->Hp->VK->Prop}(hr:Pe X r)(he:PE X e te)(hl:PO X lo tl)(hu:PO X hi th):PE X (.Subscript e (.Slice lo hi S p2) pos) (VZ r te tl th):=by intro cW s U H Q I h;refine Subscript_<|gb (he cW s U H _ I h) λv s1 gP=>?_;obtain⟨x,H1,I1,r1,q1⟩:=gP;refine wpAny_Slice<|gb (hl cW s1 U H1 _ I1 q1) λvl s2 ⟨l,H2,I2,pl,q2⟩=>gb (hu cW s2 U H2 _ I2 q2) λvu s3 gP=>?_;obtain⟨u,H3,I3,pu,q3⟩:=gP;rw[AO];refine dA ?_;have I4:Ç X cW U H3 { s3 with heap:=s3.heap.push { cls:=.type "slice",data:=.fields #[vl,vu,.none] } }:=I3.kept (t':=s3.toks) λb ob q=>c7 _ q;obtain⟨T,id,hT,ht,hg⟩:=hr cW { s3 with heap:=s3.heap.push { cls:=.type "slice",data:=.fields #[vl,vu,.none] } } U H3 x v vl vu l u s3.heap.objs.size Q I4 r1 (DA.new ..) pl pu q3;show dr (dq X.prog X.w) X.A (subscriptTail e (.Slice lo hi S p2) v<|.ref s3.heap.objs.size) (EP X cW U Q) X.xe { s3 with heap:=s3.heap.push { cls:=.type "slice",data:=.fields #[vl,vu,.none] } };exact tail_any (ops:=[.ref s3.heap.objs.size,v]) ht hT hg (by with_unfolding_all rfl)
def BA (xs:List V)(lo hi:Option Int):List V:=(xs.drop<|HT.sIx xs.length 0 lo).take<|HT.sIx xs.length xs.length hi-HT.sIx xs.length 0 lo
theorem X0 (xs:List V)(lo hi:Option Int):(BA xs lo hi).length<=xs.length:=by unfold BA;rw[Cb,ng];lia
def Fb (K:cX):R2:=λx y H Q=>∃a b xs ys,x=.ref a/\y=.ref b/\oP K H a xs/\oP K H b ys/\xs≠[]/\xs.length+ys.length<=sizeLine /\
 (ys=[]->Q (.ref a) H)/\(ys≠[]->∀p,H p=S->Q (.ref p) (upd H p<|.tup<|xs++ys))
theorem eh.nil_iff (r:eh xs us):us=[]↔xs=[]:=by
 cases r with
 |nil=>simp
 |cons _ _=>simp
theorem zq5:lI X (iu .Add) (Fb X.K):=by intro cW s U H x y v u Q I rx ry h;obtain⟨a,b,xs,ys,rfl,rfl,ha,hb,hx,hz,q1,q2⟩:=h;cases rx;cases ry;obtain⟨eG,r1,p1,_⟩:=I.tuple ha;obtain⟨D1,r2,p2,_⟩:=I.tuple hb;refine HT.cat_tup p1 p2 (λz=>hx<|r1.nil_iff.mp z) (λz=>⟨.ref a,H,I,rfl,q1<|r2.nil_iff.mp z⟩) (λz=>?_) (by rw[←r1.length,←r2.length];exact hz);refine⟨.ref s.heap.objs.size,_,I.laid (t':=s.toks) (o:=.tup<|xs++ys) (λb ob q=>c7 _ q) (dE _) ?_,rfl,q2 (λw=>z<|r2.nil_iff.mpr w) _<|I.hok.fresh<|dE _⟩;exact⟨by rw[d7];exact hz,_,r1.append r2,IsTup.new _ _⟩
end
noncomputable def ú (n:Nat)(i:Int):Option Nat:=if 0<=i then(if i<n then Z i.toNat else S)else if -(n:Int)<=i then Z (i+n).toNat else S
variable {α:Type}
def atI (xs:List α)(i:Int):Option α:=(ú xs.length i).bind λj=>xs[j]?
variable {j n:Nat}
theorem Sa {i:Int}(h:ú n i=Z j):seqIndex? i n=Z j/\j<n/\-(n:Int)<=i/\i<n:=by
 unfold ú at h;by_cases h0:0<=i
 ·rw[if_pos h0]at h;by_cases h1:i<n
  ·rw[if_pos h1]at h;have e:i.toNat=j:=Option.some.inj h;exact⟨by rw[vQ h0 h1,e],by lia,by lia,h1⟩
  ·rw[if_neg h1]at h;cases h
 ·rw[if_neg h0]at h;by_cases h1:-(n:Int)<=i
  ·rw[if_pos h1]at h;have e:(i+n).toNat=j:=Option.some.inj h;exact⟨by rw[uK (by lia) h1,e],by lia,h1,by lia⟩
  ·rw[if_neg h1]at h;cases h
theorem KY {xs:List α}{i:Int}{v:α}(h:atI xs i=Z v):∃j,seqIndex? i xs.length=Z j/\xs[j]?=Z v/\j<xs.length/\-(xs.length:Int)<=i/\i<xs.length:=by
 unfold atI at h;cases e:ú xs.length i with
 |none=>rw[e]at h;cases h
 |some j=>rw[e]at h;obtain⟨h1,h2,h3,h4⟩:=Sa e;exact⟨j,h1,h,h2,h3,h4⟩
theorem Sb {xs:List α}{v:α}(h:xs[j]?=Z v):atI xs (j:Int)=Z v:=by
 have hj:j<xs.length:=(ee.mp h).1;have e:ú xs.length (j:Int)=Z j:=by unfold ú;rw[if_pos<|by lia,if_pos<|by lia];simp
 unfold atI;rw[e];exact h
def qE (b:Expr):Prop:=∀o i,vR b Ã o i=operate [o,i] (uJ o i)
def Dg (X:Cx)(r:R2):Prop :=
 ∀(value slice:Expr) (cW:List<|cZ×gM) (s:de) (U:St) (H:Hp) (x y:V) (v u:cU) (Q:VK),Ç X cW U H s->Ì x v->Ì y u->r x y H Q ->
  vR slice Ã v u=operate [v,u] (uJ v u)->dr (dq X.prog X.w) X.A (subscriptTail value slice v u) (EP X cW U Q) X.xe s
def FB (X:Cx)(id:String)(r:V->List V->Hp->VK->Prop):Prop :=
 ∀(cW:List<|cZ×gM) (s:de) (U:St) (H:Hp) (x:V) (xs:List V) (v:cU) (us:List cU) (Q:VK),Ç X cW U H s->Ì x v->eh xs us->r x xs H Q ->
  dr (dq X.prog X.w) X.A (call (.builtin id) (v::us)) (EP X cW U Q) X.xe s
variable {H:Hp}{fG:my}{es:List Expr}{eG:List cU}{name:Str}{o:Expr}{cW:List (cZ×gM)}{r:R2}{s:de}{ta tb:TE}{u:cU}{y:V}{ys:List V}{U:St}
section
variable {a b:Expr}
theorem Dg.or {r':R2}(h:Dg X r)(h':Dg X r'):Dg X (λx y H Q=>r x y H Q\/r' x y H Q):=by
 intro value slice cW s U H x y v u Q I rx ry q hs;rcases q with q|q
 ·exact h value slice cW s U H x y v u Q I rx ry q hs
 ·exact h' value slice cW s U H x y v u Q I rx ry q hs
theorem Tn (hr:Dg X r)(ha:PE X a ta)(hb:PE X b tb)(hs:qE b):PE X (.Subscript a b pos) (KH r ta tb):=by intro cW s U H Q I h;exact Subscript_<|FI ha hb I h λv u s2 x y H2 I2 rx ry q=>hr a b cW s2 U H2 x y v u Q I2 rx ry q<|hs _ _
def Jf (K:cX):R2:=λx y H Q=>∃p xs i v,x=.ref p/\y=.int i/\i6 K H p xs/\atI xs i=Z v/\Q v H
def Jh (K:cX):R2:=λx y H Q=>∃p xs i v,x=.ref p/\y=.int i/\oP K H p xs/\atI xs i=Z v/\Q v H
def Jg:R2:=λx y H Q=>∃z i c,x=.str z/\y=.int i/\z.length<=sizeLine/\atI z.cps.toList i=Z c/\Q (.str ⟨#[c]⟩) H
theorem Se:Dg X (Jf X.K):=by
 intro value slice cW s U H x y v u Q I rx ry h hs;obtain⟨p,xs,i,z,rfl,rfl,hq,he,q⟩:=h;cases rx;obtain⟨t,rfl⟩:=ry;obtain⟨eG,r,pl,hz⟩:=I.list hq;obtain⟨j,h1,h2,h3,h4,h5⟩:=KY he;obtain⟨w,ew,uY⟩:=r.get h2;have hl:=r.length;have hn:=pR;have fin:EP X cW U Q w s:=⟨z,H,I,uY,q⟩;by_cases h0:0<=i
 ·have hj:i.toNat=j:=by rw[vQ h0 h5]at h1;exact Option.some.inj h1
  exact item_listR pl.isList h0 (by lia) (by rw[hj];simpa using ew) fin hs
 ·have hj:(i+(eG.toArray.size:Int)).toNat=j:=by rw[uK (by lia) h4]at h1;rw[dF,←hl];exact Option.some.inj h1
  exact subscriptTail_builtinR (x:=w) pl.isList.typeIs uL.lookup
   (wpAny_getItem_list_neg (Q:=λr s'=>r=w/\EP X cW U Q r s') pl.isList (by lia) (by rw[dF]<;>lia) (by lia) (by rw[hj];simpa using ew) ⟨rfl,fin⟩) hs
theorem ύ:Dg X (Jh X.K):=by
 intro value slice cW s U H x y v u Q I rx ry h hs;obtain⟨p,xs,i,z,rfl,rfl,hq,he,q⟩:=h;cases rx;obtain⟨t,rfl⟩:=ry;obtain⟨eG,r,pl,hz⟩:=I.tuple hq;obtain⟨j,h1,h2,h3,h4,h5⟩:=KY he;obtain⟨w,ew,uY⟩:=r.get h2;have hl:=r.length;have hn:=pR;have fin:EP X cW U Q w s:=⟨z,H,I,uY,q⟩;exact subscriptTail_builtinR (x:=w) pl.typeIs slot_tuple_getitem.lookup
  (getItem_tuple (j:=j) (Q:=λr s'=>r=w/\EP X cW U Q r s') pl (by lia) (by lia) (by rw[dF,←hl];exact h1) (by simpa using ew) ⟨rfl,fin⟩) hs
theorem Ax:Dg X Jg:=by
 intro value slice cW s U H x y v u Q I rx ry h hs;obtain⟨z,i,c,rfl,rfl,hz,he,q⟩:=h;obtain⟨t,rfl⟩:=rx;obtain⟨t',rfl⟩:=ry;obtain⟨j,h1,h2,h3,h4,h5⟩:=KY he;have hl:z.cps.toList.length=z.length:=by simp[Str.length]
 rw[hl]at h1 h4 h5;have hn:=pR;exact tail_any (typeIs_str s z t) slot_str_getitem.lookup (getItem_str (c:=c) (by have e1:decide (i < -(2 ^ 63:Int))=Ã:=decide_eq_false (by lia);have e2:decide (i >= 2 ^ 63)=Ã:=decide_eq_false (by lia);rw[e1,e2,vP]) (by rw[h1];simpa using h2) ⟨.str ⟨#[c]⟩,H,I.tok _,⟨_,rfl⟩,q⟩) hs
def Qg (K:cX):R2:=λx y H Q=>Jf K x y H Q\/Jh K x y H Q\/Jg x y H Q
theorem Ll:Dg X (Qg X.K):=Se.or<|ύ.or Ax
theorem Yn (eG:List cU)(n j:Nat)(u:cU):gM.mapSeq (·.setIfInBounds j u) { cls:=.type "list",data:=.seq eG.toArray n } = { cls:=.type "list",data:=.seq (eG.set j u).toArray n }:=by simp[gM.mapSeq]
theorem Ç.lst {p:cZ}(I:Ç X cW U H s)(h:H p=Z (.lst xs)) :
    ∃(eG:List cU) (n:Nat),eh xs eG/\s.heap.get? p=Z { cls:=.type "list",data:=.seq eG.toArray n }/\xs.length<=sizeLine:=by
  obtain⟨z,eG,n,r,e⟩:=I.hok p _ h;exact⟨eG,n,r,e,z⟩
theorem Ç.lstUpd {p:cZ}{its':List cU}{n':Nat}{f:gM->gM}(I:Ç X cW U H s)(h:H p=Z (.lst xs))
    (ho:s.heap.get? p=Z { cls:=.type "list",data:=.seq eG.toArray n }) (hf:f { cls:=.type "list",data:=.seq eG.toArray n } = { cls:=.type "list",data:=.seq its'.toArray n' }) (r:eh ys its') (hz:ys.length<=sizeLine) (t:Nat) :
    Ç X cW U (upd H p<|.lst ys) { s with heap:=s.heap.update p f,toks:=t }:=by
  have e:(s.heap.update p f).get? p=Z { cls:=.type "list",data:=.seq its'.toArray n' }:=by rw[fD f ho<|by rw[hf]<;>rfl,hf]
  refine I.write (x:=p) (e:=p) (by rw[h];trivial) (.inl rfl) (λb u hb q=>(fM _ _<|Ne.symm hb).trans q) ⟨_,e⟩ ?_;exact⟨hz,its',n',r,e⟩
def Jk:V->V->V->Hp->(Hp->Prop)->Prop:=λo i v H Q=>∃p xs k j,o=.ref p/\i=.int k/\H p=Z (.lst xs)/\ú xs.length k=Z j/\Q (upd H p<|.lst<|xs.set j v)
theorem KO:FE X Jk:=by
 intro cW s U H o i v ov iv u Q I ro ri rv h;obtain⟨p,xs,k,j,rfl,rfl,hp,hj,q⟩:=h;cases ro;obtain⟨t,rfl⟩:=ri;obtain⟨eG,n,r,ho,hz⟩:=I.lst hp;obtain⟨h1,h2,h3,h4⟩:=Sa hj;have hl:=r.length;have hn:=pR;have I':Ç X cW U (upd H p<|.lst<|xs.set j v) { s with heap:=s.heap.update p (gM.mapSeq (·.setIfInBounds j u)) } :=
  I.lstUpd hp ho (Yn eG n j u) (r.set rv j) (by rw[C8];exact hz) s.toks
 by_cases h0:0<=k
 ·have hk:k.toNat=j:=by rw[vQ h0 h4]at h1;exact Option.some.inj h1
  exact PySem.W.ki_setAt ho h0 (by lia) (by rw[dF,←hl];exact h4) (by rw[hk];exact⟨_,I',q⟩)
 ·have hk:(k+(eG.toArray.size:Int)).toNat=j:=by rw[uK (by lia) h3]at h1;rw[dF,←hl];exact Option.some.inj h1
  exact PySem.W.ki_setBack ho (by lia) (by rw[dF,←hl];exact h3) (by lia) (by rw[hk];exact⟨_,I',q⟩)
theorem WX (lo hi:Option Int)(n:Nat):(kW lo hi S n).1=((HT.sIx n 0 lo:Nat):Int)/\(kW lo hi S n).2.1=((HT.sIx n n hi:Nat):Int)/\(kW lo hi S n).2.2=1:=by
 refine⟨?_,?_,rfl⟩
 ·cases lo with
  |none=>simp[kW,HT.sIx]
  |some i=>
   simp only[kW,HT.sIx,Bo,show(1:Int) > 0 by decide,if_true];by_cases h:i<0
   ·simp only[h,if_true]<;>lia
   ·simp only[h,if_false]<;>lia
 ·cases hi with
  |none=>simp[kW,HT.sIx]
  |some i=>
   simp only[kW,HT.sIx,Bo,show(1:Int) > 0 by decide,if_true];by_cases h:i<0
   ·simp only[h,if_true]<;>lia
   ·simp only[h,if_false]<;>lia
theorem WO (eG:List cU)(lo hi:Option Int):slicePick eG.toArray lo hi S=((eG.drop<|HT.sIx eG.length 0 lo).take<|HT.sIx eG.length eG.length hi-HT.sIx eG.length 0 lo).toArray:=by obtain⟨h1,h2,h3⟩:=WX lo hi eG.toArray.size;unfold slicePick;rw[h1,h2,h3];simp only[sliceRange_one,pick_run,dF]<;>rfl
def NA (K:cX):V->Option Int->Option Int->Hp->VK->Prop:=λx lo hi H Q=>∃a xs,x=.ref a/\i6 K H a xs/\∀p,H p=S->Q (.ref p) (upd H p<|.lst<|BA xs lo hi)
theorem zq6:Pe X (NA X.K):=by intro cW s U H x v vl vu lo hi sl Q I rx hs pl pu h;obtain⟨a,xs,rfl,hx,q⟩:=h;cases rx;obtain⟨eG,r,ht,hz⟩:=I.list hx;have mF:=r.length;refine⟨"list",_,uL.lookup,ht.isList.typeIs,?_⟩;refine wpAny_getItem_list_slice ht.isList hs pl pu .none (by simp) ?_ (by rw[dF]<;>lia);rw[WO,←mF];refine⟨.ref s.heap.objs.size,_,I.laid (t':=s.toks) (o:=.lst<|BA xs lo hi) (λb ob q=>c7 _ q) (dE _) ?_,rfl,q _<|I.hok.fresh<|dE _⟩;exact⟨fk (X0 xs lo hi) hz,_,0,(r.drop<|HT.sIx xs.length 0 lo).take<|HT.sIx xs.length xs.length hi-HT.sIx xs.length 0 lo,dG _ rfl⟩
noncomputable def mS:V->Bool
 |.non=>Â
 |.bl _=>Â
 |.int _=>Â
 |.str _=>Â
 |_=>Ã
def BC:V->V->Bool
 |.non,.non=>Â
 |.bl a,.bl b=>a==b
 |.bl a,.int b=>(if a then 1 else 0)==b
 |.int a,.bl b=>a==(if b then 1 else 0)
 |.int a,.int b=>a==b
 |.str a,.str b=>a==b
 |_,_=>Ã
theorem ό {A:dO}{x:V}{v:cU}(ry:Ì y u)(rx:Ì x v)(fy:mS y=Â)(fx:mS x=Â):SeqAt.EqAt A s u v (BC y x):=by
 cases y with
 |non=>
  cases ry;cases x with
  |non=>cases rx;exact SeqAt.EqAt.same _
  |bl b=>cases rx;exact SeqAt.EqAt.none_bool b
  |int b=>obtain⟨t,rfl⟩:=rx;exact SeqAt.EqAt.none_int b t
  |str b=>obtain⟨t,rfl⟩:=rx;exact SeqAt.EqAt.none_str b t
  |_=>exact absurd (show Ã=Â from fx) di
 |bl a=>
  cases ry;cases x with
  |non=>cases rx;exact SeqAt.EqAt.bool_none a
  |bl b=>cases rx;exact SeqAt.EqAt.bool_bool a b
  |int b=>obtain⟨t,rfl⟩:=rx;exact SeqAt.EqAt.bool_int a b t
  |str b=>obtain⟨t,rfl⟩:=rx;exact SeqAt.EqAt.bool_str a b t
  |_=>exact absurd (show Ã=Â from fx) di
 |int a=>
  obtain⟨t',rfl⟩:=ry;cases x with
  |non=>cases rx;exact SeqAt.EqAt.int_none a t'
  |bl b=>cases rx;exact SeqAt.EqAt.int_bool a t' b
  |int b=>obtain⟨t,rfl⟩:=rx;exact SeqAt.EqAt.int_int a t' b t
  |str b=>obtain⟨t,rfl⟩:=rx;exact SeqAt.EqAt.int_str a t' b t
  |_=>exact absurd (show Ã=Â from fx) di
 |str a=>
  obtain⟨t',rfl⟩:=ry;cases x with
  |non=>cases rx;exact SeqAt.EqAt.str_none a t'
  |bl b=>cases rx;exact SeqAt.EqAt.str_bool a t' b
  |int b=>obtain⟨t,rfl⟩:=rx;exact SeqAt.EqAt.str_int a t' b t
  |str b=>obtain⟨t,rfl⟩:=rx;exact SeqAt.EqAt.str_str a t' b t
  |_=>exact absurd (show Ã=Â from fx) di
 |_=>exact absurd (show Ã=Â from fy) di
def xJ (x:V)(u:cU):Bool:=match u with
 |.none=>BC .non x
 |.bool b=>BC (.bl b) x
 |.int i _=>BC (.int i) x
 |.str z _=>BC (.str z) x
 |_=>Ã
theorem OR {x:V}(r:Ì y u)(f:mS y=Â):xJ x u=BC y x:=by
 cases y with
 |non=>cases r;rfl
 |bl b=>cases r;rfl
 |int i=>obtain⟨t,rfl⟩:=r;rfl
 |str z=>obtain⟨t,rfl⟩:=r;rfl
 |_=>exact absurd (show Ã=Â from f) di
theorem JC {x:V}:∀{xs:List V} {us:List cU},eh xs us->xs.all mS=Â->us.any (xJ x)=xs.any λy=>BC y x
 |_,_,.nil,_=>rfl
 |y::xs,u::us,.cons r t,f=>by rw[hG,dP]at f;rw[iZ,iZ,OR r f.1,JC t f.2]
theorem u6 {A:dO}{s:de}{x:V}{v:cU}(rx:Ì x v)(fx:mS x=Â):∀{xs:List V} {us:List cU},eh xs us->xs.all mS=Â->∀u∈us,SeqAt.EqAt A s u v (xJ x u)
 |_,_,.nil,_=>λu hu=>by cases hu
 |y::xs,u::us,.cons r t,f=>λu' hu=>by
  rw[hG,dP]at f;rcases dn.mp hu with rfl|hu
  ·rw[OR r f.1];exact ό r rx f.1 fx
  ·exact u6 rx fx t f.2 u' hu
def Kt (x:V)(xs:List V):Bool:=xs.any λy=>BC y x
def Nz (K:cX)(neg:Bool):R2:=λx y H Q=>∃p xs,y=.ref p/\(i6 K H p xs\/oP K H p xs)/\mS x=Â/\xs.all mS=Â/\Q (.bl<|if neg then !Kt x xs else Kt x xs) H
theorem YW:lI X (e9 .In) (Nz X.K Ã):=by
 intro cW s U H x y v u Q I rx ry h;obtain⟨p,xs,rfl,hq,fx,fs,q⟩:=h;cases ry;rcases hq with hq|hq
 ·obtain⟨eG,r,pl,hz⟩:=I.list hq;refine SeqAt.in_listAt (xJ x) pl.isList (λw hw=>u6 rx fx r fs w<|by simpa using hw) ⟨.bl _,H,I,rfl,?_⟩;rw[show eG.toArray.any (xJ x)=eG.any (xJ x)by simp,JC r fs];exact q
 ·obtain⟨eG,r,pl,hz⟩:=I.tuple hq;refine SeqAt.in_tupleAt (xJ x) pl (λw hw=>u6 rx fx r fs w<|by simpa using hw) ⟨.bl _,H,I,rfl,?_⟩;rw[show eG.toArray.any (xJ x)=eG.any (xJ x)by simp,JC r fs];exact q
theorem wb:lI X (e9 .NotIn) (Nz X.K Â):=by
 intro cW s U H x y v u Q I rx ry h;obtain⟨p,xs,rfl,hq,fx,fs,q⟩:=h;cases ry;rcases hq with hq|hq
 ·obtain⟨eG,r,pl,hz⟩:=I.list hq;refine SeqAt.notIn_listAt (xJ x) pl.isList (λw hw=>u6 rx fx r fs w<|by simpa using hw) ⟨.bl _,H,I,rfl,?_⟩;rw[show eG.toArray.any (xJ x)=eG.any (xJ x)by simp,JC r fs];exact q
 ·obtain⟨eG,r,pl,hz⟩:=I.tuple hq;refine SeqAt.notIn_tupleAt (xJ x) pl (λw hw=>u6 rx fx r fs w<|by simpa using hw) ⟨.bl _,H,I,rfl,?_⟩;rw[show eG.toArray.any (xJ x)=eG.any (xJ x)by simp,JC r fs];exact q
theorem WY:iL X (.builtin "len") (λxs H Q=>∃p ys,xs=[.ref p]/\(i6 X.K H p ys\/oP X.K H p ys)/\Q (.int ys.length) H):=by
 intro cW s U H xs us Q I r h;obtain⟨p,ys,rfl,hq,q⟩:=h;obtain⟨u,rfl,rx⟩:=sA r;cases rx;have hn:=pR;rcases hq with hq|hq
 ·obtain⟨eG,r',pl,hz⟩:=I.list hq;have mF:=r'.length;exact Calls.call_len_list pl.isList (by simp only[dF]<;>lia) ⟨.int ys.length,H,I.tok _,⟨s.toks+1,by rw[dF,mF]⟩,q⟩
 ·obtain⟨eG,r',pl,hz⟩:=I.tuple hq;have mF:=r'.length;exact len_tuple pl (by simp only[dF]<;>lia) ⟨.int ys.length,H,I.tok _,⟨s.toks+1,by rw[dF,mF]⟩,q⟩
theorem WZ:iL X (.builtin "len") (λxs H Q=>∃z,xs=[.str z]/\z.length<=sizeLine/\Q (.int z.length) H):=by intro cW s U H xs us Q I r h;obtain⟨z,rfl,hz,q⟩:=h;obtain⟨u,rfl,t,rfl⟩:=sA r;have hn:=pR;exact len_str (by lia) ⟨.int z.length,H,I.tok _,⟨_,rfl⟩,q⟩
theorem iL.or {f:cU}{r r':List V->Hp->VK->Prop}(h:iL X f r)(h':iL X f r'):iL X f (λxs H Q=>r xs H Q\/r' xs H Q):=by
 intro cW s U H xs us Q I rs q;rcases q with q|q
 ·exact h cW s U H xs us Q I rs q
 ·exact h' cW s U H xs us Q I rs q
theorem wc:iL X (.type "list") (λxs H Q=>∃p ys,xs=[.ref p]/\(i6 X.K H p ys\/oP X.K H p ys)/\∀l,H l=S->Q (.ref l) (upd H l<|.lst ys)):=by
  intro cW s U H xs us Q I r h;obtain⟨p,ys,rfl,hq,q⟩:=h;obtain⟨u,rfl,rx⟩:=sA r;cases rx;have fin:∀(eG:List cU),eh ys eG->ys.length<=sizeLine->∀(h':dz) (c':Nat),(∀b o',s.heap.get? b=Z o'->h'.get? b=Z o') ->
      h'.get? s.heap.objs.size=Z { cls:=.type "list",dict:=none,data:=.seq eG.toArray c',slots:=#[] }->EP X cW U Q (.ref s.heap.objs.size) { s with heap:=h' }:=λeG r' hz h' c' kp e=>
    ⟨.ref s.heap.objs.size,_,I.laid (t':=s.toks) kp (dE _) (show il X.prog X.w _ h' _ (.lst ys)from⟨hz,eG,c',r',e⟩),rfl,q _<|I.hok.fresh<|dE _⟩
  rcases hq with hq|hq
  · obtain⟨eG,r',pl,hz⟩:=I.list hq;have mF:=r'.length;obtain⟨o,ho,hc,n,hd⟩:=pl.isList;exact call_list_seq p (.inl rfl) ho hc hd (λh' c' kp e=>fin eG r' hz h' c' kp e) (by simp only[dF]<;>lia)
  · obtain⟨eG,r',pl,hz⟩:=I.tuple hq;have mF:=r'.length;obtain⟨o,ho,hc,n,hd⟩:=pl;exact call_list_seq p (.inr rfl) ho hc hd (λh' c' kp e=>fin eG r' hz h' c' kp e) (by simp only[dF]<;>lia)
def Qp (K:cX)(T:String)(x:V)(H:Hp):Prop:=match x with
 |.str _=>T = "str"
 |.int _=>T = "int"
 |.ref p=>(T = "list"/\∃xs,i6 K H p xs)\/(T = "tuple"/\∃o,K.lookup p=Z o/\o.cls=.type "tuple"/\o.dict=S) \/
   (T = "dict"/\((∃fF,H p=Z (.dK fF))\/∃fF,H p=Z (.dT fF)))\/(T = "set"/\∃S' n,H p=Z (.set S' n))
 |_=>False
theorem ϋ {T:String}{x:V}{v:cU}(I:Ç X cW U H s)(r:Ì x v)(ty:Qp X.K T x H) :
  s.TypeIs v T/\∀a,v=.ref a->∃ob,s.heap.get? a=Z ob/\ob.dict=S:=by
 cases x with
 |str z=>obtain⟨t,rfl⟩:=r;cases(show T = "str" from ty);exact⟨typeIs_str s z t,λ_ e=>nomatch e⟩
 |int i=>obtain⟨t,rfl⟩:=r;cases(show T = "int" from ty);exact⟨EG s i t,λ_ e=>nomatch e⟩
 |ref p=>
  cases r;rcases ty with⟨rfl,xs,hq⟩|⟨rfl,o,hk,hc,hd⟩|⟨rfl,hk⟩|⟨rfl,S',n,hk⟩
  ·obtain⟨eG,_,pl,_⟩:=I.list hq;refine⟨pl.isList.typeIs,λa e=>?_⟩;cases e;obtain⟨o,n,e,c,hd,_⟩:=pl;exact⟨o,e,hd⟩
  ·refine⟨⟨o,I.kIn p o hk,hc⟩,λa e=>?_⟩;cases e;exact⟨o,I.kIn _ o hk,hd⟩
  ·have z:∃o,s.heap.get? p=Z o/\o.ExactDict:=by
    rcases hk with⟨fF,hk⟩|⟨fF,hk⟩
    ·obtain⟨_,_,_,_,o,_,_,e,ex,_⟩:=I.hok p _ hk;exact⟨o,e,ex⟩
    ·obtain⟨_,_,_,_,o,_,_,e,ex,_⟩:=I.hok p _ hk;exact⟨o,e,ex⟩
   obtain⟨o,e,ex⟩:=z;refine⟨⟨o,e,ex.1⟩,λa e2=>?_⟩;cases e2;exact⟨o,e,ex.2.1⟩
  ·obtain⟨o,_,_,_,e,ex,_⟩:=I.hok p _ hk;refine⟨⟨o,e,ex.1⟩,λa e2=>?_⟩;cases e2;exact⟨o,e,ex.2.1⟩
 |_=>exact False.elim ty
def VT (K:cX)(T:String)(r:V->List V->Hp->VK->Prop)(to:TE)(t:TA):TE:=λU H Q=>to U H λx H1=>Qp K T x H1/\t U H1 λxs H2=>r x xs H2 Q
variable {to:TE}{t:TA}{fP:my}{T id:String}{r:V->List V->Hp->VK->Prop}
theorem Fv (pa:PlainAttrs T)(slot:Slot T name id)(Vg:typeOf (.builtin id)=pure (.type "method_descriptor"))(hm:FB X id r)(ho:PE X o to)(ha:PA X (e::es) t)
  (lr:Af X o name:=by rfl)
  (oq:DD X fP (e::es):=by rfl)
  (lz:(fG.endLine==fP.line)=Â:=by rfl) (hs:SE X e es:=by rfl) (jG:lV X fP es:=by rfl) :
  PE X (.Call (.Attribute o name fG) (e::es) [] fP) (VT X.K T r to t):=by
 intro cW s U H Q I h;refine wpAny_Call_method_late lr oq lz rfl<|gb (ho cW s U H _ I h) λv s1 gP=>?_;obtain⟨x,H1,I1,r1,ty,q1⟩:=gP;obtain⟨h1,h2⟩:=ϋ I1 r1 ty;refine⟨T,id,pa,slot,Vg,h1,h2,?_⟩;have hA:=ha fP cW s1 U H1 _ I1 q1;rw[hs]at hA ⊢;refine Calls.callWith_builtin (by show(Ã || (gR fP<|dM es X.env).any (·.1))=Ã;rw[jG]<;>rfl)<|Calls.evalArgs_plain ?_;exact gb hA λus s2 ⟨vs,H2,I2,r2,q2⟩=>hm cW s2 U H2 x vs v us Q I2 r1 r2 q2
end
def TY (X:Cx)(id:String)(r:V->List V->Hp->VK->Prop):Prop :=
 ∀(cW:List<|cZ×gM) (s:de) (U:St) (H:Hp) (x:V) (xs:List V) (v:cU) (us:List cU) (Q:VK),Ç X cW U H s->Ì x v->eh xs us->r x xs H Q ->
  dr (dq X.prog X.w) X.A (call (.builtin id) (v::us)) (EP X cW U Q) X.xe s
theorem eh.one:∀{x:V} {us:List cU},eh [x] us->∃u,us=[u]/\Ì x u
 |_,_,.cons r .nil=>⟨_,rfl,r⟩
theorem eh.rep {xs:List V}{us:List cU}(h:eh xs us):∀k:Nat,eh (dg k xs).flatten (dg k us).flatten
 |0=>.nil
 |k+1=>by rw[fQ,fQ,jB,jB];exact eh.append h<|eh.rep h k
theorem Û (eG:List cU):∀(k:Nat) (kD:List cU),
  Bm (λx1 x2=>x1++x2) kD.toArray (dg k eG.toArray)=(kD++(dg k eG).flatten).toArray
 |0,kD=>by simp
 |k+1,kD=>by
  have e:kD.toArray++eG.toArray=(kD++eG).toArray:=by simp
  have e2:(kD++eG)++(dg k eG).flatten=kD++(dg (k+1) eG).flatten:=by rw[fQ,jB,kQ]
  rw[←e2,←Û eG k<|kD++eG,←e,fQ,C6]
variable {b:cZ}{t':Nat}
section
variable {l:cZ}{zs:List V}
theorem Ç.lset {its':List cU}{f:Array cU->Array cU}(I:Ç X cW U H s)(hH:H l=Z (.lst xs))
    (e:s.heap.get? l=Z { cls:=.type "list",data:=.seq eG.toArray n }) (hf:f eG.toArray=its'.toArray) (hv:eh ys its') (hz:ys.length<=sizeLine) :
    Ç X cW U (upd H l<|.lst ys) { s with heap:=s.heap.update l (gM.mapSeq f),toks:=t' }:=by
  have q:=PySem.IsL.update e f;rw[hf]at q;refine I.write (x:=l) (e:=l) (by rw[hH];exact trivial) (.inl rfl) (λb' u hb hu=>(fM s.heap (gM.mapSeq f)<|Ne.symm hb).trans hu) ⟨_,q⟩ ?_;exact⟨hz,its',_,hv,q⟩
theorem Ç.lnew (I:Ç X cW U H s)(hv:eh ys eG)(hz:ys.length<=sizeLine) :
    Ç X cW U (upd H s.heap.objs.size<|.lst ys) { s with heap:=s.heap.push { cls:=.type "list",data:=.seq eG.toArray },toks:=t' } :=
  I.laid (λ_ _ q=>c7 _ q) (dE _) ⟨hz,eG,0,hv,dG _ rfl⟩
theorem Ç.fresh (I:Ç X cW U H s):H s.heap.objs.size=S:=I.hok.fresh<|dE _
theorem Ç.lstM (I:Ç X cW U H s)(hH:H l=Z (.lst xs)):xs.length<=sizeLine/\∃(eG:List cU) (n:Nat),eh xs eG/\xs.length=eG.length/\s.heap.get? l=Z { cls:=.type "list",data:=.seq eG.toArray n }:=by obtain⟨z,eG,n,r,e⟩:=I.hok l _ hH;exact⟨z,eG,n,r,r.length,e⟩
theorem CM (h:n<=sizeLine):Builtin.List.listTooLong n=Ã:=by unfold Builtin.List.listTooLong;exact decide_eq_false (by lia)
end
def Ea:V->List V->Hp->VK->Prop:=λx vs H Q=>∃l xs y,x=.ref l/\vs=[y]/\H l=Z (.lst xs)/\xs.length<sizeLine/\Q .non (upd H l<|.lst<|xs++[y])
theorem N7:TY X "list.append" Ea:=by intro cW s U H x vs v us Q I rx rv h;obtain⟨l,xs,y,rfl,rfl,hH,hz,q⟩:=h;cases rx;obtain⟨u,rfl,ru⟩:=rv.one;obtain⟨z,eG,n,r,hl,e⟩:=I.lstM hH;refine m7 F.slot_list_append ⟨_,e,rfl⟩ F.entry_list_append (F.args_list_append_2 _ _) (PySem.list_append l eG.toArray n u<|by rw[dF];lia) ⟨e,?_⟩;refine⟨.non,_,I.lset (its':=eG++[u]) hH e (by simp) (r.append<|.cons ru .nil) ?_,rfl,q⟩;rw[d7,yY];lia
theorem zq7 (xs:List α)(k:Nat):(dg k xs).flatten.length=k*xs.length:=by
 induction k with
 |zero=>simp
 |succ k ih=>rw[fQ,jB,d7,ih,zJ,Nat.add_comm]
variable {E:cU->de->Prop}
end L2
namespace Att
open PySem PySem.W PySem.Calls PyProof.Rows
theorem Wo {P:Params}{h:dz}:∀(ns:List Int) (vs:List cU),WellAll P h vs (ns.map WData.int)->IntsAre vs ns:=by
 intro ns;induction ns with
 |nil=>intro vs w;rw[nQ]at w;cases w;exact .nil
 |cons n ns ih=>
  intro vs w;rw[dJ]at w;cases w with
  |cons a b=>cases a;exact .cons _ _<|ih _ b
theorem YX {l:OpenLaw}{n:Nat}(hn:l.most=Z n){P:Params}{h:dz}{args:List WData}{vals:List cU}
    (DY:l.row.toRowW.claim.pre args=Â) (MV:WellAll P h vals args) :
    ∃a vs ns,vals=[cU.ref a]/\args=[WData.list<|ns.map WData.int]/\h.get? a=Z { cls:=.type "list",data:=.seq vs.toArray }/\IntsAre vs ns/\ns.length<=n:=by
  have Vd:WShape.hasAll [] args [.list .int]=Â:=(pre_splitW DY).1;have hc:l.pre.holds [] { args:=args }=Â:=(pre_splitW DY).2;obtain⟨d,r,rfl,h1,h2⟩:=hasAllW_cons Vd;obtain rfl:=hasAllW_nil h2;obtain⟨xs,rfl,h3⟩:=hasW_list h1;obtain⟨ns,rfl⟩:=items_int h3;have mF:ns.length<=n:=by
    unfold OpenLaw.pre at hc;have h4:(WTm.not<|.lt (.lit<|.int n)<|.len<|.arg 0).holds [] { args:=[.list<|ns.map .int] }=Â:=by have h4:=(holds_andW hc).1;rw[hn]at h4;exact h4
    have h5:=condW_of h4<|w_not<|w_lt w_lit<|w_len_list<|w_arg rfl;rw[dY]at h5;refine Nat.le_of_not_lt λq=>?_;have q':(n:Int)<((ns.length:Nat):Int):=by lia
    first
      |(rw[decide_eq_true q']at h5;exact absurd h5 (by decide))
      |(simp at h5;lia)
  cases MV with
  |cons w1 w2=>
    cases w2;cases w1 with
    |list ho Mp=>exact⟨_,_,ns,rfl,rfl,ho,Wo ns _ Mp,mF⟩
theorem YY (l:OpenLaw)(args:List WData):l.row.toRowW.claim.post args (.bool Â) args=Â :=
  postW_of (r:=l.row.toRowW) (X:=(Â==Â))
    (show WShape.has [] (.bool Â) .bool=Â by first|rfl|decide|simp[WShape.has,WShape.arms,WShape.armsAll])
    (show(WTm.eq .res<|.lit<|.bool Â).value [] { args:=args,res:=some (.bool Â),after:=args }=Z (.bool<|Â==Â)from w_eq_bool (w_res rfl) w_lit) rfl
theorem attach_call {l:OpenLaw}{n:Nat}{q:eI}{loose:List Str}{XP:(Str->Option cU)->dz->Prop}{YP:d5->dz->Prop}{d:DefRec}
    (hn:l.most=Z n) (Ij:d.params.defaults=[])
    (call:∀(w:d5) (s₀ s₁:de) (mg mb:Str->Option cU) (fa:cZ) (o:gM) (pm cd doc:cU) (a:cZ) (vs:List cU) (ns:List Int),
      Ground q loose [] XP w s₀ mg mb s₁.heap->YP w s₁.heap ->
      s₁.heap.get? fa=Z o->o.data=.func (docDef d.name d.params d.body d.scope pm cd doc)->s₁.heap.CodeRec cd d.name->mg d.name=Z (.ref fa) ->
      s₁.heap.get? a=Z { cls:=.type "list",data:=.seq vs.toArray }->IntsAre vs ns->ns.length<=n->s₁.gens = #[] ->
      jC (dq l.prog w) uI (.call (.ref fa) ⟨[.ref a],[]⟩) (λr s'=>r=.ok (.ret<|.bool Â)/\OldK s₁.heap s'.heap/\s'.os=s₁.os/\AllBare s'.gens) s₁) :
    WalkO q loose XP YP l.row.toRowW d [] (λf vs=>PySem.call f vs):=by
  intro w s₀ s₁ mg mb W' Y' fa o pm cd doc dV kV ho hd iY hD hmg hg args vals as DY U8 hrd MV hlo;obtain rfl:dV=.none:=Dflts.none hD Ij;obtain rfl:kV=.none:=Dflts.noKw hD;obtain⟨a,vs,ns,rfl,rfl,FQ,Cy,mF⟩:=YX hn DY MV;refine enter_call<|ig (call w s₀ s₁ mg mb fa o pm cd doc a vs ns W' Y' ho (fd_plain hd) iY hmg FQ Cy mF hg) λr s' hq=>?_;obtain⟨rfl,h2,h3,h4⟩:=hq;exact⟨.inl ⟨.bool Â,.bool Â,[],rfl,λ_=>rfl,.bool Â,YY l _,λ_=>⟨EA.nil,λ_ hm=>(nomatch hm)⟩⟩,h2,h3,h4⟩
end Att
namespace L2
open PySem PySem.Spec PyProof.Rows
theorem N8:∀{vs:List cU} {ns:List Int},IntsAre vs ns->eh (ns.map V.int) vs
 |_,_,.nil=>.nil
 |_,_,.cons n t h=>.cons ⟨t,rfl⟩<|N8 h
def FC (H:Hp):Prop:=∀b,H b=S\/∃o xs,H b=Z (.frz o<|.lst xs)
variable {CX:Df}{P:eI}{a:cZ}{fd:c9}{x:Str}
theorem ZL {w:d5}{K:cX}{mg mb:Str->Option cU}{k:Nat}{fa:cZ}{sp:Sp}{s₁:de}{vs:List cU}{ns:List Int}
    (KX:K.In s₁.heap) (xL:s₁.heap.Ns eQ mg) (hb:s₁.heap.Ns ED mb) (Ke:∀x:Str,x≠"__name__"->mb x=eM x) (MJ:s₁.heap.NoLimit) (hg:s₁.gens = #[])
    (ha:s₁.heap.get? a=Z { cls:=.type "list",data:=.seq vs.toArray }) (hi:IntsAre vs ns) (hl:ns.length<=sizeLine) (hr:fw k uI)
    (F:∀base:dz,K.In base->base.Ns eQ mg->dR P w K mg base CX k fa fd [x] sp) (Ie:∀(s:de) (u:cU),rp s fd ⟨[u],[]⟩ [(x,u)])
    (CD:∀H:Hp,FC H->i6 K H a (ns.map V.int)->sp [.ref a] H (λv _=>v=.bl Â) λ_ _ _=>False)
    (Mh:∀H e s',CX [] H s₁ (λ_ _ _=>False) e s'->False) :
    jC (dq P w) uI (.call (.ref fa) ⟨[.ref a],[]⟩) (λr s'=>r=.ok (.ret<|.bool Â)/\OldK s₁.heap s'.heap/\s'.os=s₁.os/\AllBare s'.gens) s₁:=by
  have rv:=N8 hi;have Nb:=hi.length;have core:∀H:Hp,FC H->i6 K H a (ns.map V.int)->pL P w H s₁.heap->(∀b,H b≠S->b=a)->(H a≠S->K.lookup a=S) ->
      jC (dq P w) uI (.call (.ref fa) ⟨[.ref a],[]⟩) (λr s'=>r=.ok (.ret<|.bool Â)/\OldK s₁.heap s'.heap/\s'.os=s₁.os/\AllBare s'.gens) s₁:=by
    intro H hO hS hok hA hK;have AR:∀{b:cZ} {o:gM},s₁.heap.get? b=Z o->H b=S->(wJ s₁.heap H).get? b=Z o:=λe n=>ZD e n;have IW:∀{b:cZ} {o:gM} {es:Array DictEntry} {ep:Nat},s₁.heap.get? b=Z o->o.data=.dict es ep->H b=S:=λ{b o es ep} e d=>by
      cases q:H b with
      |none=>rfl
      |some u=>have e':b=a:=hA b (by rw[q];simp);subst e';rw[ha]at e;cases e;have d':pj.seq vs.toArray _=pj.dict es ep:=d;cases d'
    have Kx:∀{b:cZ} {m:Str->Option cU},s₁.heap.Ns b m->(wJ s₁.heap H).Ns b m:=λ{b m} ⟨o,es,ep,e,d,r⟩=>⟨o,es,ep,AR e<|IW e d,d,r⟩;have Ps:K.In (wJ s₁.heap H):=λb o e=>AR (KX b o e) (by
      cases q:H b with
      |none=>rfl
      |some u=>have e':b=a:=hA b (by rw[q];simp);subst e';rw[hK<|by rw[q];simp]at e;cases e)
    have hM:Mod K mg (wJ s₁.heap H):=⟨Ps,Kx xL,⟨mb,Kx hb,Ke⟩,let⟨mc,h1,h2⟩:=MJ;⟨mc,Kx h1,h2⟩⟩;have e0:vS P w K mg (wJ s₁.heap H) uI [] s₁ H:=⟨rfl,hM,λb o e=>zqq e,yZ<|YO _ _,trivial,λb hb=>absurd (show b∈([]:List cZ)from hb)<|by simp,hok,.of_eq hg⟩;refine ig ((F _ Ps<|Kx xL).run uI [] s₁ H ⟨[.ref a],[]⟩ [.ref a] [.ref a] _ _ hr e0 (Ie s₁<|.ref a) (.cons rfl .nil)<|CD H hO hS) λr s' h=>?_;cases r with
    |error e=>exact(Mh H e s' h).elim
    |ok fl=>
      cases fl with
      |next=>exact False.elim h
      |brk=>exact False.elim h
      |cont=>exact False.elim h
      |ret u=>
        obtain⟨v,G,os,bare,un,MO,r',q⟩:=h;have q':v=.bl Â:=q;subst q';obtain rfl:u=cU.bool Â:=r';refine⟨rfl,OldK.of_keep λb o e=>?_,os,bare⟩;cases q:H b with
        |none=>exact un.keep b o e q (by intro z;exact absurd (show b∈([]:List cZ)from z) (by simp)) (by simp)
        |some u=>
          rcases hO b with z|⟨ob,xs,z⟩
          · rw[q]at z;cases z
          · have z2:=un.frzs b ob _ z;obtain⟨e1,_⟩:=hok b _ z;obtain⟨e2,_⟩:=MO b _ z2;rw[e]at e1;cases e1;exact e2
  cases hk:K.lookup a with
  |some o=>have e:=KX a o hk;rw[ha]at e;cases e;refine core (λ_=>S) (λ_=>.inl rfl) (.inr ⟨_,vs.toArray,_,hk,rfl,rfl,rfl,by rw[dF,Nb];exact hl,by simpa using rv⟩) (λb u z=>by have z':(S:Option HO)=Z u:=z;cases z') (λb z=>absurd rfl z) λz=>absurd rfl z
  |none=>
    refine core (λb=>if b=a then Z (.frz { cls:=.type "list",data:=.seq vs.toArray } (.lst<|ns.map V.int))else S) (λb=>?_) (.inl<|.inr ⟨{ cls:=.type "list",data:=.seq vs.toArray },if_pos rfl⟩) (λb u z=>?_) (λb z=>?_) λ_=>hk
    · by_cases hb:b=a
      · exact .inr ⟨_,_,if_pos hb⟩
      · exact .inl<|if_neg hb
    · by_cases hb:b=a
      · have z':=(if_pos hb).symm.trans z;cases z';subst hb;exact⟨ha,by rw[dY];exact hl,vs,_,rv,ha⟩
      · have z':=(if_neg hb).symm.trans z;cases z'
    · by_cases hb:b=a
      · exact hb
      · exact absurd (if_neg hb) z
variable {n:Nat}
theorem ý {l:rS}{k:Nat}{q:eI}{loose:List Str}{XP:(Str->Option cU)->dz->Prop}{YP:d5->dz->Prop}{d:DefRec}{K:Params->cX}{CX:d5->Df}{sp:d5->Sp}
  (hn:l.most=Z n) (Dr:n<=sizeLine) (Ij:d.params.defaults=[]) (hr:fw k uI)
  (hY:∀(w:d5) (h:dz),YP w h->(K w.params).In h)
  (F:∀(w:d5) (mg:Str->Option cU) (fa:cZ) (h:dz),(K w.params).In h->h.Ns eQ mg->mg d.name=Z (.ref fa) ->
   ∃fd:c9,(∀(s:de) (u:cU),rp s fd ⟨[u],[]⟩ [(x,u)]) /\
    ∀base:dz,(K w.params).In base->base.Ns eQ mg->dR l.prog w (K w.params) mg base (CX w) k fa fd [x] (sp w))
  (CD:∀(w:d5) (H:Hp) (a:cZ) (ns:List Int),ns.length<=n->FC H->i6 (K w.params) H a (ns.map V.int)->sp w [.ref a] H (λv _=>v=.bl Â) λ_ _ _=>False)
  (Mh:∀(w:d5) (H:Hp) (s:de) (e:cU) (s':de),CX w [] H s (λ_ _ _=>False) e s'->False) :
  Ce q loose XP YP l.row.toRowW d [] (λf vs=>PySem.call f vs):=by
 refine Att.attach_call hn Ij λw s₀ s₁ mg mb fa o pm cd doc a vs ns W' Y' ho hd iY hmg FQ Cy mF hg=>?_;have KX:=hY w _ Y';obtain⟨fd,hb,hF⟩:=F w mg fa _ KX W'.T.g hmg;exact ZL KX W'.T.g W'.T.b W'.T.builtins W'.T.nolimit hg FQ Cy (fk mF Dr) hr hF hb (λH hO hS=>CD w H a ns mF hO hS) λH e s'=>Mh w H s₁ e s'
noncomputable def Ï (s:et)(j:Nat):et:=match s with
 |.ClassDef _ _ _ body _ _ _ _ _ _ _=>body.getD j<|.Pass ⟨0,0,0,0⟩
 |_=>.Pass ⟨0,0,0,0⟩
noncomputable def lP (s:et):Arguments:=match s with
  |.FunctionDef _ a _ _ _ _ _ _ _ _=>a
  |_=>{ posonlyargs:=[],args:=[],vararg:=none,kwonlyargs:=[],kw_defaults:=[],kwarg:=none,defaults:=[] }
def gz (s:et):List et:=match s with
 |.FunctionDef _ _ b _ _ _ _ _ _ _=>b
 |_=>[]
def dH (s:et):pI:=match s with
  |.FunctionDef _ _ _ _ _ _ sc _ _ _=>sc
  |_=>{ kind:=.function,names:=[],isGenerator:=false,isCoroutine:=false }
abbrev fL:Df:=λ_ _ _ _ _ _=>False
abbrev E0:XK:=λ_ _ _=>False
variable {X:Cx}
theorem oF:lJ fL X E0:=λ_ _ _ _ _ _ _ h=>h.elim
theorem j0 {A:dO}{k:Nat}(hr:fw k A):A.units+1<i8:=BY (Nat.add_le_add_left (by decide:1<=64) _) hr.units
theorem BU (h:n<=1000):n<sizeLine:=BY h (by decide)
def d9 (H G:Hp):Prop:=∀b o,H b=Z o->G b=Z o
theorem d9.refl (H:Hp):d9 H H:=λ_ _ h=>h
variable {H:Hp}
theorem d9.trans {H1 H2:Hp}(a:d9 H H1)(b:d9 H1 H2):d9 H H2:=λc o h=>b c o<|a c o h
variable {G:Hp}
theorem d9.free (e:d9 H G){l:cZ}(h:G l=Option.none):H l=Option.none:=by
 cases q:H l with
 |none=>rfl
 |some o=>rw[e l o q]at h;cases h
variable {xs:List V}
theorem d9.seq {K:cX}(e:d9 H G)(h:i6 K H a xs):i6 K G a xs:=by
 rcases h with(h|⟨o,h⟩)|h
 ·exact .inl<|.inl<|e _ _ h
 ·exact .inl<|.inr ⟨o,e _ _ h⟩
 ·exact .inr h
noncomputable def FG (a C:cZ)(dx tb:Option cZ)(h:dz):Prop :=
  ∃a0,h.get? a=Z { cls:=.ref C,dict:=dx,data:=.fields #[a0,tb.elim cU.none .ref,.none,.none,.bool Ã,.none] }
noncomputable def HN (T:cZ)(h:dz):Prop:=∃ts,h.get? T=Z { cls:=.type "traceback",data:=.fields ts }/\ts[3]?=Z .none
variable {C:cZ}{dx:Option cZ}{h h':dz}
theorem FG.stay {tb:Option cZ}(x:FG a C dx tb h)(k:∀o,h.get? a=Z o->h'.get? a=Z o):FG a C dx tb h' :=
 let⟨a0,e⟩:=x;⟨a0,k _ e⟩
variable {T:cZ}
theorem HN.stay (x:HN T h)(k:∀o,h.get? T=Z o->h'.get? T=Z o):HN T h' :=
 let⟨ts,e,q⟩:=x;⟨ts,k _ e,q⟩
abbrev nN (a C:cZ)(dx tb:Option cZ):HO:=.ext<|FG a C dx tb
abbrev Ql (T:cZ):HO:=.ext<|HN T
def zR (H:Hp)(a C:cZ)(dx tb:Option cZ):Prop:=H a=Z (nN a C dx tb)/\∀T,tb=Z T->H T=Z (Ql T)/\T≠a
def iO (H:Hp)(a C:cZ)(dx:Option cZ)(T:cZ):Hp:=upd (upd H T<|Ql T) a<|nN a C dx<|Z T
theorem OA {tb:Option cZ}(x:zR H a C dx tb)(hT:H T=S):zR (iO H a C dx T) a C dx (Z T):=by
 have ne:T≠a:=λe=>by rw[e,x.1]at hT;cases hT
 refine⟨zo,λT' e=>?_⟩;cases e;exact⟨by unfold iO;rw[zn ne,zo],ne⟩
variable {J':Model}{cW:List (cZ×gM)}{s:de}{U:St}
section
variable {tb:Option cZ}{A1 A2:dO}{E1 E2:cU->de->Prop}
theorem Ç.xc (I:Ç X cW U H s)(x:zR H a C dx tb):FG a C dx tb s.heap:=(I.hok a _ x.1).1
theorem Ç.tbo (I:Ç X cW U H s)(x:zR H a C dx<|Z T):HN T s.heap:=(I.hok T _ (x.2 T rfl).1).1
theorem Ç.entry {head:cU}{Kc:Bool}{Q:Unit->de->Prop}(I:Ç X cW U H s)(jH:X.stack=X.env::X.outer)(hf:X.env.frame=Z X.env.locals)(hA:A1.frames=Z X.stack)(x:zR H a C dx tb)
    (h:∀s' T,H T=S->Ç X cW U (iO H a C dx T) s'->Q () s') :
    dr J' A1 (do let fr ← frameOf X.env;let pl ← entryPlaceOf X.env.locals Kc;let b ← EntryCells.newEntry head fr .none (rawInt X.env.locals) .none pl;setField (.ref a) 1 b) (λ_ s1=>dr J' A2 (setFlight (.ref a) S) Q E1 s1) E2 s:=by
  have Io:=I.stack;rw[jH]at Io hA;refine cY<|wpAny_frameOf_fun hA Io hf λh1 Gq=>cY<|wpAny_entryPlaceOf λpl iD=>?_;unfold EntryCells.newEntry newFields;refine cY<|iI ?_<|iD.sizeOk5 _ _ _ _ _;have fr:∀b,H b≠S->b∉(X.env::X.outer).filterMap (·.frame):=λb hb hm=>hb (I.stkFree b<|by rw[jH];exact hm);obtain⟨a0,he⟩:=I.xc x;have e1:=(Gq.2.1 a<|fr a<|by rw[x.1];simp).trans he;generalize Vf:([head,cU.ref X.env.locals,.none,rawInt X.env.locals,.none]++(if pl.isEmpty then dg 6 cU.none else pl)).toArray=ts;have UQ:ts[3]?=Z (rawInt X.env.locals):=by rw[←Vf];simp
  have Px:3<ts.size:=(l7.mp UQ).1;have e2:=c7 (h:=h1) { cls:=.type "traceback",dict:=none,data:=.fields ts } e1;refine wpAny_setField e2 rfl (by simp) ?_;have neT:h1.objs.size≠a:=kT<|dB e1;have e3:=fD (gM.mapFields (·.setIfInBounds 1 (cU.ref h1.objs.size))) e2 rfl;have t3:=(fM (h1.push { cls:=.type "traceback",dict:=none,data:=.fields ts }) (gM.mapFields (·.setIfInBounds 1 (cU.ref h1.objs.size)))<|Ne.symm neT).trans<|dG h1 rfl;unfold setFlight;refine cY (wpAny_field e3 rfl (x:=.ref h1.objs.size) (by simp) ?_);rw[if_pos<|show(cU.ref h1.objs.size != cU.none)=Â from by simp];refine wpAny_setField t3 rfl Px ?_
  suffices z:∀h4,h4=((h1.push { cls:=.type "traceback",dict:=none,data:=.fields ts }).update a<|gM.mapFields (·.setIfInBounds 1 (cU.ref h1.objs.size))).update h1.objs.size (gM.mapFields (·.setIfInBounds 3 ((S:Option cZ).elim cU.none λf=>rawInt f)))->Q () ⟨h4,s.gens,s.drawn,s.toks,s.os⟩from z _ rfl
  intro h4 Ip;have MF:=Ip.symm;clear Ip;have Kr:h1.objs.size=s.heap.objs.size:=Gq.1;have up:∀b o,b≠a->h1.get? b=Z o->h4.get? b=Z o:=λb o hb q=>by rw[←MF,fM _ _<|kT<|dB q,fM _ _<|Ne.symm hb];exact c7 _ q
  have G7:H h1.objs.size=S:=I.hok.fresh (by rw[Kr];exact dE _);have e4:h4.get? a=Z { cls:=.ref C,dict:=dx,data:=.fields #[a0,.ref h1.objs.size,.none,.none,.bool Ã,.none] }:=by rw[←MF,fM _ _ neT,e3];simp[gM.mapFields]
  have t4:h4.get? h1.objs.size=Z { cls:=.type "traceback",data:=.fields (ts.setIfInBounds 3 .none) }:=by rw[←MF,fD _ t3 rfl];simp[gM.mapFields]
  have kp:∀b o,H b≠S->b≠a->s.heap.get? b=Z o->h4.get? b=Z o:=λb o hb ha q=>up b o ha<|(Gq.2.1 b<|fr b hb).trans q;have nn:∀b,H b=S->b≠a:=λb hb q=>by rw[q,x.1]at hb;cases hb
  have nT:∀b o,s.heap.get? b=Z o->b≠h1.objs.size:=λb o q=>by rw[Kr];exact dU<|dB q
  have hm:∀b,b∈(X.env::X.outer).filterMap (·.frame)->b=X.env.locals\/b∈X.fs:=λb hb=>dn.mp (I.stkSub b<|by rw[jH];exact hb);refine h _ h1.objs.size G7<|I.step (g':=s.gens) (t':=s.toks) (d':=s.drawn) (ch:=[]) (λb z=>nomatch z) (λb o J7 Mg _ q n=>up b o (nn b n)<|(Gq.2.1 b λz=>(hm b z).elim J7 Mg).trans q) (λb o _ _ _ q n=>?_) (λb o _ q n=>?_) (λb o _ q=>?_) (λb xs q=>?_) (λb o u q=>?_) (λb ps q=>?_) (λm q=>?_) (λb u q=>?_) I.bare
  · obtain⟨sl,q'⟩:=Gq.2.2 b o q;exact⟨sl,up b _ (nn b n) q'⟩
  · unfold iO;rw[zn<|nn b n,zn<|nT b o q];exact n
  · by_cases hb:b=a
    · rw[hb];exact⟨_,e4⟩
    · obtain⟨sl,q'⟩:=Gq.2.2 b o q;exact⟨_,up b _ hb q'⟩
  · unfold iO;rw[zn (λz=>by rw[z,x.1]at q;cases q),zn<|zp q G7];exact q
  · unfold iO;rw[zn (λz=>by rw[z,x.1]at q;cases q),zn<|zp q G7];exact q
  · exact⟨#[],by unfold iO;rw[zn (λz=>by rw[z,x.1]at q;cases q),zn<|zp q G7,q];simp⟩
  · obtain⟨o,es,ep,ho,r⟩:=q;obtain⟨sl,q'⟩:=Gq.2.2 _ o ho;exact⟨_,es,ep,up _ _ (nn _ I.free) q',r⟩
  · by_cases hb:b=a
    · subst hb;have q:iO H b C dx h1.objs.size b=Z u:=q;unfold iO at q;rw[zo]at q;cases q;exact⟨⟨a0,e4⟩,⟨_,e4⟩,λ_ _ z k=>z.stay k⟩
    · unfold iO at q;rw[zn hb]at q;by_cases DX:b=h1.objs.size
      · rw[DX,zo]at q;cases q;rw[DX];exact⟨⟨_,t4,by simp[Px]⟩,⟨_,t4⟩,λ_ _ z k=>z.stay k⟩
      · rw[zn DX]at q;refine(I.hok b u q).stay (λc v hc z=>kp c v ?_ ?_ z) (λc z=>?_)<|λc xs z=>?_
        · rcases hc with rfl|hc
          · rw[q];simp
          · rw[hc];simp
        · rcases hc with rfl|hc
          · exact hb
          · intro e;rw[e,x.1]at hc;cases hc
        · unfold iO;rw[zn (λe=>by rw[e,x.1]at z;cases z),zn<|zp z G7];exact z
        · unfold iO;rw[zn (λe=>by rw[e,x.1]at z;cases z),zn<|zp z G7];exact z
theorem Ç.note {Q:Unit->de->Prop}(I:Ç X cW U H s)(jH:X.stack=X.env::X.outer)(hf:X.env.frame=Z X.env.locals)(hA:A1.frames=Z X.stack)(x:zR H a C dx tb)
  (h:∀s' T,H T=S->Ç X cW U (iO H a C dx T) s'->Q () s') :
  dr J' A1 (noteFrame (.ref a) X.env) (λ_ s1=>dr J' A2 (setFlight (.ref a) S) Q E1 s1) E2 s:=by
 obtain⟨a0,he⟩:=I.xc x;unfold noteFrame;simp only[hf];cases tb with
 |none=>refine cY (wpAny_field he rfl (x:=.none) (by simp) ?_);rw[if_neg<|by decide];exact I.entry jH hf hA x h
 |some T=>obtain⟨ts,ht,h3⟩:=I.tbo x;refine cY (wpAny_field he rfl (x:=.ref T) (by simp) ?_);rw[if_pos<|show(cU.ref T != cU.none)=Â from by simp];refine cY<|wpAny_field ht rfl h3 ?_;rw[if_neg<|show¬((cU.none==rawInt X.env.locals)=Â)from by simp[rawInt]];refine cY<|wpAny_setField ht rfl (l7.mp h3).1 ?_;rw[vA s.heap T _ ts 3 .none ht rfl h3];exact I.entry jH hf hA x h
end
def rg (P:eI)(w:d5):Df:=λouter H s E u s'=>∃(a C:cZ) (dx:Option cZ) (T:cZ) (G:Hp),u=.ref a/\s'.os=s.os/\AllBare s'.gens/\Un (B6 outer) [] H G s.heap s'.heap/\pL P w G s'.heap/\zR G a C dx (Z T)/\E u S G
abbrev GK:=St->cZ->Hp->Prop
def lp (X:Cx)(W':GK):Prop:=∀(cW:List<|cZ×gM) (U:St) (H:Hp) (s:de) (a C:cZ) (dx tb:Option cZ),Ç X cW U H s->zR H a C dx tb->(∀T,H T=S->W' U a (iO H a C dx T))->X.xe (.ref a) s
variable {f:cZ}{qual:Str}{scope:pI}
theorem ym {w:d5}{K:cX}{mg:Str->Option cU}{base:dz}{N:List Str}{cd:cU}{A:dO}{outer:List Env}{E:XK} :
  lp (nj (rg P w) P w K mg base N qual scope f cd A outer s H E) (λ_ a G=>E (.ref a) S G):=by
 intro cW U H1 s1 a C dx tb I x g;show dr _ _ (leaving _ _) _ _ _;unfold leaving;refine cY<|I.note rfl rfl I.ok.frames x λs2 T hT L'=>?_;exact⟨a,C,dx,T,_,rfl,L'.os,L'.bare,L'.base,L'.hok,OA x hT,g T hT⟩
def EX (W':GK)(U:St):XK:=λu _ G=>∃a C dx T,u=.ref a/\zR G a C dx (Z T)/\∀T',G T'=S->W' U a (iO G a C dx T')
variable {W':GK}{fG p pos:my}{Y us:List cU}{i9 vs:List V}{e o:Expr}{es:List Expr}{m:Str}{ps:List Str}{s':de}{ta:TE}{u:cU}
section
variable {k:Nat}{sp:Sp}{t:TA}
theorem Ç.raised (I:Ç X cW U H s)(hx:lp X W')(h:rg X.prog X.w X.stack H s (EX W' U) u s'):X.xe u s':=by obtain⟨a,C,dx,T,G,rfl,ho,hg,un,hok,xr,w⟩:=h;have L':Ç X cW U G s':=I.call' (ch:=[]) ho un hok hg<|λb z=>nomatch z;obtain⟨a2,C2,LV,T2,e2,NX,w⟩:=w;cases e2;exact hx cW U G s' a C2 LV (Z T2) L' NX w
theorem OB {Q:VK}(F:dR X.prog X.w X.K X.mg X.base (rg X.prog X.w) k f fd ps sp)(hr:fw k X.A)(hb:fK X.K fd ps Y)(hd:eh i9 Y)(hx:lp X W')
  (I:Ç X cW U H s) (r:eh vs us) (h:sp (vs++i9) H Q<|EX W' U):dr (dq X.prog X.w) X.A (call (.ref f) us) (EP X cW U Q) X.xe s:=by
 have r2:=r.append hd;have hl:(us++Y).length=ps.length:=by rw[←r2.length];exact F.len _ _ _ _ h
 refine wpAny_call<|ig (F.run X.A X.stack s H ⟨us,[]⟩ (us++Y) (vs++i9) Q (EX W' U) hr I.env0 (hb s us I.kIn hl) r2 h) λz s' hq=>?_;cases z with
 |error u=>exact I.raised hx hq
 |ok fl=>cases fl<;>first|exact I.after hq|exact False.elim hq
def Gu (sp:Sp)(i9:List V)(W':GK)(t:TA):TE:=λU H Q=>t U H λvs H1=>sp (vs++i9) H1 Q<|EX W' U
theorem ZM (F:dR X.prog X.w X.K X.mg X.base (rg X.prog X.w) k f fd ps sp)(hr:fw k X.A)(hg:Gl X x)(hm:X.mg x=Z (.ref f))(hk:dQ X.K (.ref f)=Â)(hb:fK X.K fd ps Y)(hd:eh i9 Y)(hx:lp X W')
  (ha:PA X (e::es) t) (jS:iM x:=by decide) (he:SE X e es:=by rfl) (iD:lV X pos es:=by rfl) :
  PE X (.Call (.Name x p) (e::es) [] pos) (Gu sp i9 W' t):=by
 intro cW s U H Q I h;refine fu<|xj I hg hm (fe (h₀:=X.base) I.ok.mod.kin hk (gb (ha pos cW s U H _ I h) λus s1 ⟨vs,H1,I1,r,q⟩=>⟨I1.kIn,?_⟩) he iD) jS;exact OB F hr hb hd hx I1 r q
def Gz (C:cZ)(sp:Sp)(i9:List V)(W':GK)(t:TA):TE:=λU H Q=>t U H λvs H1=>∀x dx,H1 x=S->H1 dx=S->dx≠x ->
 sp (.ref x::(vs++i9)) (upd (upd H1 dx<|.own x) x<|.ins C dx []) (λv H2=>v=.non/\Q (.ref x) H2) (EX W' U)
theorem YZ {Q:VK}(J':Mk X.K C f)(F:dR X.prog X.w X.K X.mg X.base (rg X.prog X.w) k f fd ps sp)(hr:fw (k+1) X.A)(hb:fK X.K fd ps Y)(hd:eh i9 Y)
  (hx:lp X W') (I:Ç X cW U H s) (r:eh vs us)
  (h:∀x dx,H x=S->H dx=S->dx≠x->sp (.ref x::(vs++i9)) (upd (upd H dx<|.own x) x<|.ins C dx []) (λv H2=>v=.non/\Q (.ref x) H2) (EX W' U)) :
  dr (dq X.prog X.w) X.A (call (.ref C) us) (EP X cW U Q) X.xe s:=by
 have hq:=h (s.heap.objs.size+1) s.heap.objs.size (I.hok.fresh<|lM _) (I.hok.fresh<|dE _)<|dU<|jX _;have I2:=Ç.made (C:=C) I;have r2:eh (V.ref (s.heap.objs.size+1)::(vs++i9)) (cU.ref (s.heap.objs.size+1)::(us++Y)):=.cons rfl<|r.append hd;have hl:(cU.ref (s.heap.objs.size+1)::us++Y).length=ps.length:=(F.len _ _ _ _ hq▸r2.length).symm;refine wpAny_call<|RB (f:=f) I.kIn J'.makes J'.init (beq_iff_eq.mp J'.fn)<|ig (F.run _ X.stack _ _ ⟨cU.ref (s.heap.objs.size+1)::us,[]⟩ (cU.ref (s.heap.objs.size+1)::(us++Y)) _ _ (EX W' U) (hr.make C us []) (I2.env0.make C us []) (hb _ _ I2.kIn hl) r2 hq) λz s' wK=>?_;cases z with
 |error u=>exact I2.raised hx wK
 |ok fl=>
  cases fl with
  |ret u=>obtain⟨v,G,I3,rv,ev,q3⟩:=I2.after wK;subst ev;exact⟨rv,V.ref<|s.heap.objs.size+1,G,I3,rfl,q3⟩
  |_=>exact False.elim wK
theorem ZN (J':Mk X.K C f)(F:dR X.prog X.w X.K X.mg X.base (rg X.prog X.w) k f fd ps sp)(hr:fw (k+1) X.A)(hg:Gl X x)(hm:X.mg x=Z (.ref C))(hb:fK X.K fd ps Y)(hd:eh i9 Y)(hx:lp X W')
  (ha:PA X (e::es) t) (jS:iM x:=by decide) (he:SE X e es:=by rfl) (iD:lV X pos es:=by rfl) :
  PE X (.Call (.Name x p) (e::es) [] pos) (Gz C sp i9 W' t):=by
 intro cW s U H Q I h;refine fu<|xj I hg hm (fe (h₀:=X.base) I.ok.mod.kin J'.kp (gb (ha pos cW s U H _ I h) λus s1 ⟨vs,H1,I1,r,q⟩=>⟨I1.kIn,?_⟩) he iD) jS;exact YZ J' F hr hb hd hx I1 r q
end
abbrev Am:=PySem.F.excBase_ValueError
class inductive kI:List cU->Prop
 |base:kI [.type "ValueError",.type "Exception",.type "BaseException",.type "object"]
 |own {c:cZ} {r:List cU}:kI r->kI (.ref c::r)
theorem kI.refuse {l:List cU}(self:cU)(h:kI l):refuseLoop self "__setattr__" l=pure ():=by
 induction h with
 |base=>exact PySem.F.store_ValueError.passes self
 |own h ih=>rw[refuseLoop_ref];exact ih
theorem kI.obj {l:List cU}(h:kI l):l.contains (.type "object")=Â:=by
 induction h with
 |base=>decide
 |own h ih=>rw[hW,ih,Bool.or_true]
structure wA (K:cX)(C:cZ):Prop where
 ob:∃(nm q:Str) (N:cZ) (bs bm:List cU) (mU:Bool) (sn:List Str) (sub:List cU) (ab:Bool) (col:Option Bool) (dd:Option cZ) (k0 k1 k2 k3 k5:Option cU),
  K.lookup C=Z (excClassObj nm q C N bs bm mU sn sub ab col dd k0 k1 k2 k3 k5 "ValueError.__new__")/\kI bm
 mV:fS K C (.type "ValueError")=Z Â
 mB:fS K C (.type "BaseException")=Z Â
 mA:fS K C (.type "AttributeError")=Z Ã
 mN:fS K C (.type "NameError")=Z Ã
 sp:gq K (.ref C) "__call__"=Z (Z<|.builtin "type.__call__")
 ty:PySem.W.instIn K (.ref C) (.type "type")=Z Â
variable {R:Result->de->Prop}{ab:Bool}{bm sub:List cU}{col:Option Bool}{dd:Option cZ}{k0 k1 k2 k3 k5:Option cU}{nm:Str}{sn:List Str}
section
variable {q:Str}{N:cZ}{bs:List cU}{mU:Bool}
theorem KZ {K:cX}{b:cU}{v:Bool}(ho:K.lookup C=Z (excClassObj nm q C N bs bm mU sn sub ab col dd k0 k1 k2 k3 k5 "ValueError.__new__"))(h:fS K C b=Z v):(cU.ref C::bm).contains b=v:=by unfold fS kX at h;rw[ho]at h;simpa using h
variable {prog:eI}{w:d5}{A:dO}{g:Array GenState}{d:Drawn}{t:Nat}{os:OsState}
theorem ϊ {Ê:List cU}(G8:(cU.ref C::bm).contains (.type "ValueError")=Â)(Ms:(cU.ref C::bm).contains (.type "AttributeError")=Ã)(Mu:(cU.ref C::bm).contains (.type "NameError")=Ã)
    (hC:h.get? C=Z (excClassObj nm q C N bs bm mU sn sub ab col dd k0 k1 k2 k3 k5 "ValueError.__new__")) (hz:Ê.length<=sizeLine)
    (hq:R (.ok<|.ret<|.ref<|h.objs.size+1) ⟨(h.push { cls:=.type "tuple",data:=.seq Ê.toArray }).push { cls:=.ref C,data:=.fields #[.ref h.objs.size,.none,.none,.none,.bool Ã,.none] },g,d,t,os⟩) :
    jC (dq prog w) A (.call (.builtin "ValueError.__new__") ⟨.ref C::Ê,[]⟩) R ⟨h,g,d,t,os⟩:=by
  have PZ:=Am.noStar;refine codeAny_call_builtin_code (uH.quiet_builtin _ Am.quiet) ?_;simp only[checkBuiltinCall,Am.newKind,Am.newSplit,Am.newRow]
  repeat (first|refine wpAny_loadPart_at hC ?_|(refine wpAny_isSubtype_exc hC ?_;rw[G8])|refine wpAny_staticBase_exc hC ?_|refine wpAny_madeBy_exc hC ?_|simp only[bne_self_eq_false,fI,if_false]|wp_step)
  have PM:=Am.ends;refine codeAny_builtinAt Am.entry ?_;unfold Builtin.«BaseException.__new__»;refine PySem.wpAt_bind ?_;show PySem.wpAt _ _ _ (stack >>= _) _ _ _;refine PySem.wpAt_bind<|PySem.wpAt_stack λp below=>PySem.wpAt_of_wpAny ?_
  wp_walk
  refine PySem.wpAt_of_wpAny ?_;rw[Am.owner]
  repeat (first|with_reducible refine wpAny_madeHere_exc Am.canon hC ?_|with_reducible refine wpAny_loadPart_at hC ?_|(with_reducible refine wpAny_isSubtype_exc hC ?_;first|rw[G8]|rw[Ms]|rw[Mu])|wp_step)
  show R _ _;rw[gw];exact hq
theorem zq8 {Ê:List cU}{init:cU}(G8:(cU.ref C::bm).contains (.type "ValueError")=Â)(Ms:(cU.ref C::bm).contains (.type "AttributeError")=Ã)(Mu:(cU.ref C::bm).contains (.type "NameError")=Ã)
    (hC:h.get? C=Z (excClassObj nm q C N bs bm mU sn sub ab col dd k0 k1 k2 k3 k5 "ValueError.__new__")) (call:ek (dq prog w) h (specialOf (.ref C) "__call__")<|Z<|.builtin "type.__call__") (typ:ek (dq prog w) h (isInstance (.ref C)<|.type "type") Â)
    (hi:ek (dq prog w) h (sZ (.ref C) "__init__")<|Z init) (hb:∀self,ek (dq prog w) h (bindSpecial init self) (init,[self])) (hz:Ê.length<=sizeLine)
    (hq:jC (dq prog w) (A.under<|.builtin "type.__call__" ⟨.ref C::Ê,[]⟩) (.call init ⟨.ref (h.objs.size+1)::Ê,[]⟩) (AQ (h.objs.size+1) R)
      ⟨(h.push { cls:=.type "tuple",data:=.seq Ê.toArray }).push { cls:=.ref C,data:=.fields #[.ref h.objs.size,.none,.none,.none,.bool Ã,.none] },g,d,t,os⟩) :
    jC (dq prog w) A (.call (.ref C) ⟨Ê,[]⟩) R ⟨h,g,d,t,os⟩:=by
  have self:ek (dq prog w) h (isSubtype (.ref C)<|.ref C) Â:=λA Q E s k z=>by obtain⟨hh,g',d',t',Qa⟩:=s;refine wpAny_isSubtype_exc (k _ _ hC) ?_;rw[show(cU.ref C::bm).contains (.ref C)=Â by simp];exact z
  refine codeAny_of_tree ?_;show dr _ _ (callAny (.ref C) _) _ _ _;refine PySem.W.nd_load hC ?_;show dr _ _ (callAny.viaDunder (.ref C) _) _ _ _;unfold callAny.viaDunder;refine cY<|call.at ?_;dsimp only;rw[tc_bind];refine cY<|dA<|cY<|dA ?_;refine dA (a:=Fin.again<|.call (.builtin "type.__call__") ⟨.ref C::Ê,[]⟩)<|And.intro rfl ?_;refine codeAny_call_builtin_at (uH.quiet_builtin _<|by decide +kernel) entry_typeCall<|lT tc_kind tc_split typ (PySem.W.tc_args _ _ _) ?_;unfold Builtin.«type.__call__»
  repeat (first|with_reducible refine wpAny_loadPart_at hC ?_|with_reducible refine wpAny_madeBy_exc hC ?_|with_reducible refine wpAny_mroOf_exc hC ?_|simp only[List.isEmpty_cons,fI,if_false]|with_reducible refine wpAny_call ?_|wp_step)
  refine ϊ G8 Ms Mu hC hz ?_;have k:∀b o,h.get? b=Z o->((h.push { cls:=.type "tuple",data:=.seq Ê.toArray }).push { cls:=.ref C,data:=.fields #[.ref h.objs.size,.none,.none,.none,.bool Ã,.none] }).get? b=Z o:=λb o e=>c7 _<|c7 _ e;have hx:((h.push { cls:=.type "tuple",data:=.seq Ê.toArray }).push { cls:=.ref C,data:=.fields #[.ref h.objs.size,.none,.none,.none,.bool Ã,.none] }).get? (h.objs.size+1)=Z { cls:=.ref C,data:=.fields #[.ref h.objs.size,.none,.none,.none,.bool Ã,.none] }:=by heap_get
  have t1:ek (dq prog w) ((h.push { cls:=.type "tuple",data:=.seq Ê.toArray }).push { cls:=.ref C,data:=.fields #[.ref h.objs.size,.none,.none,.none,.bool Ã,.none] }) (typeOf<|.ref<|h.objs.size+1) (.ref C):=(ek.ld hx).andThen .now;have s1:=self.keeps k;have i1:=hi.keeps k;have b1:=(hb<|.ref<|h.objs.size+1).keeps k;unfold isInstance callSpecial? specialOf
  repeat (first|with_reducible refine wpAny_call ?_|lk)
  refine ig hq λr s' z=>?_;rcases r with e|(v|_|_|_)<;>first|exact z|exact z.elim|skip
  obtain⟨rfl,z⟩:=z;exact dA<|dA z
end
variable {E:cU->de->Prop}
section
variable {q:Str}{N:cZ}{bs:List cU}{mU:Bool}
variable {prog:eI}{w:d5}{A:dO}{g:Array GenState}{d:Drawn}{t:Nat}{os:OsState}
theorem ZO {e:cZ}{a0 v1 v2 v3 v4 v5:cU}{Ê:List cU}(G8:(cU.ref C::bm).contains (.type "ValueError")=Â)
    (hC:h.get? C=Z (excClassObj nm q C N bs bm mU sn sub ab col dd k0 k1 k2 k3 k5 "ValueError.__new__")) (he:h.get? e=Z { cls:=.ref C,dict:=dx,data:=.fields #[a0,v1,v2,v3,v4,v5] }) (hz:Ê.length<=sizeLine)
    (hq:∀h' a1,(∀b o,b≠e->h.get? b=Z o->h'.get? b=Z o)->h'.get? e=Z { cls:=.ref C,dict:=dx,data:=.fields #[a1,v1,v2,v3,v4,v5] }->R (.ok<|.ret .none) ⟨h',g,d,t,os⟩) :
    jC (dq prog w) A (.call (.builtin "ValueError.__init__") ⟨.ref e::Ê,[]⟩) R ⟨h,g,d,t,os⟩:=by
  have MR:=Am.noStar;refine codeAny_call_builtin Am.init.plain Am.initEntry ?_;simp only[checkBuiltinCall,Am.initKind,Am.initSplit,Am.initRow]
  repeat (first|with_reducible refine wpAny_loadPart_at he ?_|with_reducible refine wpAny_loadPart_at hC ?_|(with_reducible refine wpAny_isSubtype_exc hC ?_;rw[G8])|wp_step)
  refine wpAny_onRaise ?_;rw[show∀(a b:String) (n:Nat),Bind.check ⟨.positional,"*","ValueError",.self,[⟨"args",.varPos,Ã⟩]⟩ a b n (List.map (λx=>x.fst) ({ pos:=cU.ref e::Ê }:Args).kw)=pure ()from
    λa b n=>check_star_args _ _ _ _ _ _]
  refine dA ?_;unfold Builtin.«BaseException.__init__»;dsimp only;rw[if_neg<|by decide];unfold newTuple;refine cY (iI ?_<|by show Ê.toArray.size<=sizeLine;rw[dF];exact hz);have e1:=c7 (h:=h) { cls:=.type "tuple",data:=.seq Ê.toArray } he;unfold Builtin.BaseException.bexcPut;refine cY (cY<|wpAny_field e1 rfl (x:=a0) (by simp) ?_);refine cY (wpAny_setField e1 rfl (by simp) ?_);have e2:=fD (gM.mapFields (·.setIfInBounds 0 (cU.ref h.objs.size))) e1 rfl;have fin:R (.ok<|.ret .none) ⟨(h.push { cls:=.type "tuple",data:=.seq Ê.toArray }).update e<|gM.mapFields (·.setIfInBounds 0 (cU.ref h.objs.size)),g,d,t,os⟩:=by
    refine hq _ (.ref h.objs.size) (λb o hb ho=>?_) ?_
    · rw[fM _ _<|Ne.symm hb];exact c7 _ ho
    · rw[e2];simp[gM.mapFields]
  cases a0<;>first|exact wpAny_letGo (dA fin)|exact dA<|dA fin
end
variable {Q:cU->de->Prop}{name:Str}
section
variable {q:Str}{N:cZ}{bs:List cU}
variable {prog:eI}{w:d5}{A:dO}{K:cX}{x:cZ}{dt:pj}{sl:Array (Option cU)}{v:cU}
theorem Ω {Q:Unit->de->Prop}(X:K.In s.heap)(hK:K.lookup C=Z (excClassObj nm q C N bs bm Â sn sub ab col dd k0 k1 k2 k3 k5 "ValueError.__new__"))(hm:kI bm)(hx:s.heap.get? x=Z ⟨.ref C,S,dt,sl⟩)(hd:∀cd,dt≠.cls cd)(Im:(⟨.ref C,S,dt,sl⟩:gM).isFreed=Ã)
    (hs:dI K (.ref C) "__setattr__"=Z (Z<|.builtin "object.__setattr__")) (ht:ft K C name=Z S)
    (h:∀h' dx,s.heap.get? dx=S->dx≠x->s.heap.objs.size<=dx->h'.get? x=Z ⟨.ref C,Z dx,dt,sl⟩->h'.Ns1 dx (λy=>if y=name then Z v else S)->(∀b o,b≠x->s.heap.get? b=Z o->h'.get? b=Z o)->Q () { s with heap:=h',toks:=s.toks+2 }) :
    dr (dq prog w) A (setAttr (.ref x) name v) Q E s:=by
  have hn:B0 ⟨.ref C,S,dt,sl⟩=Â:=by unfold B0;cases dt<;>first|rfl|exact absurd rfl<|hd _
  have L':jE s.heap x ⟨.ref C,S,dt,sl⟩ C S:=⟨hx,rfl,hn,trivial⟩;refine Ae X L' hs ?_;have SF:=PySem.F.store_object;obtain⟨cd,hc,Iw,Ik⟩:∃cd,kX K C=Z cd/\cd.mro=.ref C::bm/\cd.hasDict=Â:=⟨_,by unfold kX;rw[hK],rfl,rfl⟩;have sub:ek (dq prog w) s.heap (isInstance (.ref x)<|.type "object") Â:=L'.type.andThen (oM X<|by unfold fS;rw[hc,gD,Iw,if_neg<|by simp,(kI.own hm).obj]);refine codeAny_call_builtin SF.slot.plain SF.entry<|@lT (dq prog w) _ _ { s with toks:=s.toks+1 } "object.__setattr__" "object" "__setattr__" (.ref x) [.str name s.toks,v] [] _ SF.kind SF.split sub (SF.args (.ref x) (.str name s.toks) v) ?_;obtain⟨attr,ha,hr⟩:=Option.bind_eq_some_iff.mp ht;have hM:ek (dq prog w) s.heap (mroOf<|.ref C) (.ref C::bm):=Iw▸(oK X hc).andThen .now;have l3:ek (dq prog w) s.heap (Builtin.ObjectAttr.storeTaker? attr) S:=by
    cases attr with
    |none=>exact .now
    |some a=>
      obtain⟨b,hb,UR⟩:=gr.mp hr;refine(PySem.W.looks_takesIn X hb).andThen ?_;cases b
      · exact .now
      · cases UR
  rw[PySem.W.osa_eq,refuse_eq];refine cY<|cY<|L'.type.here (s:={ s with toks:=s.toks+1 })<|cY<|hM.here (s:={ s with toks:=s.toks+1 }) ?_;rw[(kI.own hm).refuse];refine dA<|cY<|L'.type.here (s:={ s with toks:=s.toks+1 })<|cY<|(gG X ha).here (s:={ s with toks:=s.toks+1 })<|cY<|l3.here (s:={ s with toks:=s.toks+1 }) ?_;refine cY<|dA<|cY<|cY<|wpAny_loadPart (s:={ s with toks:=s.toks+1 }) hx<|cY<|(oK X hc).here (s:={ s with toks:=s.toks+1 }) ?_;rw[Ik];have P1:(s.heap.push { cls:=.type "dict",data:=.dict #[] }).get? x=Z ⟨.ref C,S,dt,sl⟩:=c7 _ hx;have MX:x≠s.heap.objs.size:=dU<|dB hx;show dr _ _ (if(!Â || !typeHasDict (.ref C))=Â then _ else _) _ _ _;rw[if_neg<|by simp[typeHasDict]];have go:dr (dq prog w) A.in1 (do
      let d ← alloc { cls:=.type "dict",data:=.dict #[] }
      update x λo=>{ o with dict:=some d }
      dictMade (.ref C) x d) (λa s'=>dr (dq prog w) A.in1 (match a with
        |some d=>Builtin.ObjectAttr.storeInDict d (.str name s.toks) name v
        |none=>Builtin.ObjectAttr.noDictFor (.ref x) (.ref C) name attr.isSome) (λfin s'=>match fin with|.done f=>(match Except.ok f with|.ok (.ret _)=>Q () s'|.ok _=>False|.error e=>E e s')|.again c'=>c'.quiet=Â/\jC (dq prog w) A c' (λr s'=>match r with|.ok (.ret _)=>Q () s'|.ok _=>False|.error e=>E e s') s') E s') E { s with toks:=s.toks+1 }:=by
    refine cY<|wpAny_alloc' ?_;refine cY<|wpAny_update' P1 ?_;refine dA ?_;have U3:((s.heap.push { cls:=.type "dict",data:=.dict #[] }).update x λo=>{ cls:=o.cls,dict:=some s.heap.objs.size,data:=o.data,slots:=o.slots }).get? s.heap.objs.size=Z { cls:=.type "dict",data:=.dict #[] } :=
      (AJ _ _ _ _ MX.symm).trans (BW rfl rfl)
    have U9:((s.heap.push { cls:=.type "dict",data:=.dict #[] }).update x λo=>{ cls:=o.cls,dict:=some s.heap.objs.size,data:=o.data,slots:=o.slots }).Ns s.heap.objs.size (λ_=>S):=⟨_,#[],_,U3,rfl,λe he=>absurd he<|by simp,λ_=>rfl⟩;show dr _ _ (Builtin.ObjectAttr.storeInDict s.heap.objs.size (.str name s.toks) name v) _ _ _;unfold Builtin.ObjectAttr.storeInDict Builtin.ObjectAttr.newKeyGuard;refine cY<|dA<|cY<|wpAny_nsSet1 (dz.Ns1.of_empty U9) λh' EU CC=>?_;obtain⟨oD,Ul,T8,ML,Mz,Mt⟩:=EU.count<|Within.cons name v Within.nil;refine cY (wpAny_lookBehind ML (by rw[Mz];exact pastItsLine_dict (fk Mt<|by rw[dw,C7,eD];lia)) ?_);refine dA<|h h' s.heap.objs.size (zW<|dE _) MX.symm (dE _) ?_ EU λb o hb ho=>?_
    · refine(CC.2 x MX).trans<|fD _ P1 ?_;cases dt<;>first|rfl|exact Im
    · exact(CC.2 b<|dU<|dB ho).trans<|(AJ _ _ _ _ hb).trans<|c7 _ ho
  cases dt<;>first|exact absurd rfl (hd _)|exact go
theorem ŷ {expr:Bool}{ox:gM}{od:Option gM}(X:K.In s.heap)(L':jE s.heap x ox C od)(U2:dI K (.ref C) "__getattribute__"=Z (Z<|.builtin "BaseException.__getattribute__"))
  (hk:dI K (.ref C) "__getattr__"=Z S) (hB:fS K C (.type "BaseException")=Z Â) (hf:rT K C od name=Z (.value v)) (hv:rf v=Â) (h:Q v { s with toks:=s.toks+1 }) :
  dr (dq prog w) A (getAttr (.ref x) name expr) Q E s:=by
 obtain⟨hh,g,d,t,os⟩:=s;have l0:ek (dq prog w) hh _ _:=L'.type;have l1:ek (dq prog w) hh _ _:=gG X U2;have l2:ek (dq prog w) hh _ _:=gG X hk;have l3:ek (dq prog w) hh _ _:=zP X L' hf;have FX:=PySem.F.excAttr_ValueError;have FY:(cU.builtin "BaseException.__getattribute__" == cU.builtin "object.__getattribute__")=Ã:=by decide +kernel
 unfold getAttr getAttrBy;refine cY<|wpAny_mkText<|gA<|cY<|l0.at<|cY<|l1.at ?_;dsimp only;rw[FY,Dz,if_neg di];unfold getAttrByItsOwn hookBefore;rw[if_pos<|show onTheHeap (cU.ref C)=Â from rfl];refine cY<|l2.at ?_;refine cY<|wpAny_attempt<|gA ?_;unfold callGetattribute;rw[if_neg (show¬((expr&&onTheHeap (cU.builtin "BaseException.__getattribute__"))=Â)by cases expr<;>decide)];unfold boundAndCalled;rw[FX.ga.bind<|.ref x];refine cY<|dA ?_;have hi:ek (dq prog w) hh (isInstance (.ref x)<|.type "BaseException") Â:=l0.andThen<|oM X hB;refine wpAny_call (codeAny_call_builtin FX.ga.plain PySem.F.entry_bexc_ga<|@lT (dq prog w) _ _ ⟨hh,g,d,t+1,os⟩ "BaseException.__getattribute__" "BaseException" "__getattribute__" (.ref x) [.str name t] [] _ (by decide +kernel) (by decide +kernel) hi (PySem.F.args_bexc_ga _ _) ?_);unfold Builtin.«object.__getattribute__»;refine cY<|dA<|cY<|dA<|cY<|l0.at<|cY<|l3.at ?_;refine dA ?_;show dr _ _ (handedOut v) _ _ _;rw[PySem.W.handedOut_of hv];exact dA h
end
variable {pl:Cd Bool}{pos':my}{t':Nat}{te tv:TE}{value:Expr}
section
theorem Ç.xmade (I:Ç X cW U H s)(us:List cU):H (s.heap.objs.size+1)=S/\Ç X cW U (upd H (s.heap.objs.size+1)<|nN (s.heap.objs.size+1) C S S) { s with heap:=(s.heap.push { cls:=.type "tuple",data:=.seq us.toArray }).push { cls:=.ref C,data:=.fields #[.ref s.heap.objs.size,.none,.none,.none,.bool Ã,.none] } }:=by have I1:Ç X cW U H { s with heap:=s.heap.push { cls:=.type "tuple",data:=.seq us.toArray } }:=I.kept (t':=s.toks) λb o e=>c7 _ e;have z:(s.heap.push { cls:=.type "tuple",data:=.seq us.toArray }).objs.size=s.heap.objs.size+1:=gw ..;have e:((s.heap.push { cls:=.type "tuple",data:=.seq us.toArray }).push { cls:=.ref C,data:=.fields #[.ref s.heap.objs.size,.none,.none,.none,.bool Ã,.none] }).get? (s.heap.objs.size+1)=Z { cls:=.ref C,data:=.fields #[.ref s.heap.objs.size,.none,.none,.none,.bool Ã,.none] }:=BW z.symm rfl;refine⟨I.hok.fresh<|lM _,I1.laid (t':=s.toks) (λb o e=>c7 _ e) (yZ z) ⟨⟨_,e⟩,⟨_,e⟩,λ_ _ q k=>q.stay k⟩⟩
theorem Ç.xwrite {DT tb tb':Option cZ}(I:Ç X cW U H s)(he:H a=Z (nN a C dx tb))(k:∀b u,b≠a->s.heap.get? b=Z u->h'.get? b=Z u)(new:FG a C DT tb' h') :
  Ç X cW U (upd H a<|nN a C DT tb') { s with heap:=h',toks:=t' }:=by
 obtain⟨a1,e⟩:=id new;exact I.write (x:=a) (e:=a) (by rw[he];trivial) (.inl rfl) k ⟨_,e⟩ ⟨new,⟨_,e⟩,λ_ _ q k=>q.stay k⟩
variable {k:Nat}{sp:Sp}{t:TA}
def GF (C:cZ)(sp:Sp)(t:TA):TE:=λU H Q=>t U H λvs H1=>vs.length<=1000/\∀a,H1 a=S->sp (.ref a::vs) (upd H1 a<|nN a C S S) (λv H2=>v=.non/\Q (.ref a) H2) E0
theorem vx {K:cX}(c:wA K C):∃(nm q:Str) (N:cZ) (bs bm:List cU) (mU:Bool) (sn:List Str) (sub:List cU) (ab:Bool) (col:Option Bool) (dd:Option cZ) (k0 k1 k2 k3 k5:Option cU),
  K.lookup C=Z (excClassObj nm q C N bs bm mU sn sub ab col dd k0 k1 k2 k3 k5 "ValueError.__new__")/\kI bm/\(cU.ref C::bm).contains (.type "ValueError")=Â/\(cU.ref C::bm).contains (.type "BaseException")=Â/\(cU.ref C::bm).contains (.type "AttributeError")=Ã/\(cU.ref C::bm).contains (.type "NameError")=Ã:=by
 obtain⟨nm,q,N,bs,bm,mU,sn,sub,ab,col,dd,k0,k1,k2,k3,k5,ho,hm⟩:=c.ob;exact⟨nm,q,N,bs,bm,mU,sn,sub,ab,col,dd,k0,k1,k2,k3,k5,ho,hm,KZ ho c.mV,KZ ho c.mB,KZ ho c.mA,KZ ho c.mN⟩
theorem Y0 {Q:VK}(c:wA X.K C)(hi:dI X.K (.ref C) "__init__"=Z (Z<|.ref f))(zS:jM X.K (.ref f)=Â)(F:dR X.prog X.w X.K X.mg X.base fL k f fd ps sp)(hr:fw (k+1) X.A)(hb:fK X.K fd ps [])
  (I:Ç X cW U H s) (r:eh vs us) (hz:vs.length<=1000) (h:∀a,H a=S->sp (.ref a::vs) (upd H a<|nN a C S S) (λv H2=>v=.non/\Q (.ref a) H2) E0) :
  dr (dq X.prog X.w) X.A (call (.ref C) us) (EP X cW U Q) X.xe s:=by
 obtain⟨hn,I2⟩:=I.xmade (C:=C) us;have hq:=h _ hn;obtain⟨nm,q,N,bs,bm,mU,sn,sub,ab,col,dd,k0,k1,k2,k3,k5,ho,hm,c1,c2,c3,c4⟩:=vx c;have r2:eh (V.ref (s.heap.objs.size+1)::vs) (cU.ref (s.heap.objs.size+1)::us):=.cons rfl r;have hl:(cU.ref (s.heap.objs.size+1)::us++[]).length=ps.length:=by rw[d6,←r2.length];exact F.len _ _ _ _ hq
 have Ke:=hb _ (cU.ref (s.heap.objs.size+1)::us) I2.kIn hl;rw[d6]at Ke;have Vh:us.length<=sizeLine:=by rw[←r.length];exact fk hz (by rw[eD];lia)
 obtain⟨h0,g,d,t,os⟩:=s;refine wpAny_call<|zq8 c1 c3 c4 (I.kIn _ _ ho) (PySem.W.looks_specialIn I.kIn c.sp) (PySem.W.looks_instIn I.kIn c.ty) (gG I.kIn hi) (λself=>Bt I.kIn self<|beq_iff_eq.mp zS) Vh<|ig (F.run _ X.stack _ _ ⟨cU.ref (h0.objs.size+1)::us,[]⟩ _ _ _ E0 (hr.make C us []) (I2.env0.make C us []) Ke r2 hq) λz s' wK=>?_;cases z with
 |error u=>exact False.elim wK
 |ok fl=>
  cases fl with
  |ret u=>obtain⟨v,G,I3,rv,ev,q3⟩:=I2.after wK;subst ev;exact⟨rv,V.ref<|h0.objs.size+1,G,I3,rfl,q3⟩
  |_=>exact False.elim wK
theorem Ob (c:wA X.K C)(FO:dQ X.K (.ref C)=Â)(hi:dI X.K (.ref C) "__init__"=Z (Z<|.ref f))(zS:jM X.K (.ref f)=Â)(F:dR X.prog X.w X.K X.mg X.base fL k f fd ps sp)(hr:fw (k+1) X.A)(hg:Gl X x)(hm:X.mg x=Z (.ref C))(hb:fK X.K fd ps [])
  (ha:PA X (e::es) t) (jS:iM x:=by decide) (he:SE X e es:=by rfl) (iD:lV X pos es:=by rfl) :
  PE X (.Call (.Name x p) (e::es) [] pos) (GF C sp t):=by
 intro cW s U H Q I h;refine fu<|xj I hg hm (fe (h₀:=X.base) I.ok.mod.kin FO (gb (ha pos cW s U H _ I h) λus s1 ⟨vs,H1,I1,r,q⟩=>⟨I1.kIn,?_⟩) he iD) jS;exact Y0 c hi zS F hr hb I1 r q.1 q.2
def GC (K:cX)(W':GK)(te:TE):TS:=λD U H=>te U H λv H1=>∃a C dx,v=.ref a/\wA K C/\zR H1 a C dx S/\∀T,H1 T=S->W' U a (iO H1 a C dx T)
theorem ZP (hc:X.calm=Â)(hx:lp X W')(he:PE X e te):PS X (.Raise (Z e) S pos) (GC X.K W' te):=by
 intro cW s U H D I h;have main:dr (dq X.prog X.w) X.A (raiseStmt X.env (Z (do let v ← eP e X.env;ij pos;pure v)) S) (SP X cW D) X.xe s:=by
  unfold raiseStmt;refine cY<|cY<|gb (he cW s U H _ I h) λv s1 ⟨v',H1,I1,r1,a,C,dx,e1,c,xr,w⟩=>cY<|kP<|dA ?_;subst e1;cases r1;obtain⟨nm,q,N,bs,bm,mU,sn,sub,ab,col,dd,k0,k1,k2,k3,k5,ho,hm,c1,c2,c3,c4⟩:=vx c;obtain⟨a0,ha⟩:=I1.xc xr;have hC:=I1.kIn _ _ ho;have fin:X.xe (.ref a) s1:=hx cW U H1 s1 a C dx S I1 xr w;have hh:=I.ok.hd hc;obtain⟨h0,g,d,t,os⟩:=s1
  repeat (first|with_reducible refine wpAny_loadPart_at ha ?_|with_reducible refine wpAny_loadPart_at hC ?_|(with_reducible refine wpAny_isSubtype_exc hC ?_;rw[c2])|wp_step)
  exact wpAny_raiseNew_none hh fin
 rw[arm_exec_Raise];exact cY<|kP main
def wZ (K:cX)(to:TE)(te:TE):TE:=λU H Q=>to U H λv H1=>te U H1 λu H2=>∃a C dx tb,v=.ref a/\wA K C/\H2 a=Z (nN a C dx tb)/\Q .non H2
theorem j4 {B:cZ}{to:TE}(hg:Gl X x)(hm:X.mg x=Z (.ref B))
  (h1:gq X.K (.ref B) "__getattribute__"=Z (Z<|.builtin "type.__getattribute__")) (h2:lH X.K B (.type "type")=Â) (h3:lG X.K (.ref B) (.type "type") m=Z (.val<|.builtin "ValueError.__init__")) (ho:PE X o to) (he:PE X e te)
  (jS:iM x:=by decide) (jH:dM [o,e] X.env=[(Ã,eP o X.env),(Ã,eP e X.env)]:=by rfl) (DZ:SN X e:=by rfl)
  (ht:eP (.Call (.Attribute (.Name x p) m fG) [o,e] [] pos) X.env=(do
   let ov ← eP (.Name x p) X.env
   ij fG.atName
   let(f,first) ← fH [ov] (iU ov m pl)
   jK pos f first (gR pos<|dM [o,e] X.env) (ir pos<|fO [] X.env)):=by rfl) :
  PE X (.Call (.Attribute (.Name x p) m fG) [o,e] [] pos) (wZ X.K to te):=by
 intro cW s U H Q I h;refine hU (pl:=pl) (xj I hg hm ?_ jS) ht;refine zQ I.kIn h1<|Aa I.kIn h2 h3 rfl ?_;have I1:Ç X cW U H { s with toks:=s.toks+1 }:=I.tok _;refine oY (gb ((ya ho (ya he yz DZ)<|by show dM _ _=_;rw[jH,DZ]) pos cW _ U H (λvs H2=>match vs with|[v,u]=>∃a C dx tb,v=.ref a/\wA X.K C/\H2 a=Z (nN a C dx tb)/\Q .non H2|_=>False) I1 h) λus s2 ⟨vs,H2,I2,r,q2⟩=>?_) (by show dM _ _=_;rw[jH,DZ]) (by rw[DZ];rfl);cases r with
 |nil=>exact False.elim q2
 |cons rv r=>
  cases r with
  |nil=>exact False.elim q2
  |cons ru r=>
   cases r with
   |cons _ _=>exact False.elim q2
   |nil=>
    obtain⟨a,C,dx,tb,e1,c,ha,q3⟩:=q2;subst e1;cases rv;obtain⟨nm,q,N,bs,bm,mU,sn,sub,ab,col,dd,k0,k1,k2,k3,k5,Ki,hmr,c1,c2,c3,c4⟩:=vx c;obtain⟨a0,ea⟩:=(I2.hok a _ ha).1;refine wpAny_call (ZO c1 (I2.kIn _ _ Ki) ea (by show 1<=sizeLine;rw[eD];lia) λh' a1 kp e2=>?_);have I3:=I2.xwrite (tb':=tb) (DT:=dx) ha (h':=h') (t':=s2.toks) kp ⟨a1,e2⟩;have hH:upd H2 a (nN a C dx tb)=H2:=by
     funext b;by_cases hb:b=a
     ·rw[hb,zo,ha]
     ·rw[zn hb]
    rw[hH]at I3;exact⟨.non,H2,I3,rfl,q3⟩
def Bl (K:cX)(f:Str)(te to:TE):TS:=λD U H=>te U H λu H1=>to U H1 λv H2=>∃a C tb,v=.ref a/\wA K C/\eF K C=Â/\dI K (.ref C) "__setattr__"=Z (Z<|.builtin "object.__setattr__")/\ft K C f=Z S/\H2 a=Z (nN a C S tb) /\
 ∀dx,H2 dx=S->dx≠a->D.nx U (upd (upd H2 dx<|.xd [(f,u)]) a<|nN a C (Z dx) tb)
theorem JD {f:Str}{to:TE}(ho:PE X o to)(hv:PE X value tv)(hs:gc value (Z<|.Attribute o f pos') pos.line X.env=pure Ã:=by rfl):PS X (.Assign [.Attribute o f pos'] value pos) (Bl X.K f tv to):=by
 intro cW s U H D I h;refine plainObj_wpAny_Assign_Attribute (gb (hv cW s U H _ I h) λu s1 ⟨u',H1,I1,r1,q1⟩=>gb (ho cW s1 U H1 _ I1 q1) λov s2 hq=>?_) hs;obtain⟨v',H2,I2,r2,q2⟩:=hq;obtain⟨a,C,tb,e1,c,hd,Kk,Km,ha,w⟩:=q2;subst e1;cases r2;obtain⟨nm,q,N,bs,bm,mU,sn,sub,ab,col,dd,k0,k1,k2,k3,k5,Ki,hm,c1,c2,c3,c4⟩:=vx c;obtain rfl:mU=Â:=by unfold eF kX at hd;rw[Ki]at hd;simpa using hd
 obtain⟨a0,ea⟩:=(I2.hok a _ ha).1;refine Ω I2.kIn Ki hm ea (λ_ z=>by cases z) rfl Kk Km λh' dx Dn oQ rG MW xL kp=>?_;have nn:∀b,H2 b=S->b≠a:=λb hb q=>by rw[q,ha]at hb;cases hb
 have G9:H2 dx=S:=I2.hok.fresh rG;have nT:∀b o,s2.heap.get? b=Z o->b≠dx:=λb o q z=>by rw[z,Dn]at q;cases q
 refine⟨U,upd (upd H2 dx<|.xd [(f,u')]) a<|nN a C (Z dx) tb,I2.step (g':=s2.gens) (t':=s2.toks+2) (d':=s2.drawn) (ch:=[]) (λb z=>nomatch z) (λb o _ _ _ q n=>kp b o (nn b n) q) (λb o _ _ _ q n=>⟨o.slots,kp b o (nn b n) q⟩) (λb o _ q n=>?_) (λb o _ q=>?_) (λb xs q=>?_) (λb o u q=>?_) (λb ps q=>?_) (λm q=>?_) (λb u q=>?_) I2.bare,w dx G9 oQ⟩
 ·rw[zn<|nn b n,zn<|nT b o q];exact n
 ·by_cases hb:b=a
  ·rw[hb];exact⟨_,MW⟩
  ·exact⟨o,kp b o hb q⟩
 ·rw[zn (λz=>by rw[z,ha]at q;cases q),zn<|zp q G9];exact q
 ·rw[zn (λz=>by rw[z,ha]at q;cases q),zn<|zp q G9];exact q
 ·exact⟨#[],by rw[zn (λz=>by rw[z,ha]at q;cases q),zn<|zp q G9,q];simp⟩
 ·obtain⟨o,es,ep,ho,r⟩:=q;exact⟨o,es,ep,kp _ _ (nn _ I2.free) ho,r⟩
 ·by_cases hb:b=a
  ·subst hb;rw[zo]at q;cases q;exact⟨⟨a0,MW⟩,⟨_,MW⟩,λ_ _ z k=>z.stay k⟩
  ·rw[zn hb]at q;by_cases DX:b=dx
   ·rw[DX,zo]at q;cases q;rw[DX];refine⟨_,xL,λy=>?_⟩;by_cases hy:y=f
    ·subst hy;rw[if_pos rfl];have:(y==y)=Â:=beq_self_eq_true y;simp only[jP,this];exact r1
    ·rw[if_neg hy];have:(y==f)=Ã:=beq_eq_false_iff_ne.mpr hy;simp only[jP,this];trivial
   ·rw[zn DX]at q;refine(I2.hok b u q).stay (λc v hc z=>kp c v ?_ z) (λc z=>?_)<|λc xs z=>?_
    ·rcases hc with rfl|hc
     ·exact hb
     ·intro e;rw[e,ha]at hc;cases hc
    ·rw[zn (λe=>by rw[e,ha]at z;cases z),zn<|zp z G9];exact z
    ·rw[zn (λe=>by rw[e,ha]at z;cases z),zn<|zp z G9];exact z
end
abbrev TF:=St->Hp->(Hp->Prop)->Prop
def PF (X:Cx)(e:Expr)(n:Nat)(t:TF):Prop:=∀(cW:List<|cZ×gM) (s:de) (U:St) (H:Hp) (Q:Hp->Prop),Ç X cW U H s->t U H Q ->
 dr (dq X.prog X.w) X.A (eP e X.env) (λv s1=>∃y tk H1,v=.str y tk/\y.length<=n/\Ç X cW U H1 s1/\Q H1) X.xe s
theorem u7 {c:Str}{j}(hz:c.length<=2000:=by decide):PF X (.Constant (.str c) j pos) 2000 (λ_ H Q=>Q H):=λ_ _ _ H _ I h=>Calls.Constant_str ⟨c,_,H,rfl,hz,I.tok _,h⟩
def vE (v:V):Prop:=v=.non\/∃i:Int,v=.int i/\i.natAbs.log2<1920
theorem O2 (he:PE X e te):PF X (.FormattedValue e (-1) S pos) 2000 (λU H Q=>te U H λv H1=>vE v/\Q H1):=by
 intro cW s U H Q I h;refine wpAny_FormattedValue_plain<|gb (he cW s U H _ I h) λu s1 gP=>?_;obtain⟨v,H1,I1,r1,f,q⟩:=gP;rcases f with rfl|⟨i,rfl,hi⟩
 ·cases r1;exact wpAny_formatField_none ⟨_,_,H1,rfl,by decide,I1.tok _,q⟩
 ·obtain⟨t,rfl⟩:=r1;refine wpAny_formatField_int hi ⟨_,_,H1,rfl,?_,I1.tok _,q⟩;have z:=int_text_length_le (k:=1920) (by decide) hi;rw[PySem.ofString_length];lia
def JS (X:Cx)(es:List Expr)(t:TF):Prop:=∀(cW:List<|cZ×gM) (s:de) (U:St) (H:Hp) (kD:Str) (Q:VK),Ç X cW U H s->kD.length+2000*es.length<=100000->t U H (λH1=>∀x,Q (.str x) H1) ->
 Joins (dq X.prog X.w) X.A X.xe (evalEach es X.env) kD (λout s1=>out.length<=sizeLine/\EP X cW U Q (.str out s1.toks) { s1 with toks:=s1.toks+1 }) s
theorem JE:JS X [] (λ_ H Q=>Q H):=by intro cW s U H kD Q I hz h;exact⟨by rw[eD];lia,.str kD,H,I.tok _,⟨_,rfl⟩,h kD⟩
theorem xp {t1 t2:TF}(h1:PF X e 2000 t1)(h2:JS X es t2)(hs:evalEach (e::es) X.env=eP e X.env::evalEach es X.env:=by rfl):JS X (e::es) (λU H Q=>t1 U H λH1=>t2 U H1 Q):=by intro cW s U H kD Q I hz h;rw[hs];refine fW (h1 cW s U H _ I h) (λv s1 hq=>?_) λ_ _ x=>x;obtain⟨y,tk,H1,e1,hy,I1,q⟩:=hq;have hl:(kD++y).length=kD.length+y.length:=strLen_append _ _;rw[dw]at hz;exact⟨y,tk,e1,by rw[hl,eD];lia,h2 cW s1 U H1 (kD++y) Q I1 (by rw[hl];lia) q⟩
theorem JF {a b:Expr}{t:TF}(h:JS X (a::b::es) t)(hl:(a::b::es).length<=40:=by decide):PE X (.JoinedStr (a::b::es) pos) (λU H Q=>t U H λH1=>∀x,Q (.str x) H1):=by intro cW s U H Q I hq;refine wpAny_JoinedStr<|h cW s U H Str.empty Q I ?_ hq;have:(Str.empty:Str).length=0:=rfl;lia
structure Ć (K:cX)(C:cZ)(f:Str):Prop where
 ga:dI K (.ref C) "__getattribute__"=Z (Z<|.builtin "BaseException.__getattribute__")
 gn:dI K (.ref C) "__getattr__"=Z S
 mB:fS K C (.type "BaseException")=Z Â
 hd:eF K C=Â
 no:dI K (.ref C) f=Z S
def Jz (K:cX)(ta:TE)(f:Str):TE:=λU H Q=>ta U H λx H1=>∃a C dx tb fs v,x=.ref a/\H1 a=Z (nN a C (Z dx) tb)/\H1 dx=Z (.xd fs)/\Ć K C f/\fs.lookup f=Z v/\Q v H1
theorem zra {f:Str}(he:PE X e te)(hb:Af X e f):PE X (.Attribute e f pos) (Jz X.K te f):=by
 intro cW s U H Q I h;refine R3 hb<|gb (he cW s U H _ I h) λu s1 gP=>?_;obtain⟨x,H1,I1,rx,a,C,dx,tb,fs,v,ex,ea,ed,c,l,q⟩:=gP;subst ex;cases rx;obtain⟨a0,eo⟩:=(I1.hok a _ ea).1;obtain⟨mA,xL,MP⟩:=I1.hok dx _ ed;obtain⟨od,ho,hl⟩:=Q7 xL;have L':jE s1.heap a _ C (Z od):=⟨eo,rfl,rfl,ho⟩;have hv:=MP f;rw[l]at hv;cases hm:mA f with
 |none=>rw[hm]at hv;exact False.elim hv
 |some w=>rw[hm]at hv;exact ŷ I1.kIn L' c.ga c.gn c.mB (xR c.hd c.no rfl<|by rw[hl,hm]) (Q8 hv) ⟨v,H1,I1.tok _,hv,q⟩
structure å (K:cX)(C:cZ):Prop where
 ga:dI K (.ref C) "__getattribute__"=Z (Z<|.builtin "BaseException.__getattribute__")
 gn:dI K (.ref C) "__getattr__"=Z S
 mB:fS K C (.type "BaseException")=Z Â
 hd:eF K C=Â
 ca:dI K (.ref C) "__class__"=Z (Z<|.builtin "object.__class__")
 cg:gq K (.builtin "object.__class__") "__get__"=Z (Z<|.builtin "getset_descriptor.__get__")
 ct:rW K (.builtin "object.__class__")=Z Â
 mO:fS K C (.type "object")=Z Â
section
variable {prog:eI}{w:d5}{A:dO}{K:cX}{x:cZ}{ox:gM}{od:Option gM}
theorem Zo {Q:Option cU->de->Prop}(c:å K C)(X:K.In s.heap)(L':jE s.heap x ox C od)(h:Q (Z<|.ref C) { s with toks:=s.toks+1 }):dr (dq prog w) A (getAttr? (.ref x) "__class__") Q E s:=by
 have hf:rT K C od "__class__"=Z (.bind (.builtin "getset_descriptor.__get__")<|.builtin "object.__class__"):=by obtain⟨cd,hc,_⟩:=mM c.hd;unfold rT;rw[hc,gD,c.ca,gD];dsimp only;rw[c.cg,gD];dsimp only;rw[c.ct,gD]
 obtain⟨hh,g,d,t,os⟩:=s;have l0:ek (dq prog w) hh _ _:=L'.type;have l1:ek (dq prog w) hh _ _:=gG X c.ga;have l2:ek (dq prog w) hh _ _:=gG X c.gn;have l3:ek (dq prog w) hh _ _:=zP X L' hf;have FX:=PySem.F.excAttr_ValueError;have FY:(cU.builtin "BaseException.__getattribute__" == cU.builtin "object.__getattribute__")=Ã:=by decide +kernel
 unfold getAttr? getAttrBy? getAttrBy;refine cY<|wpAny_mkText<|cY<|wpAny_attempt<|gA<|cY<|l0.at<|cY<|l1.at ?_;dsimp only;rw[FY,Dz,if_neg di];unfold getAttrByItsOwn hookBefore;rw[if_pos<|show onTheHeap (cU.ref C)=Â from rfl];refine cY<|l2.at ?_;refine cY<|wpAny_attempt<|gA ?_;unfold callGetattribute;rw[if_neg<|by decide];unfold boundAndCalled;rw[FX.ga.bind<|.ref x];refine cY<|dA ?_;have hi:ek (dq prog w) hh (isInstance (.ref x)<|.type "BaseException") Â:=l0.andThen<|oM X c.mB;refine wpAny_call (codeAny_call_builtin FX.ga.plain PySem.F.entry_bexc_ga<|@lT (dq prog w) _ _ ⟨hh,g,d,t+1,os⟩ "BaseException.__getattribute__" "BaseException" "__getattribute__" (.ref x) [.str "__class__" t] [] _ (by decide +kernel) (by decide +kernel) hi (PySem.F.args_bexc_ga _ _) ?_);unfold Builtin.«object.__getattribute__»;refine cY<|dA<|cY<|dA<|cY<|l0.at<|cY<|l3.at ?_;show dr _ _ (fH [.builtin "object.__class__"] (call (.builtin "getset_descriptor.__get__") [.builtin "object.__class__",.ref x,.ref C]) >>= ret) _ _ _;refine cY<|gA<|wpAny_call<|PySem.W.class_get (s:=⟨hh,g,d,t+1,os⟩) X L' c.mO ?_;refine dA ?_;show dr _ _ (handedOut<|.ref C) _ _ _;exact PySem.W.handed_on rfl<|dA h
theorem Zq (c:å K C):PySem.W.KitX K (.ref x) (.ref C) (λh=>jE h x ox C od) where
 ty:=λ_ _ _ L'=>L'.type
 it:=λJ' h X _=>by
  obtain⟨cd,hc,_⟩:=mM c.hd;unfold kX at hc;split at hc
  ·rename_i c' d' T4 NC ho;intro A' Q' E' s' k q;unfold isType loadHead;exact cY<|wpAny_loadPart (k _ _<|X _ _ ho)<|dA q
  ·cases hc
 ne:=λh tp dd eG n sl X Ve=>by
  obtain⟨cd,hc,_⟩:=mM c.hd;refine Bool.eq_false_iff.mpr λq=>?_;obtain rfl:C=tp:=cU.ref.inj<|beq_iff_eq.mp q;unfold kX at hc;split at hc
  ·rename_i c' d' T4 NC ho;have z:=(X _ _ ho).symm.trans Ve;cases z
  ·cases hc
 ca:=λX L' k=>Zo c X L' k
end
noncomputable abbrev Cx.tr (X:Cx)(E:cU->de->Prop)(cW:List<|cZ×gM):Cx:={ X with xe:=E,pn:=X.pn++cW }
noncomputable abbrev Cx.hd (X:Cx)(a:cZ):Cx:={ X with A:=X.A.mark (Z<|.ref a),calm:=false,xe:=λ_ _=>False }
variable {body:List et}{v:V}
theorem Ç.tr (I:Ç X cW U H s)(E:cU->de->Prop):Ç (X.tr E cW) [] U H s :=
 ⟨⟨I.ok.mod,I.ok.kind,I.ok.glob,I.ok.blt,I.ok.above,I.ok.inj,I.ok.has,I.ok.cab,I.ok.hd,I.ok.frames,I.ok.stk,I.ok.exf,I.ok.bs,I.ok.bsz,I.ok.noex,I.ok.exfs,I.ok.funs,I.ok.frf⟩,I.os,I.bare,I.base,I.loc,I.cell,I.free,I.freeC,λp hp=>I.pin p<|by simpa using hp,I.hok,I.len⟩
theorem Ç.untr {q:List (cZ×gM)}(I:Ç (X.tr E cW) q U H s):Ç X cW U H s :=
 ⟨⟨I.ok.mod,I.ok.kind,I.ok.glob,I.ok.blt,I.ok.above,I.ok.inj,I.ok.has,I.ok.cab,I.ok.hd,I.ok.frames,I.ok.stk,I.ok.exf,I.ok.bs,I.ok.bsz,I.ok.noex,I.ok.exfs,I.ok.funs,I.ok.frf⟩,I.os,I.bare,I.base,I.loc,I.cell,I.free,I.freeC,λp hp=>I.pin p<|dc _ hp,I.hok,I.len⟩
theorem Ç.hdl (I:Ç X cW U H s)(a:cZ):Ç (X.hd a) cW U H s :=
 ⟨⟨I.ok.mod,I.ok.kind,I.ok.glob,I.ok.blt,I.ok.above,I.ok.inj,I.ok.has,I.ok.cab,(λz=>by cases z),I.ok.frames,I.ok.stk,I.ok.exf,I.ok.bs,I.ok.bsz,I.ok.noex,I.ok.exfs,I.ok.funs,I.ok.frf⟩,I.os,I.bare,I.base,I.loc,I.cell,I.free,I.freeC,I.pin,I.hok,I.len⟩
theorem Ç.unhd (ok:X.Ok)(I:Ç (X.hd a) cW U H s):Ç X cW U H s :=
 ⟨ok,I.os,I.bare,I.base,I.loc,I.cell,I.free,I.freeC,I.pin,I.hok,I.len⟩
theorem SP.untr {D:lO}{f:Flow}(h:SP (X.tr E cW) [] D f s'):SP X cW D f s':=by
 cases f with
 |next=>obtain⟨σ',G,I,q⟩:=h;exact⟨σ',G,I.untr,q⟩
 |brk=>obtain⟨σ',G,I,q⟩:=h;exact⟨σ',G,I.untr,q⟩
 |cont=>obtain⟨σ',G,I,q⟩:=h;exact⟨σ',G,I.untr,q⟩
 |ret u=>obtain⟨v,σ',G,I,r,q⟩:=h;exact⟨v,σ',G,I.untr,r,q⟩
abbrev TH:=cZ->cZ->TS
def PH (X:Cx)(hs:List ExceptHandler)(th:TH):Prop:=∀(cW:List<|cZ×gM) (s:de) (U:St) (H:Hp) (D:lO) (a C:cZ) (dx:Option cZ) (T:cZ),Ç X cW U H s->zR H a C dx (Z T)->th a C D U H ->
 dr (dq X.prog X.w) X.A (handleBy (.ref a) X.env hs) (SP X cW D) X.xe s
theorem Ŷ:PH X [] (λ_ _ _ _ _=>False):=λ_ _ _ _ _ _ _ _ _ _ _ h=>h.elim
theorem W1 {A:dO}{Q:Unit->de->Prop}(I:Ç X cW U H s)(x:zR H a C dx<|Z T)(h:Q () s):dr J' A (setFlight (.ref a) S) Q E s:=by obtain⟨a0,he⟩:=I.xc x;obtain⟨ts,ht,h3⟩:=I.tbo x;unfold setFlight;refine cY (wpAny_field he rfl (x:=.ref T) (by simp) ?_);rw[if_pos<|show(cU.ref T != cU.none)=Â from by simp];refine wpAny_setField ht rfl (l7.mp h3).1 ?_;show Q () { s with heap:=s.heap.update T (gM.mapFields (·.setIfInBounds 3 cU.none)) };rw[vA s.heap T _ ts 3 .none ht rfl h3];exact h
def GH (th:TH)(D:lO):GK:=λσ' a G=>∃C dx T,zR G a C dx (Z T)/\th a C D σ' G
theorem ŵ {h0:ExceptHandler}{hs:List ExceptHandler}{th:TH}{tb:∀(E:cU->de->Prop) (cW:List<|cZ×gM) (W':GK),gE (dq X.prog X.w) X.A X.env E->lp (X.tr E cW) W'->TS}(jH:X.stack=X.env::X.outer)(hf:X.env.frame=Z X.env.locals)
  (hb:∀E cW W' h1 h2,tG (X.tr E cW) body<|tb E cW W' h1 h2) (hh:PH X (h0::hs) th):PS X (.Try body (h0::hs) [] [] pos) (λD U H=>∀E cW h1 h2,tb E cW (GH th D) h1 h2 D U H):=by
 intro cW s U H D I h;refine wpAny_Try_except ?_;have key:dr (dq X.prog X.w) X.A (execs body X.env) (SP (X.tr (λe s1=>dr (dq X.prog X.w) X.A (noteFrame e X.env) (λ_ s2=>dr (dq X.prog X.w) X.A (setFlight e S) (λ_ s3=>dr (dq X.prog X.w) X.A (handleBy e X.env (h0::hs)) (SP X cW D) X.xe s3) X.xe s2) X.xe s1) cW) [] D)
   (λe s1=>dr (dq X.prog X.w) X.A (noteFrame e X.env) (λ_ s2=>dr (dq X.prog X.w) X.A (setFlight e S) (λ_ s3=>dr (dq X.prog X.w) X.A (handleBy e X.env (h0::hs)) (SP X cW D) X.xe s3) X.xe s2) X.xe s1) s:=by
  have p1:gE (dq X.prog X.w) X.A X.env (λe s1=>dr (dq X.prog X.w) X.A (noteFrame e X.env) (λ_ s2=>dr (dq X.prog X.w) X.A (setFlight e S) (λ_ s3=>dr (dq X.prog X.w) X.A (handleBy e X.env (h0::hs)) (SP X cW D) X.xe s3) X.xe s2) X.xe s1) :=
   gE.looking (K:=λe s2=>dr (dq X.prog X.w) X.A (setFlight e S) (λ_ s3=>dr (dq X.prog X.w) X.A (handleBy e X.env (h0::hs)) (SP X cW D) X.xe s3) X.xe s2)
  have p2:lp (X.tr (λe s1=>dr (dq X.prog X.w) X.A (noteFrame e X.env) (λ_ s2=>dr (dq X.prog X.w) X.A (setFlight e S) (λ_ s3=>dr (dq X.prog X.w) X.A (handleBy e X.env (h0::hs)) (SP X cW D) X.xe s3) X.xe s2) X.xe s1) cW) (GH th D):=by intro q σ' G s' a C dx tb I' xr g;have L':=I'.untr;refine L'.note jH hf L'.ok.frames xr λs2 T hT J2=>?_;obtain⟨C2,LV,T2,NX,h2⟩:=g T hT;exact hh cW s2 σ' _ D a C2 LV T2 J2 NX h2
  exact hb _ cW _ p1 p2 [] s U H D (I.tr _)<|h _ cW p1 p2
 refine fW key (λf s1 q=>?_) λ_ _ z=>z;have q:=q.untr;cases f with
 |next=>exactλΓ p hΓ=>q
 |_=>exact q
theorem Ç.del {A:dO}{i:Nat}{n:Str}{Q:Unit->de->Prop}(I:Ç X cW U H s)(hN:X.N.Nodup)(hi:X.N[i]?=Z n)(hl:X.env.scope.names.lookup n=Z .local)(hσ:U[i]?=Z (Z v))
  (h:∀s',Ç X cW (U.set i S) H s'->Q () s'):dr J' A (unbindName X.env n) Q E s:=by
 obtain⟨m,hn,Ir⟩:=id I.loc;obtain⟨u,r,lk⟩:=Ir i n v hi hσ<|.inl hl;have FM:(X.env.scope.kind==.class || (X.env.scope.kind==.module&&X.env.locals != X.env.globals))=Ã:=by rw[I.ok.kind];rfl
 have hm:m n=Z u:=by
  rcases lk with⟨_,q⟩|⟨k,_⟩
  ·exact q
  ·have k:X.env.scope.names.lookup n=Z .cell\/X.env.scope.names.lookup n=Z .free:=k;rw[hl]at k;rcases k with k|k<;>cases k
 refine wpAny_unbindName_local hl hn hm FM λh' u' EU hs=>?_;have Hh:∀b o,X.s₀.heap.get? b=Z o->b≠X.env.locals:=λb o e=>dU<|d8 (dB e) I.ok.above;obtain⟨oL,_,_,PV,_⟩:=id hn;refine h _ ⟨I.ok,I.os,I.bare,⟨λb o e nn hb hx=>(hs.2 b<|Hh b o e).trans<|I.base.keep b o e nn hb hx,λb o e nn hb hx=>?_,I.base.free,λb o e hx=>?_,I.base.tups,I.base.frzs,I.base.tbls⟩,⟨_,EU,λj y v' e1 e2 e3=>?_⟩,λy c e=>?_,I.free,I.freeC,λp hp=>?_,λb ob e=>?_,by simpa using I.len⟩
 ·obtain⟨sl,e1⟩:=I.base.slot b o e nn hb hx;exact⟨sl,(hs.2 b<|Hh b o e).trans e1⟩
 ·obtain⟨o',e1⟩:=I.base.there b o e hx;exact⟨o',(hs.2 b<|Hh b o e).trans e1⟩
 ·by_cases hj:j=i
  ·subst hj;rw[iR<|by rw[I.len];exact(ee.mp hi).1]at e2;cases e2
  ·rw[gj<|Ne.symm hj]at e2;obtain⟨w,r',q⟩:=Ir j y v' e1 e2 e3;refine⟨w,r',?_⟩;rcases q with⟨k,e⟩|⟨k,c,e,z⟩
   ·refine .inl ⟨k,?_⟩;have:y≠n:=λe=>hj<|Oe hN e1<|e▸hi;simp[this,e]
   ·exact .inr ⟨k,c,e,z.sameBut hs<|I.cne y c e⟩
 ·obtain⟨w',z⟩:=I.cell y c e;exact⟨w',z.sameBut hs<|I.cne y c e⟩
 ·obtain⟨e,nn,ne,nf,d⟩:=I.pin p hp;exact⟨(hs.2 p.1 ne).trans e,nn,ne,nf,d⟩
 ·refine(I.hok b ob e).stay (λc w' hc q=>(hs.2 c ?_).trans q) (λ_ q=>q) λ_ _ q=>q;rintro rfl;rcases hc with rfl|hc
  ·rw[I.free]at e;cases e
  ·rw[I.free]at hc;cases hc
def lO.un (D:lO)(i:Nat):lO:={ nx:=λU H=>D.nx (U.set i S) H,rt:=D.rt,bk:=λU H=>D.bk (U.set i S) H,ct:=λU H=>D.ct (U.set i S) H }
theorem ř {n:Str}{i:Nat}{np:my}{B:cZ}{Ê:List ExceptHandler}{tb:cZ->TS}{th:TH}(hN:X.N.Nodup)(hi:X.N[i]?=Z n)(hl:X.env.scope.names.lookup n=Z .local)(hg:Gl X x)(hm:X.mg x=Z (.ref B))(hb:∀a,tG (X.hd a) body<|tb a)(hr:PH X Ê th)(oQ:body≠[]:=by simp)(jS:iM x:=by decide) :
  PH X (.ExceptHandler (Z<|.Name x np) (Z n) body pos::Ê) (λa C D U H=>∃b,fR X.K (.ref C) (.ref B)=Z b/\if b=Â then tb a (D.un i) (U.set i<|Z<|.ref a) H else th a C D U H):=by
 intro cW s U H D a C dx T I xr h;obtain⟨b,hx,h⟩:=h;have I1:=I.hdl a;obtain⟨a0,he⟩:=I.xc xr;refine wpAny_handleBy_cons (codeAny_handlers_test<|xj I1 hg hm ?_ jS) (by intro z;cases z);have LT:ek (dq X.prog X.w) s.heap (typeOf<|.ref a) (.ref C):=(ek.ld he).andThen .now;refine(PySem.W.exm_one I.kIn LT hx).here ?_;cases b with
 |false=>rw[if_neg di]at h ⊢;exact hr cW s U H D a C dx T I xr h
 |true=>
  rw[if_pos rfl]at h ⊢;have fin:∀{f:Flow} {s':de} {A:dO} {E:cU->de->Prop},SP (X.hd a) cW (D.un i) f s'->dr (dq X.prog X.w) A (do bindName X.env n .none;unbindBehindTheSuite X.env n pos) (λ_ s3=>SP X cW D f s3) E s':=by
   intro f s' A E q;have go:∀{σ':St} {G:Hp},Ç (X.hd a) cW σ' G s'->(∀s3,Ç X cW (σ'.set i S) G s3->SP X cW D f s3)->dr (dq X.prog X.w) A (do bindName X.env n .none;unbindBehindTheSuite X.env n pos) (λ_ s3=>SP X cW D f s3) E s':=by intro σ' G L' w;refine cY<|wpAny_bindName<|jy (L'.unhd I.ok) hN hi (.inl hl) (v:=.non) rfl (λs3 J3=>?_)<|.inr hl;unfold unbindBehindTheSuite;refine wpAny_onRaise (J3.del hN hi hl (v:=.non) (by rw[iR<|by rw[L'.len];exact(ee.mp hi).1]) λs4 J4=>?_);rw[rn]at J4;exact w s4 J4
   cases f with
   |next=>obtain⟨σ',G,L',q⟩:=q;exact go L' λs3 J3=>⟨_,G,J3,q⟩
   |brk=>obtain⟨σ',G,L',q⟩:=q;exact go L' λs3 J3=>⟨_,G,J3,q⟩
   |cont=>obtain⟨σ',G,L',q⟩:=q;exact go L' λs3 J3=>⟨_,G,J3,q⟩
   |ret u=>obtain⟨v,σ',G,L',r,q⟩:=q;exact go L' λs3 J3=>⟨v,_,G,J3,r,q⟩
  refine codeAny_of_tree ?_;show dr _ (X.A.mark<|Z<|.ref a) (do return Fin.done (← (handleWith (.ref a) X.env [.ExceptHandler S (Z n) body pos]).onRaise (λx=>do noteFrame x X.env;theTreesLotGoes x))) _ _ s;refine cY<|wpAny_noted ?_;have hw:handleWith (.ref a) X.env [.ExceptHandler S (Z n) body pos]=(do
    ij pos
    setFlight (.ref a) S
    bindName X.env n (.ref a)
    match ← (execs body X.env).attempt with
    |.ok f=>pure f
    |.error x=>
     noteFrame x X.env
     fH [x] <|(do
      bindName X.env n .none
      unbindBehindTheSuite X.env n pos:Cd Unit).onRaise λ_=>setFlight x S
     passOn "try.except-as" x X.env):=by
   cases body with
   |nil=>exact absurd rfl oQ
   |cons _ _=>rfl
  rw[hw];refine cY<|kP<|cY<|W1 I xr<|cY<|wpAny_bindName<|jy (X:=X.hd a) I1 hN hi (.inl hl) (v:=.ref a) rfl (λs3 J3=>?_)<|.inr hl;refine cY<|wpAny_attempt<|fW (hb a cW s3 _ H _ J3 h) (λf s4 q=>dA<|dA ?_) λ_ _ z=>False.elim z;exact fin q
def Ak (ns:List Int):Prop:=ns.length<=100/\∀i∈ns,0<=i/\i<16384
def HE (K:cX)(H:Hp)(v:V):Prop:=∃p ns,v=.ref p/\i6 K H p (ns.map V.int)/\Ak ns
theorem j5 {h:dz}:∀{ns:List Int} {eG:List cU},eh (ns.map V.int) eG->ReadsAll h eG (ns.map dX.int) []
 |[],_,.nil=>.nil
 |n::ns,_,.cons r t=>by obtain⟨tk,rfl⟩:=r;exact ReadsAll.cons (as:=[]) (bs:=[]) (.int n tk)<|j5 t
theorem Y1 {i:Int}(h:0<=i/\i<16384):i.natAbs.log2<14:=by
 by_cases h0:i.natAbs=0
 ·rw[h0];decide
 ·rw[AN h0];lia
theorem X1 {ns:List Int}(h:Ak ns):dX.showable (.list<|ns.map .int)=Â/\dX.hasDict (.list<|ns.map .int)=Ã/\dX.depth (.list<|ns.map .int)<=1/\(dX.shown<|.list<|ns.map .int).length<=2000:=by
 have hb:∀L:List Int,(∀i∈L,0<=i/\i<16384)->dX.showableAll (L.map .int)=Â/\dX.hasDictAll (L.map .int)=Ã/\dX.depthAll (L.map .int)=0/\dX.leavesShortAll 16 (L.map .int)=Â/\dX.bulkAll (L.map .int)=L.length:=by
  intro L;induction L with
  |nil=>intro _;exact⟨rfl,rfl,rfl,rfl,rfl⟩
  |cons m L ih=>
   intro hm;obtain⟨a1,a2,a3,a4,a5⟩:=ih λi hi=>hm i<|df _ hi;have hl:=Y1<|hm m cV;refine⟨?_,?_,?_,?_,?_⟩
   ·rw[dJ];simp only[dX.showableAll,dX.showable,a1,vO];exact decide_eq_true (by lia)
   ·rw[dJ];simp only[dX.hasDictAll,dX.hasDict,a2,vP]
   ·rw[dJ];simp only[dX.depthAll,dX.depth,a3];rfl
   ·rw[dJ];simp only[dX.leavesShortAll,dX.leavesShort,a4,vO];refine decide_eq_true ?_;have z:=int_text_length_le (k:=14) (by decide) hl;show(dX.shown<|.int m).length<=16;unfold dX.shown;rw[PySem.ofString_length];lia
   ·rw[dJ];simp only[dX.bulkAll,dX.bulk,a5,dw];lia
 obtain⟨a1,a2,a3,a4,a5⟩:=hb ns h.2;refine⟨by simp only[dX.showable];exact a1,by simp only[dX.hasDict];exact a2,by simp only[dX.depth,a3];lia,?_⟩;have:=dX.shown_le_bulk 16 (by decide) (.list<|ns.map .int) (by simp only[dX.leavesShort];exact a4);have hl:=h.1;simp only[dX.bulk,a5]at this;lia
theorem Ŵ (hg:X.A.guards=Z [])(hu:X.A.units+64<i8)(he:PE X e te):PF X (.FormattedValue e (-1) S pos) 2000 (λU H Q=>te U H λv H1=>HE X.K H1 v/\Q H1):=by intro cW s U H Q I h;refine wpAny_FormattedValue_plain<|gb (he cW s U H _ I h) λu s1 hq=>?_;obtain⟨v,H1,I1,r1,⟨p,ns,ev,hq,hs⟩,q⟩:=hq;subst ev;cases r1;obtain⟨eG,r,⟨o,n,e,c,_,d⟩,hz⟩:=I1.list hq;obtain⟨VN,s2,s3,s4⟩:=X1 hs;have rd:Reads s1.heap (.ref p) (.list<|ns.map .int) [p]:=.list e c d (by simpa using j5 r);exact formatField_of_reads rd VN (λz=>by rw[s2]at z;cases z) hg (by lia) (λ_ _ e=>e) (λh' u tk hk=>⟨_,u,H1,rfl,s4,I1.kept (t':=tk) hk,q⟩) (by rw[eD];lia)
variable {κ:Type}{y:V}
section
variable [DecidableEq κ]
noncomputable def nw (fF:List<|κ×V)(k:κ):Option V:=(fF.find? λkv=>decide<|kv.1=k).map (·.2)
noncomputable def ß (fF:List<|κ×V)(k:κ)(v:V):List (κ×V) :=
 if(fF.any λkv=>decide<|kv.1=k)=Â then fF.map (λkv=>if kv.1=k then(kv.1,v)else kv)else fF++[(k,v)]
theorem Oc {p:κ×V}{r:List (κ×V)}{k:κ}(e:p.1=k):nw (p::r) k=Z p.2:=by simp[nw,fJ,e]
theorem Od {p:κ×V}{r:List (κ×V)}{k:κ}(e:¬p.1=k):nw (p::r) k=nw r k:=by simp[nw,fJ,e]
theorem Rt (k:κ):∀fF:List (κ×V),(fF.any λkv=>decide<|kv.1=k)=(nw fF k).isSome
 |[]=>rfl
 |p::r=>by
  rw[iZ];by_cases e:p.1=k
  ·simp only[Oc e,decide_eq_true e,Bool.true_or,Option.isSome_some]
  ·rw[Od e,decide_eq_false e,Bool.false_or];exact Rt k r
theorem QF (fF:List<|κ×V)(k:κ)(v:V):(ß fF k v).length<=fF.length+1:=by
 unfold ß;split
 ·rw[dY];lia
 ·rw[d7,dw,C7];lia
theorem nU.isSome_eq {o:Option V}{u:Option cU}(r:nU o u):o.isSome=u.isSome:=by
 cases o with
 |none=>cases u with
  |none=>rfl
  |some _=>exact(show False from r).elim
 |some _=>cases u with
  |none=>exact(show False from r).elim
  |some _=>rfl
theorem nU.getD {o:Option V}{u:Option cU}{d:V}{d':cU}(r:nU o u)(rd:Ì d d'):Ì (o.getD d) (u.getD d'):=by
 cases o with
 |none=>cases u with
  |none=>exact rd
  |some _=>exact(show False from r).elim
 |some _=>cases u with
  |none=>exact(show False from r).elim
  |some _=>exact r
theorem KV.val {fF:List (κ×V)}{vs:List (κ×cU)}(r:KV fF vs)(k:κ):nU (nw fF k) (uM vs k):=by
 unfold KV at r;induction r with
 |nil=>exact True.intro
 |@cons p q ps qs h t ih=>
  obtain⟨h1,h2⟩:=h;by_cases e:p.1=k
  ·have e':q.1=k:=h1.symm.trans e;have b:uM (q::qs) k=Z q.2:=by simp[uM,fJ,e']
   rw[Oc e,b];exact h2
  ·have e':¬q.1=k:=λz=>e<|h1.trans z;have b:uM (q::qs) k=uM qs k:=by simp[uM,fJ,e']
   rw[Od e,b];exact ih
theorem KV.any {fF:List (κ×V)}{vs:List (κ×cU)}(r:KV fF vs)(k:κ):(fF.any λkv=>decide<|kv.1=k)=vs.any λkv=>decide (kv.1=k):=by
 unfold KV at r;induction r with
 |nil=>rfl
 |cons h t ih=>rw[iZ,iZ,ih,h.1]
theorem KV.repl {fF:List (κ×V)}{vs:List (κ×cU)}(r:KV fF vs)(k:κ)(ry:Ì y u) :
  KV (fF.map λkv=>if kv.1=k then(kv.1,y)else kv) (vs.map λkv=>if kv.1=k then(kv.1,u)else kv):=by
 unfold KV at r ⊢;induction r with
 |nil=>exact .nil
 |@cons p q ps qs h t ih=>
  rw[dJ,dJ];refine .cons ?_ ih;obtain⟨h1,h2⟩:=h;by_cases e:p.1=k
  ·rw[if_pos e,if_pos<|h1.symm.trans e];exact⟨h1,ry⟩
  ·rw[if_neg e,if_neg<|λz=>e<|h1.trans z];exact⟨h1,h2⟩
theorem KV.put {fF:List (κ×V)}{vs:List (κ×cU)}(r:KV fF vs)(k:κ)(ry:Ì y u):KV (ß fF k y) (stored vs k u):=by
 unfold ß stored;rw[r.any k];by_cases e:(vs.any λkv=>decide<|kv.1=k)=Â
 ·rw[if_pos e,if_pos e];exact r.repl k ry
 ·rw[if_neg e,if_neg e];exact Paired.snoc r ⟨rfl,ry⟩
theorem KV.length {fF:List (κ×V)}{vs:List (κ×cU)}(r:KV fF vs):fF.length=vs.length:=Paired.length r
end
theorem GP {w:d5}{k:kr}(r:Ì (kV k) u):(iq P w).is k u=Â:=by
 cases k with
 |inl i=>obtain⟨t,e⟩:=(show∃t,u=cU.int i t from r);subst e;exact XX P w i t
 |inr x=>obtain⟨t,e⟩:=(show∃t,u=cU.str x t from r);subst e;exact XY P w x t
theorem Q5 {P:eI}{w:d5}:∀{ks:List kr} {us:List cU},eh (ks.map kV) us->ItemsAre (iq P w) ks us
 |[],_,r=>by rw[nQ]at r;cases r;exact .nil
 |k::ks,_,r=>by
  rw[dJ]at r;cases r with
  |cons h t=>exact .cons (GP h)<|Q5 t
abbrev KT (H:Hp):List (List kr×V)->List (List kr×cZ×cU)->Prop:=Paired λp q=>p.1=q.1/\H q.2.1=Z (.tup<|p.1.map kV)/\Ì p.2 q.2.2
variable {fF:List (List kr×V)}
theorem KT.val {xs:List (List kr×cZ×cU)}(r:KT H fF xs)(k:List kr):nU (nw fF k) ((zK xs k).map (·.2)):=by
 induction r with
 |nil=>exact True.intro
 |@cons p q ps qs h t ih=>
  obtain⟨h1,_,h2⟩:=h;by_cases e:p.1=k
  ·have e':q.1=k:=h1.symm.trans e;have b:zK (q::qs) k=Z q.2:=by simp[zK,fJ,e']
   rw[Oc e,b];exact h2
  ·have e':¬q.1=k:=λz=>e<|h1.trans z;have b:zK (q::qs) k=zK qs k:=by simp[zK,fJ,e']
   rw[Od e,b];exact ih
theorem KT.repl {xs:List (List kr×cZ×cU)}(r:KT H fF xs)(k:List kr)(ry:Ì y u) :
  KT H (fF.map λkv=>if kv.1=k then(kv.1,y)else kv) (xs.map<|putAt k u):=by
 induction r with
 |nil=>exact .nil
 |@cons p q ps qs h t ih=>
  rw[dJ,dJ];refine .cons ?_ ih;obtain⟨h1,h2,h3⟩:=h;unfold putAt;by_cases e:p.1=k
  ·rw[if_pos e,if_pos<|h1.symm.trans e];exact⟨h1,h2,ry⟩
  ·rw[if_neg e,if_neg<|λz=>e<|h1.trans z];exact⟨h1,h2,h3⟩
variable {b:cZ}
theorem KT.put {xs:List (List kr×cZ×cU)}(r:KT H fF xs)(k:List kr)(hb:H b=Z (.tup<|k.map kV))(ry:Ì y u) :
  KT H (ß fF k y) (storedH xs k b u):=by
 have e:(fF.any λkv=>decide<|kv.1=k)=(zK xs k).isSome:=by rw[Rt,(r.val k).isSome_eq,p9]
 unfold ß storedH;rw[e];by_cases q:(zK xs k).isSome=Â
 ·rw[if_pos q,if_pos q];exact r.repl k ry
 ·rw[if_neg q,if_neg q];exact Paired.snoc r ⟨rfl,hb,ry⟩
theorem KT.keeps {xs:List (List kr×cZ×cU)}(r:KT H fF xs)(ht:∀b ys,H b=Z (.tup ys)->G b=Z (.tup ys)):KT G fF xs :=
 Paired.mapP r λ_ _ z=>⟨z.1,ht _ _ z.2.1,z.2.2⟩
section
variable {w:d5}
theorem Ts {u:HO}(ok:pL P w H h)(e:Rd H a u):il P w H h a u:=e.ok ok
theorem Ew {fF:List (kr×V)}(ok:pL P w H h)(e:Rd H a<|.dK fF):fF.length<=sizeLine/\(a==hJ)=Ã/\∃vs,KV fF vs/\h.DictOf (iq P w) a vs :=
 show il P w H h a (.dK fF)from Ts ok e
theorem Ř {fF:List (kr×V)}(ok:pL P w H h)(e:H a=Z (.dK fF)):fF.length<=sizeLine/\(a==hJ)=Ã/\∃vs,KV fF vs/\h.DictOf (iq P w) a vs:=Ew ok<|.inl e
theorem GL {ks:List kr}(ok:pL P w H h)(e:H a=Z (.tup<|ks.map kV)):(oJ<|iq P w).is h ks a:=by obtain⟨_,eG,r,o,h1,h2,n,h3⟩:=(show il P w H h a (.tup<|ks.map kV)from ok a _ e);exact⟨o,eG.toArray,n,h1,h2,h3,by simpa using Q5 r⟩
theorem Fw (ok:pL P w H h)(e:Rd H a<|.dT fF):fF.length<=sizeLine/\(a==hJ)=Ã /\
  ∃xs,KT H fF xs/\h.DictOfH (oJ<|iq P w) a xs:=by
 obtain⟨z,y,xs,r,o,es,ep,h1,h2,h3,h4,h5⟩:=(show il P w H h a (.dT fF)from Ts ok e);refine⟨z,y,xs,r,o,es,ep,h1,h2,h3,h4,λx hx=>?_,h5⟩;have all:∀{l:List (List kr×V)} {m:List (List kr×cZ×cU)},KT H l m->∀x∈m,(oJ<|iq P w).is h x.1 x.2.1:=by
  intro l m q;induction q with
  |nil=>intro x hx;exact nomatch hx
  |@cons p q ps qs hq t ih=>
   intro x hx;rcases dn.mp hx with e|hx
   ·subst e;exact GL ok (by rw[←hq.1];exact hq.2.1)
   ·exact ih x hx
 exact all r x hx
theorem Ň (ok:pL P w H h)(e:H a=Z (.dT fF)):fF.length<=sizeLine/\(a==hJ)=Ã /\
  ∃xs,KT H fF xs/\h.DictOfH (oJ<|iq P w) a xs:=Fw ok<|.inl e
end
def pK (H:Hp)(a:cZ)(y:V)(r:Option V):Prop :=
 (∃fF k,Rd H a (.dK fF)/\y=kV k/\r=nw fF k)\/∃fF k b,Rd H a (.dT fF)/\y=.ref b/\H b=Z (.tup<|k.map kV)/\r=nw fF k
def uR (H:Hp)(a:cZ)(y v:V)(G:Hp):Prop :=
 (∃fF k,H a=Z (.dK fF)/\y=kV k/\fF.length<sizeLine/\G=upd H a (.dK<|ß fF k v)) \/
 ∃fF k b,H a=Z (.dT fF)/\y=.ref b/\H b=Z (.tup<|k.map kV)/\fF.length<sizeLine/\G=upd H a (.dT<|ß fF k v)
theorem pK.k {fF:List (kr×V)}{k:kr}(e:H a=Z (.dK fF)):pK H a (kV k) (nw fF k):=.inl ⟨fF,k,.inl e,rfl,rfl⟩
theorem uR.k {fF:List (kr×V)}{k:kr}(e:H a=Z (.dK fF))(hl:fF.length<sizeLine):uR H a (kV k) v (upd H a<|.dK<|ß fF k v):=.inl ⟨fF,k,e,rfl,hl,rfl⟩
theorem uR.t {k:List kr}(e:H a=Z (.dT fF))(eb:H b=Z (.tup<|k.map kV))(hl:fF.length<sizeLine) :
  uR H a (.ref b) v (upd H a<|.dT<|ß fF k v):=.inr ⟨fF,k,b,e,rfl,eb,hl,rfl⟩
section
variable {r:cU}{o:Option V}{A:dO}
theorem Ç.big (I:Ç X cW U H s):hJ<s.heap.objs.size:=by have h:eQ<s.heap.objs.size:=(I.mod.glob.keeps I.bk).lt;exact Nat.lt_trans (by decide) h
theorem Y2 (hu:A.units+1<i8)(I:Ç X cW U H s)(g:pK H a y<|Z v)(ry:Ì y u)(h:∀w' s',Ç X cW U H s'->Ì v w'->Q w' s') :
  dr (dq X.prog X.w) A (uJ (.ref a) u) Q E s:=by
 rcases g with⟨fF,k,e,ey,l⟩|⟨fF,k,b,e,ey,eb,l⟩
 ·subst ey;obtain⟨z,hd,vs,rel,dd⟩:=Ew I.hok e;obtain⟨w',hw,uY⟩:=nU.some_of (v:=v) (o:=uM vs k) (by rw[l];exact rel.val k);exact wpAny_getItem_of (GP ry) dd.mapOf hw<|h w' _ (I.tok _) uY
 ·subst ey;cases(show u=cU.ref b from ry);obtain⟨z,hd,xs,rel,dd⟩:=Fw I.hok e;obtain⟨w',hw,uY⟩:=nU.some_of (v:=v) (o:=(zK xs k).map (·.2)) (by rw[l];exact rel.val k);obtain⟨p,hp,Hf⟩:=gr.mp hw;refine wpAny_getItem_heap (jD hu) (GL I.hok eb) dd hp ?_;rw[Hf];exact h w' _ (I.tok _) uY
theorem LP (hu:A.units+1<i8)(I:Ç X cW U H s)(g:pK H a y o)(ry:Ì y u)(h:∀s',Ç X cW U H s'->Q (.bool o.isSome) s') :
  dr (dq X.prog X.w) A (e9 .In u<|.ref a) Q E s:=by
 rcases g with⟨fF,k,e,ey,l⟩|⟨fF,k,b,e,ey,eb,l⟩
 ·subst ey;obtain⟨z,hd,vs,rel,dd⟩:=Ew I.hok e;refine wpAny_in_of (GP ry) hd dd.mapOf ?_;rw[←(rel.val k).isSome_eq,←l];exact h _<|I.tok _
 ·subst ey;cases(show u=cU.ref b from ry);obtain⟨z,hd,xs,rel,dd⟩:=Fw I.hok e;refine wpAny_in_heap (jD hu) (GL I.hok eb) hd dd ?_;have q:=(rel.val k).isSome_eq;rw[p9]at q;rw[←q,←l];exact h _<|I.tok _
theorem zrb (hu:A.units+1<i8)(I:Ç X cW U H s)(g:pK H a y o)(ry:Ì y u)(h:∀s',Ç X cW U H s'->Q (.bool<|!o.isSome) s') :
  dr (dq X.prog X.w) A (e9 .NotIn u<|.ref a) Q E s:=by
 rcases g with⟨fF,k,e,ey,l⟩|⟨fF,k,b,e,ey,eb,l⟩
 ·subst ey;obtain⟨z,hd,vs,rel,dd⟩:=Ew I.hok e;refine wpAny_notIn_of (GP ry) hd dd.mapOf ?_;rw[←(rel.val k).isSome_eq,←l];exact h _<|I.tok _
 ·subst ey;cases(show u=cU.ref b from ry);obtain⟨z,hd,xs,rel,dd⟩:=Fw I.hok e;refine wpAny_notIn_heap (jD hu) (GL I.hok eb) hd dd ?_;have q:=(rel.val k).isSome_eq;rw[p9]at q;rw[←q,←l];exact h _<|I.tok _
theorem Sf {ob:HO}(I:Ç X cW U H s)(mu:HJ<|H a)(hs:fZ a s.heap h')(he:∃q,h'.get? a=Z q)(new:il X.prog X.w (upd H a ob) h' a ob) :
  Ç X cW U (upd H a ob) { s with heap:=h',toks:=t' } :=
 I.write (x:=a) (e:=a) mu (.inl rfl) (λb q hb z=>(hs.2 b hb).trans z) he new
theorem ų {w:d5}{fF:List (kr×V)}{vs:List (kr×cU)}(z:fF.length<=sizeLine)(hd:(a==hJ)=Ã)(rel:KV fF vs)(dd:h'.DictOf (iq P w) a vs) :
  il P w G h' a (.dK fF):=⟨z,hd,vs,rel,dd⟩
theorem Y3 {Q:Unit->de->Prop}(hu:A.units+1<i8)(I:Ç X cW U H s)(g:uR H a y v G)(ry:Ì y u)(rv:Ì v r)(h:∀s',Ç X cW U G s'->Q () s') :
  dr (dq X.prog X.w) A (rq (.ref a) u r) Q E s:=by
 rcases g with⟨fF,k,e,ey,l,eH⟩|⟨fF,k,b,e,ey,eb,l,eH⟩
 ·subst ey eH;obtain⟨z,hd,vs,rel,dd⟩:=Ř I.hok e;have hz:vs.length<=sizeLine:=by rw[←rel.length];exact z
  have hl:(ß fF k v).length<=sizeLine:=by have:=QF fF k v;lia
  refine wpAny_setItem_pairs (hsz:=hz) (GP ry) dd λh' JZ hs=>h _ ?_;have he:∃q,h'.get? a=Z q:=let⟨q,_,_,hq,_⟩:=JZ;⟨q,hq⟩;exact Sf I (by rw[e];exact True.intro) hs he<|ų hl hd (rel.put k rv) JZ
 ·subst ey eH;cases(show u=cU.ref b from ry);obtain⟨z,hd,xs,rel,dd⟩:=Ň I.hok e;have hz:xs.length<=sizeLine:=by rw[←Paired.length rel];exact z
  have hl:(ß fF k v).length<=sizeLine:=by have:=QF fF k v;lia
  refine wpAny_setItem_heap (hsz:=hz) (jD hu) (GL I.hok eb) dd λh' JZ hs=>h _ ?_;obtain⟨q,es,ep,hq,h2,h3,h4,_,h5⟩:=JZ;refine Sf I (by rw[e];exact True.intro) hs ⟨q,hq⟩ ⟨hl,hd,_,(rel.put k eb rv).keeps λc ys ec=>?_,q,es,ep,hq,h2,h3,h4,h5⟩;rw[zn<|Ş ec e<|λz=>nomatch z];exact ec
end
section
variable {fF:List (kr×V)}{k:kr}{A:dO}
theorem ņ (I:Ç X cW U H s)(e:Rd H a<|.dK fF)(h:∀t s',Ç X cW U H s'->Q (.int fF.length t) s'):dr (dq X.prog X.w) A (call (.builtin "len") [.ref a]) Q E s:=by obtain⟨z,hd,vs,rel,dd⟩:=Ew I.hok e;refine call_len_dict hd dd (by rw[←rel.length];rw[eD]at z;lia) ?_;rw[←rel.length];exact h _ _<|I.tok _
end
def vY (i:Expr):Prop:=∀ov iv,vR i Ã ov iv=operate [ov,iv] (uJ ov iv)
theorem K0 {prog:eI}{w:d5}{A:dO}{env:Env}{slice:Expr}{T id:String}
  (hl:sZ (.type T) "__getitem__"=pure (Z<|.builtin id)) (hs:vY slice)
  (h:dr (dq prog w) A (eP value env) (λo s₁=>dr (dq prog w) A (eP slice env) (λi s₂=>s₂.TypeIs o T/\dr (dq prog w) A (uJ o i) Q E s₂) E s₁) E s) :
  dr (dq prog w) A (eP (.Subscript value slice pos) env) Q E s:=by
 refine Subscript_<|fW h (λo s₁ h₁=>fW h₁ (λi s₂ h₂=>?_) λ_ _ x=>x) λ_ _ x=>x;obtain⟨hT,h₂⟩:=h₂;unfold subscriptTail;refine cY ?_;rw[getitemInPython_of_ne hT.not_modules];refine cY<|xD hT hl ?_;have fin:dr (dq prog w) A (vR slice Ã o i) (λr s₃=>dr (dq prog w) A (letTemporaryGo value o r >>= λ_=>pure r) Q E s₃) E s₂:=by rw[hs o i];exact wpAny_operating<|fW h₂ (λr s₃ h₃=>cY<|wpAny_letTemporaryGo<|dA h₃) λ_ _ x=>x
 first
  |exact dA<|cY fin
  |exact cY<|dA<|cY fin
  |exact cY fin
theorem X2 {o:Option V}(I:Ç X cW U H s)(g:pK H a y o):s.TypeIs (.ref a) "dict":=by
 rcases g with⟨fF,k,e,_,_⟩|⟨fF,k,b,e,_,_,_⟩
 ·obtain⟨_,_,vs,_,dd⟩:=Ew I.hok e;exact dd.typeIs
 ·obtain⟨_,_,xs,_,dd⟩:=Fw I.hok e;exact dd.typeIs
def Jt (td ty:TE):TE:=λU H Q=>td U H λx H1=>ty U H1 λy H2=>∃a v,x=.ref a/\pK H2 a y (Z v)/\Q v H2
def NH (ty td:TE):TE:=λU H Q=>ty U H λy H1=>td U H1 λx H2=>∃a o,x=.ref a/\pK H2 a y o/\Q (.bl o.isSome) H2
def Ek (ty td:TE):TE:=λU H Q=>ty U H λy H1=>td U H1 λx H2=>∃a o,x=.ref a/\pK H2 a y o/\Q (.bl<|!o.isSome) H2
def Jo (td ty tv:TE):TS:=λD U H=>tv U H λv H1=>td U H1 λx H2=>ty U H2 λy H3=>∃a H4,x=.ref a/\uR H3 a y v H4/\D.nx U H4
variable {ko:my}
section
variable {i:Expr}{td ty:TE}
theorem zrc (hu:X.A.units+1<i8)(ho:PE X o td)(hi:PE X i ty)(hs:vY i):PE X (.Subscript o i pos) (Jt td ty):=by intro cW s U H Q I h;refine K0 PySem.F.slot_dict_getitem.lookup hs<|gb (ho cW s U H _ I h) λu s1 ⟨x,H1,I1,rx,q1⟩=>gb (hi cW s1 U H1 _ I1 q1) λiv s2 gP=>?_;obtain⟨y,H2,I2,ry,a,v,ex,g,q2⟩:=gP;subst ex;obtain rfl:u=cU.ref a:=rx;exact⟨X2 I2 g,Y2 hu I2 g ry λw' s3 I3 uY=>⟨v,H2,I3,uY,q2⟩⟩
theorem Ų (hu:X.A.units+1<i8)(hi:PE X i ty)(ho:PE X o td):PC X .In i o (NH ty td):=by intro cW s U H Q I h;refine gb (hi cW s U H _ I h) λiv s1 ⟨y,H1,I1,ry,q1⟩=>gb (ho cW s1 U H1 _ I1 q1) λu s2 gP=>?_;obtain⟨x,H2,I2,rx,a,ov,ex,g,q2⟩:=gP;subst ex;obtain rfl:u=cU.ref a:=rx;exact LP hu I2 g ry λs3 I3=>⟨.bl ov.isSome,H2,I3,rfl,q2⟩
theorem Y4 (hu:X.A.units+1<i8)(hi:PE X i ty)(ho:PE X o td):PC X .NotIn i o (Ek ty td):=by intro cW s U H Q I h;refine gb (hi cW s U H _ I h) λiv s1 ⟨y,H1,I1,ry,q1⟩=>gb (ho cW s1 U H1 _ I1 q1) λu s2 gP=>?_;obtain⟨x,H2,I2,rx,a,ov,ex,g,q2⟩:=gP;subst ex;obtain rfl:u=cU.ref a:=rx;exact zrb hu I2 g ry λs3 I3=>⟨.bl<|!ov.isSome,H2,I3,rfl,q2⟩
theorem Sg (hu:X.A.units+1<i8)(ho:PE X o td)(hi:PE X i ty)(hv:PE X value tv)(hs:gc value (Z<|.Subscript o i pos') pos.line X.env=pure Ã) :
  PS X (.Assign [.Subscript o i pos'] value pos) (Jo td ty tv):=by
 intro cW s U H D I h;refine wpAny_Assign_Subscript (gb (hv cW s U H _ I h) λr s1 ⟨v,H1,I1,rv,q1⟩=>gb (ho cW s1 U H1 _ I1 q1) λu s2 ⟨x,H2,I2,rx,q2⟩=>gb (hi cW s2 U H2 _ I2 q2) λiv s3 hq=>?_) hs;obtain⟨y,H3,I3,ry,a,H4,ex,g,q3⟩:=hq;subst ex;obtain rfl:u=cU.ref a:=rx;exact Y3 hu I3 g ry rv λs4 I4=>⟨U,H4,I4,q3⟩
end
theorem Zr {w:d5}(h:dz)(hb:hJ<h.objs.size):il P w H (h.push { cls:=.type "dict",data:=.dict #[] }) h.objs.size (.dK []) :=
  ⟨gQ _,beq_eq_false_iff_ne.mpr<|Ne.symm<|dU hb,[],.nil,dz.DictOf.new h⟩
theorem Zs {w:d5}(h:dz)(hb:hJ<h.objs.size):il P w H (h.push { cls:=.type "dict",data:=.dict #[] }) h.objs.size (.dT []) :=
  ⟨gQ _,beq_eq_false_iff_ne.mpr<|Ne.symm<|dU hb,[],.nil,_,#[],0,dG _ rfl,⟨rfl,rfl,rfl⟩,rfl,rfl,d4⟩
def Gx:TE:=λ_ H Q=>∀p,H p=S->Q (.ref p) (upd H p<|.dK [])
def Gy:TE:=λ_ H Q=>∀p,H p=S->Q (.ref p) (upd H p<|.dT [])
theorem Zt:PE X (.Dict [] [] pos) Gx:=λcW s U H Q I h=>wpAny_Dict_empty ⟨.ref s.heap.objs.size,_,I.laid (a:=s.heap.objs.size) (o:=.dK []) (t':=s.toks) (λ_ _ q=>c7 _ q) (dE _)<|Zr s.heap I.big,rfl,h _<|I.hok.fresh<|dE _⟩
theorem Zu:PE X (.Dict [] [] pos) Gy:=λcW s U H Q I h=>wpAny_Dict_empty ⟨.ref s.heap.objs.size,_,I.laid (a:=s.heap.objs.size) (o:=.dT []) (t':=s.toks) (λ_ _ q=>c7 _ q) (dE _)<|Zs s.heap I.big,rfl,h _<|I.hok.fresh<|dE _⟩
structure M1 (X:Cx)(o:Expr)(m:Str)(fG:my)(e:Expr)(fP:my):Prop where
 base:Af X o m
 few:((gR fP<|dM [e] X.env).all (λx=>!x.1)&&(ir fP<|fO [] X.env).all (λx=>x.1.isSome)
  && decide (([e]:List Expr).length+([]:List xO).length+(if([]:List xO).isEmpty then 0 else 1)<30))=Â
 line:(fG.endLine==fP.line)=Â
 trees:gR fP (dM [e] X.env)=[(Ã,eP e X.env)]
structure M2 (X:Cx)(o:Expr)(m:Str)(fG:my)(e f:Expr)(fP:my):Prop where
 base:Af X o m
 few:((gR fP<|dM [e,f] X.env).all (λx=>!x.1)&&(ir fP<|fO [] X.env).all (λx=>x.1.isSome)
  && decide (([e,f]:List Expr).length+([]:List xO).length+(if([]:List xO).isEmpty then 0 else 1)<30))=Â
 line:(fG.endLine==fP.line)=Â
 trees:gR fP (dM [e,f] X.env)=[(Ã,eP e X.env),(Ã,eP f X.env)]
def GV (H:Hp)(a:cZ):Prop:=(∃fF,Rd H a<|.dK fF)\/∃fF,Rd H a (.dT fF)
theorem SQ (I:Ç X cW U H s)(d:GV H a) :
  s.TypeIs (.ref a) "dict"/\(∀b,cU.ref a=.ref b->∃ob,s.heap.get? b=Z ob/\ob.dict=S)/\(a==hJ)=Ã:=by
 rcases d with⟨fF,e⟩|⟨fF,e⟩
 ·obtain⟨_,hd,vs,_,dd⟩:=Ew I.hok e;refine⟨dd.typeIs,λb q=>?_,hd⟩;cases q;obtain⟨ob,_,_,h1,h2,_⟩:=dd;exact⟨ob,h1,h2.2.1⟩
 ·obtain⟨_,hd,xs,_,dd⟩:=Fw I.hok e;refine⟨dd.typeIs,λb q=>?_,hd⟩;cases q;obtain⟨ob,_,_,h1,h2,_⟩:=dd;exact⟨ob,h1,h2.2.1⟩
section
variable {d:V}{r:cU}{o:Option V}{A:dO}
theorem ű (hu:A.units+1<i8)(I:Ç X cW U H s)(g:pK H a y o)(ry:Ì y u)(h:∀w' s',Ç X cW U H s'->Ì (o.getD .non) w'->Q w' s') :
  dr (dq X.prog X.w) A (call (.builtin "dict.get") [.ref a,u]) Q E s:=by
 rcases g with⟨fF,k,e,ey,l⟩|⟨fF,k,b,e,ey,eb,l⟩
 ·subst ey;obtain⟨z,hd,vs,rel,dd⟩:=Ew I.hok e;refine call_meetsIn PySem.F.slot_dict_get dd.typeIs PySem.F.entry_dict_get (PySem.F.args_dict_get_2 _ _) (meets_dict_get (iq X.prog X.w) a (GP ry) hd) ⟨_,dd.mapOf,h _ _ (I.tok _) ?_⟩;rw[l];exact(rel.val k).getD rfl
 ·subst ey;cases(show u=cU.ref b from ry);obtain⟨z,hd,xs,rel,dd⟩:=Fw I.hok e;refine call_meetsIn PySem.F.slot_dict_get dd.typeIs PySem.F.entry_dict_get (PySem.F.args_dict_get_2 _ _) (meetsH_dict_get (oJ<|iq X.prog X.w) a b hd) ⟨jD hu,k,xs,GL I.hok eb,dd,h _ _ (I.tok _) ?_⟩;rw[l];exact(rel.val k).getD rfl
theorem Ű (hu:A.units+1<i8)(I:Ç X cW U H s)(g:pK H a y o)(ry:Ì y u)(rd:Ì d r)(h:∀w' s',Ç X cW U H s'->Ì (o.getD d) w'->Q w' s') :
  dr (dq X.prog X.w) A (call (.builtin "dict.get") [.ref a,u,r]) Q E s:=by
 rcases g with⟨fF,k,e,ey,l⟩|⟨fF,k,b,e,ey,eb,l⟩
 ·subst ey;obtain⟨z,hd,vs,rel,dd⟩:=Ew I.hok e;refine call_meetsIn PySem.F.slot_dict_get dd.typeIs PySem.F.entry_dict_get (PySem.F.args_dict_get_3 _ _ _) (meets_dict_get_default (iq X.prog X.w) a (GP ry) hd r) ⟨_,dd.mapOf,h _ _ (I.tok _) ?_⟩;rw[l];exact(rel.val k).getD rd
 ·subst ey;cases(show u=cU.ref b from ry);obtain⟨z,hd,xs,rel,dd⟩:=Fw I.hok e;refine call_meetsIn PySem.F.slot_dict_get dd.typeIs PySem.F.entry_dict_get (PySem.F.args_dict_get_3 _ _ _) (meetsH_dict_get_default (oJ<|iq X.prog X.w) a b hd r) ⟨jD hu,k,xs,GL I.hok eb,dd,h _ _ (I.tok _) ?_⟩;rw[l];exact(rel.val k).getD rd
end
def Gv (td ty:TE):TE:=λU H Q=>td U H λx H1=>∃a,x=.ref a/\GV H1 a/\ty U H1 λy H2=>∃o,pK H2 a y o/\Q (o.getD .non) H2
def Gw (td ty tx:TE):TE:=λU H Q=>td U H λx H1=>∃a,x=.ref a/\GV H1 a/\ty U H1 λy H2=>tx U H2 λz H3=>∃o,pK H3 a y o/\Q (o.getD z) H3
section
variable {f:Expr}{fP:my}{td ty tx:TE}
theorem Zv (hu:X.A.units+1<i8)(ho:PE X o td)(he:PE X e ty)(m:M1 X o "get" fG e fP):PE X (.Call (.Attribute o "get" fG) [e] [] fP) (Gv td ty):=by intro cW s U H Q I h;refine wpAny_Call_method m.base m.few m.line PySem.F.plainAttrs_dict PySem.F.slot_dict_get PySem.F.type_dict_get<|gb (ho cW s U H _ I h) λu s1 gP=>?_;obtain⟨x,H1,I1,rx,a,ex,d,q1⟩:=gP;subst ex;obtain rfl:u=cU.ref a:=rx;obtain⟨t1,t2,_⟩:=SQ I1 d;refine⟨t1,t2,?_⟩;rw[m.trees];refine Calls.callWith_builtin rfl<|Calls.evalArgs_plain<|Calls.spliced_cons<|gb (he cW s1 U H1 _ I1 q1) λiv s2 ⟨y,H2,I2,ry,ov,g,q2⟩=>Calls.spliced_nil ?_;exact ű hu I2 g ry λw' s3 I3 uY=>⟨_,H2,I3,uY,q2⟩
theorem Zw (hu:X.A.units+1<i8)(ho:PE X o td)(he:PE X e ty)(hf:PE X f tx)(m:M2 X o "get" fG e f fP):PE X (.Call (.Attribute o "get" fG) [e,f] [] fP) (Gw td ty tx):=by intro cW s U H Q I h;refine wpAny_Call_method m.base m.few m.line PySem.F.plainAttrs_dict PySem.F.slot_dict_get PySem.F.type_dict_get<|gb (ho cW s U H _ I h) λu s1 gP=>?_;obtain⟨x,H1,I1,rx,a,ex,d,q1⟩:=gP;subst ex;obtain rfl:u=cU.ref a:=rx;obtain⟨t1,t2,_⟩:=SQ I1 d;refine⟨t1,t2,?_⟩;rw[m.trees];refine Calls.callWith_builtin rfl<|Calls.evalArgs_plain<|Calls.spliced_cons<|gb (he cW s1 U H1 _ I1 q1) λiv s2 ⟨y,H2,I2,ry,q2⟩=>Calls.spliced_cons<|gb (hf cW s2 U H2 _ I2 q2) λfv s3 ⟨z,H3,I3,rz,ov,g,q3⟩=>Calls.spliced_nil ?_;exact Ű hu I3 g ry rz λw' s4 I4 uY=>⟨_,H3,I4,uY,q3⟩
end
theorem Y5:iL X (.builtin "len") (λxs H Q=>∃a fF,xs=[V.ref a]/\H a=Z (.dK fF)/\Q (.int fF.length) H):=by intro cW s U H xs us Q I r h;obtain⟨a,fF,rfl,ha,q⟩:=h;obtain⟨u,rfl,ru⟩:=sA r;cases ru;exact ņ I (.inl ha) λt s' I'=>⟨.int fF.length,H,I',⟨t,rfl⟩,q⟩
def Sz (n:Nat)(i:Int):Prop:=i.natAbs<2 ^ n
theorem Sz.bits {i:Int}(h:Sz n i):Builtin.Int.intBits i<=n:=by
 unfold Builtin.Int.intBits;by_cases h0:(i==0)=Â
 ·rw[if_pos h0];exact gQ _
 ·rw[if_neg h0];have hi:i.natAbs≠0:=by
   have:i≠0:=by simpa using h0
   lia
  exact Nat.succ_le_of_lt<|(AN hi).mpr h
theorem Sz.log {i:Int}(h:Sz n i)(hn:0<n):i.natAbs.log2<n:=by
 by_cases hi:i.natAbs=0
 ·rw[hi];exact hn
 ·exact(AN hi).mpr h
theorem Sz.mono {m:Nat}{i:Int}(h:Sz n i)(hm:n<=m):Sz m i:=d8 h (Nat.pow_le_pow_right (by decide) hm)
def vD (i j:Int):Prop:=FA i j\/(Sz 100000 i/\Sz 100000 j)
theorem vD.ok {i j:Int}(h:vD i j):IntMulOk i j:=by
 rcases h with h|h
 ·exact h.ok
 ·exact IntMulOk.of_bits (fk h.1.bits<|by decide) (fk h.2.bits<|by decide)
theorem zrd:lI X (iu .Mult) (rI vD λi j=>.int<|i*j):=I0 λ_ _ _ _ _ _ _ hc q=>mul_int q hc.ok
theorem Zx:lI X (iu .FloorDiv) (rI (λ_ j=>j≠0/\Sz 9000 j) λi j=>.int<|i.fdiv j) :=
 I0 λ_ _ _ _ _ _ _ hc q=>floordiv_int hc.1 q (.inl<|PyProof.noPylong_of_log2<|hc.2.log<|by decide)
theorem Ì.bool_iff {x:V}{v:cU}{b:Bool}(r:Ì x v):(v==cU.bool b)=decide (x=.bl b):=by
 cases x with
 |bl c=>
  cases(show v=cU.bool c from r);by_cases h:c=b
  ·subst h;simp
  ·have h1:¬V.bl c=V.bl b:=λz=>h<|V.bl.inj z;rw[decide_eq_false h1];exact beq_eq_false_iff_ne.mpr λz=>h (by injection z)
 |non=>cases(show v=cU.none from r);rw[decide_eq_false<|λz=>nomatch z];exact beq_eq_false_iff_ne.mpr λz=>nomatch z
 |int i=>obtain⟨t,rfl⟩:=(show∃t,v=cU.int i t from r);rw[decide_eq_false<|λz=>nomatch z];exact beq_eq_false_iff_ne.mpr λz=>nomatch z
 |str i=>obtain⟨t,rfl⟩:=(show∃t,v=cU.str i t from r);rw[decide_eq_false<|λz=>nomatch z];exact beq_eq_false_iff_ne.mpr λz=>nomatch z
 |byt i=>obtain⟨t,rfl⟩:=(show∃t,v=cU.bytes i t from r);rw[decide_eq_false<|λz=>nomatch z];exact beq_eq_false_iff_ne.mpr λz=>nomatch z
 |flt i=>obtain⟨t,rfl⟩:=(show∃t,v=cU.float i t from r);rw[decide_eq_false<|λz=>nomatch z];exact beq_eq_false_iff_ne.mpr λz=>nomatch z
 |ref i=>cases(show v=cU.ref i from r);rw[decide_eq_false<|λz=>nomatch z];exact beq_eq_false_iff_ne.mpr λz=>nomatch z
 |ty i=>cases(show v=cU.type i from r);rw[decide_eq_false<|λz=>nomatch z];exact beq_eq_false_iff_ne.mpr λz=>nomatch z
theorem QA {x:V}{v:cU}{b:Bool}(r:Ì x v):plainIs v (.bool b)=Â:=by
 cases x with
 |bl c=>cases(show v=cU.bool c from r);rfl
 |non=>cases(show v=cU.none from r);rfl
 |int i=>obtain⟨t,rfl⟩:=(show∃t,v=cU.int i t from r);rfl
 |str i=>obtain⟨t,rfl⟩:=(show∃t,v=cU.str i t from r);rfl
 |byt i=>obtain⟨t,rfl⟩:=(show∃t,v=cU.bytes i t from r);rfl
 |flt i=>obtain⟨t,rfl⟩:=(show∃t,v=cU.float i t from r);rfl
 |ref i=>cases(show v=cU.ref i from r);rfl
 |ty i=>cases(show v=cU.type i from r);rfl
theorem ů:lI X (e9 .Is) (λx y H Q=>∃b,y=.bl b/\Q (.bl<|decide<|x=.bl b) H):=by intro cW s U H x y v u Q I rx ry h;obtain⟨b,rfl,q⟩:=h;cases ry;exact wpAny_is_plain (QA rx)<|Lk I q (Ì.bool_iff rx).symm
theorem Y6:lI X (e9 .IsNot) (λx y H Q=>∃b,y=.bl b/\Q (.bl<|!decide (x=.bl b)) H):=by intro cW s U H x y v u Q I rx ry h;obtain⟨b,rfl,q⟩:=h;cases ry;exact wpAny_isNot_plain (QA rx) (Lk I q<|by rw[Ì.bool_iff rx])
theorem Zy:iL X (.builtin "isinstance") (λxs H Q=>∃x c t b,xs=[x,.ty c]/\pM X.K H x t/\dN X.K t (.type c)=Z b/\Q (.bl b) H):=by intro cW s U H xs us Q I r h;obtain⟨x,c,t,b,rfl,ty,e,q⟩:=h;obtain⟨u,w',rfl,ru,uY⟩:=ñ r;cases(show w'=cU.type c from uY);exact Q9 I ru ty e λtk=>⟨.bl b,H,I.tok tk,rfl,q⟩
theorem Y7:iL X (.builtin "isinstance") (λxs H Q=>∃x C t b,xs=[x,.ref C]/\pM X.K H x t/\dN X.K t (.ref C)=Z b/\Q (.bl b) H):=by intro cW s U H xs us Q I r h;obtain⟨x,c,t,b,rfl,ty,e,q⟩:=h;obtain⟨u,w',rfl,ru,uY⟩:=ñ r;cases(show w'=cU.ref c from uY);exact Q9 I ru ty e λtk=>⟨.bl b,H,I.tok tk,rfl,q⟩
mutual
inductive Dt (K:cX)(H:Hp):V->dX->Prop
 |non:Dt K H .non .none
 |bl (b:Bool):Dt K H (.bl b) (.bool b)
 |int (i:Int):Dt K H (.int i) (.int i)
 |str (x:Str):Dt K H (.str x) (.str x)
 |lst {a:cZ} {xs:List V} {Y:List dX}:i6 K H a xs->Ü K H xs Y->Dt K H (.ref a) (.list Y)
 |tup {a:cZ} {xs:List V} {Y:List dX}:oP K H a xs->Ü K H xs Y->Dt K H (.ref a) (.tuple Y)
inductive Ü (K:cX)(H:Hp):List V->List dX->Prop
 |nil:Ü K H [] []
 |cons {v:V} {d:dX} {vs:List V} {Y:List dX}:Dt K H v d->Ü K H vs Y->Ü K H (v::vs) (d::Y)
end
mutual
theorem Dt.reads (I:Ç X cW U H s):∀{v:V} {d:dX} {u:cU},Dt X.K H v d->Ì v u->∃as,Reads s.heap u d as
 |_,_,_,.non,r=>by cases r;exact⟨_,.none⟩
 |_,_,_,.bl b,r=>by cases r;exact⟨_,.bool b⟩
 |_,_,_,.int i,r=>by obtain⟨t,rfl⟩:=r;exact⟨_,.int i t⟩
 |_,_,_,.str x,r=>by obtain⟨t,rfl⟩:=r;exact⟨_,.str x t⟩
 |_,_,_,.lst hq Y,r=>by obtain⟨eG,rv,⟨o,n,e,c,_,dd⟩,_⟩:=I.list hq;obtain⟨as,ra⟩:=Ü.reads I Y rv;cases r;exact⟨_,.list e c dd<|by simpa using ra⟩
 |_,_,_,.tup hq Y,r=>by obtain⟨eG,rv,⟨o,e,c,n,dd⟩,_⟩:=I.tuple hq;obtain⟨as,ra⟩:=Ü.reads I Y rv;cases r;exact⟨_,.tuple e c dd<|by simpa using ra⟩
theorem Ü.reads (I:Ç X cW U H s):∀{vs:List V} {Y:List dX} {us:List cU},Ü X.K H vs Y->eh vs us->∃as,ReadsAll s.heap us Y as
 |_,_,_,.nil,r=>by cases r;exact⟨_,.nil⟩
 |_,_,_,.cons h t,r=>by
  cases r with
  |cons p q=>obtain⟨as,ra⟩:=Dt.reads I h p;obtain⟨bs,rb⟩:=Ü.reads I t q;exact⟨_,.cons ra rb⟩
end
def Gi (K:cX)(neg:Bool):R2:=λx y H Q=>∃d e,Dt K H x d/\Dt K H y e/\d.canLay0=Â/\e.canLay0=Â/\min d.depth e.depth<=60/\Q (.bl<|if neg then !dX.eqv d e else dX.eqv d e) H
theorem OS (hu:X.A.units+64<i8):lI X (e9 .Eq) (Gi X.K Ã):=by intro cW s U H x y v u Q I rx ry h;obtain⟨d,e,hd,he,c1,c2,dp,q⟩:=h;obtain⟨as,ra⟩:=hd.reads I rx;obtain⟨bs,rb⟩:=he.reads I ry;exact SeqAt.compareEq_reads ra rb c1 c2 (by lia) ⟨.bl _,H,I,rfl,q⟩
theorem j6 (hu:X.A.units+64<i8):lI X (e9 .NotEq) (Gi X.K Â):=by intro cW s U H x y v u Q I rx ry h;obtain⟨d,e,hd,he,c1,c2,dp,q⟩:=h;obtain⟨as,ra⟩:=hd.reads I rx;obtain⟨bs,rb⟩:=he.reads I ry;exact SeqAt.compareNe_reads ra rb c1 c2 (by lia) ⟨.bl _,H,I,rfl,q⟩
theorem xl {p:cZ}(h:H p=S)(o:HO):d9 H (upd H p o):=λb u q=>by rw[zn<|zp q h];exact q
theorem fw.u64 {k:Nat}{A:dO}(r:fw k A):A.units+64<i8:=r.units
theorem ò (h:n<=1000):n<=sizeLine:=rQ<|BU h
section
open PySem
theorem xi:eM "int"=Z (.type "int"):=by decide +kernel
theorem Fp:eM "str"=Z (.type "str"):=by decide +kernel
theorem Sh:eM "bool"=Z (.type "bool"):=by decide +kernel
theorem jr:eM "list"=Z (.type "list"):=by decide +kernel
theorem Ů:eM "len"=Z (.builtin "len"):=by decide +kernel
theorem Hs:eM "max"=Z (.builtin "max"):=by decide +kernel
theorem wk:eM "isinstance"=Z (.builtin "isinstance"):=by decide +kernel
theorem Y8:eM "sorted"=Z (.builtin "sorted"):=by decide +kernel
theorem Le:eM "all"=Z (.builtin "all"):=by decide +kernel
end
variable {pA iter:Expr}{ifs:List Expr}
section
variable {prog:eI}{w:d5}{A:dO}
theorem W2 {target:Expr}{it kD:cU}{env:Env}(I:Nat->de->Prop)
  (turn:∀n s,I n s->dr (dq prog w) A (pyNext it) (λr s₁=>match r with
   |none=>R (.ok .next) s₁
   |some v=>dr (dq prog w) A (mj target it v) (λ_ Qk=>dr (dq prog w) A (kU target env v) (λ_ s₂=>
     dr (dq prog w) A (forIn ifs Â λc r=>if r=Â then do let ok ← vC c env (eP c env);pure (ForInStep.yield ok)else pure (ForInStep.yield r)) (λok s₃=>
      if ok=Â then dr (dq prog w) A (eP pA env) (λx s₄=>dr (dq prog w) A (call (.builtin "list.append") [kD,x]) (λ_ s₅=>∃m,m<n/\I m s₅) (λ_ _=>False) s₄) (λ_ _=>False) s₃
      else∃m,m<n/\I m s₃) (λ_ _=>False) s₂) (λ_ _=>False) Qk) (λ_ _=>False) s₁) (λ_ _=>False) s)
  (n:Nat) (h:I n s) :
  jC (dq prog w) A (.compLoop (.ListComp pA [⟨target,iter,ifs,0⟩] scope pos) 0 it kD env) R s:=by
 have up:∀{α:Type} {m:Cd α} {Q:α->de->Prop} {E:cU->de->Prop} {s:de},dr (dq prog w) A m Q (λ_ _=>False) s->dr (dq prog w) A m Q E s:=λh=>fW h (λ_ _ q=>q) λ_ _ f=>f.elim;refine codeAny_loop rfl I (λn s hI=>?_) n h;show dr _ A ((compTurn (.ListComp pA [⟨target,iter,ifs,0⟩] scope pos) 0 it kD env).onRaise (λx=>do noteFrame x env;theTreesLotGoes x)) _ _ s;refine wpAny_noted ?_;rw[compTurn_list];refine cY<|kP<|cY<|fW (up<|turn n s hI) (λr s₁ h₁=>?_) λ_ _ h'=>h';cases r with
 |none=>exact dA h₁
 |some v=>
  refine cY<|fW (up h₁) (λ_ Qk Vo=>?_) λ_ _ h'=>h';refine cY<|fW (up Vo) (λ_ s₂ h₂=>cY<|fW (up h₂) (λok s₃ h₃=>?_) λ_ _ h'=>h') λ_ _ h'=>h';cases ok with
  |false=>exact dA ⟨rfl,h₃⟩
  |true=>exact cY<|cY<|fW (up h₃) (λx s₄ h₄=>cY<|fW (up h₄) (λ_ s₅ h₅=>dA<|dA ⟨rfl,h₅⟩) λ_ _ h'=>h') λ_ _ h'=>h'
end
theorem NY {env:Env}:∀(names:List<|Str×dZ) (kD:List<|Str×cZ),(∀x∈names,x.2=.free->∃c,env.cells.lookup x.1=Z c)->(∀y c,kD.lookup y=Z c->env.cells.lookup y=Z c) ->
  ∃cl,(forIn names kD λ(x:Str×dZ) (cs:List<|Str×cZ)=>if(x.2==dZ.free)=Â then do let a ← cellOf env x.1;pure (ForInStep.yield ((x.1,a)::cs))else pure (ForInStep.yield cs):Cd (List<|Str×cZ))=pure cl /\
   (∀y c,cl.lookup y=Z c->env.cells.lookup y=Z c)/\(∀x∈names,x.2=.free->∃c,cl.lookup x.1=Z c)/\∀y c,kD.lookup y=Z c->∃c',cl.lookup y=Z c'
 |[],kD,_,ha=>⟨kD,rfl,ha,λ_ h=>(nomatch h),λy c h=>⟨c,h⟩⟩
 |(n,k)::r,kD,hn,ha=>by
  by_cases hk:k=.free
  ·subst hk;obtain⟨c,hc⟩:=hn (n,.free) cV rfl;have e1:cellOf env n=pure c:=by unfold cellOf;rw[hc]
   have Kb:∀y d,((n,c)::kD).lookup y=Z d->env.cells.lookup y=Z d:=λy d h=>by
    rw[dC]at h;cases hy:y==n with
    |true=>rw[hy]at h;have:y=n:=eq_of_beq hy;subst this;cases h;exact hc
    |false=>rw[hy]at h;exact ha y d h
   obtain⟨cl,h1,h2,h3,h4⟩:=NY r ((n,c)::kD) (λx hx=>hn x<|df _ hx) Kb;refine⟨cl,?_,h2,?_,?_⟩
   ·rw[tq];simp only[beq_self_eq_true,if_true,e1,pure_bind];exact h1
   ·intro x hx hf;rcases dn.mp hx with rfl|hx
    ·exact h4 n c (by rw[dC,beq_self_eq_true])
    ·exact h3 x hx hf
   ·intro y d hy;cases hb:y==n with
    |true=>exact h4 y c (by rw[dC,hb])
    |false=>exact h4 y d (by rw[dC,hb];exact hy)
  ·have hb:(k==dZ.free)=Ã:=by simpa using hk
   obtain⟨cl,h1,h2,h3,h4⟩:=NY r kD (λx hx=>hn x<|df _ hx) ha;refine⟨cl,?_,h2,?_,h4⟩
   ·rw[tq];simp only[hb,fI,if_false,pure_bind];exact h1
   ·intro x hx hf;rcases dn.mp hx with rfl|hx
    ·exact absurd hf hk
    ·exact h3 x hx hf
theorem K1 (n:Nat)(a:Str)(r:List<|Str×dZ)(kD:List<|Str×cZ):cellsFrom n ((a,.cell)::r) kD=cellsFrom (n+1) r ((a,n)::kD):=rfl
theorem Lf {k:dZ}(hk:k≠.cell)(n:Nat)(a:Str)(r:List<|Str×dZ)(kD:List<|Str×cZ):cellsFrom n ((a,k)::r) kD=cellsFrom n r kD:=by cases k<;>first|rfl|exact absurd rfl hk
noncomputable def oE (names:List<|Str×dZ):Nat:=(names.filter λy=>y.2==dZ.cell).length
theorem OC (a:Str)(r:List<|Str×dZ):oE ((a,.cell)::r)=oE r+1:=by unfold oE;rw[xB<|by rfl,dw]
theorem SR {k:dZ}(hk:k≠.cell)(a:Str)(r:List<|Str×dZ):oE ((a,k)::r)=oE r:=by unfold oE;rw[xA<|by simpa using hk]
theorem Hz:∀(names:List<|Str×dZ) (n:Nat) (kD:List<|Str×cZ) {x:Str} {c:Nat},(cellsFrom n names kD).lookup x=Z c->(n<=c/\c<n+oE names/\(x,dZ.cell)∈names)\/(kD.lookup x=Z c/\(x,dZ.cell)∉names)
 |[],_,_,_,_,h=>.inr ⟨h,by simp⟩
 |(a,k)::r,n,kD,x,c,h=>by
  by_cases hk:k=.cell
  ·subst hk;rw[K1]at h;rcases Hz r (n+1) _ h with⟨h1,h2,h3⟩|⟨h1,h2⟩
   ·refine .inl ⟨by lia,?_,df _ h3⟩;rw[OC];lia
   ·rw[dC]at h1;cases hx:x==a with
    |true=>rw[hx]at h1;cases h1;refine .inl ⟨dE _,?_,by rw[eq_of_beq hx];exact cV⟩;rw[OC];lia
    |false=>
     rw[hx]at h1;refine .inr ⟨h1,λz=>?_⟩;rcases dn.mp z with z|z
     ·cases z;simp at hx
     ·exact h2 z
  ·rw[Lf hk]at h;have hf:=SR hk a r;rw[hf];rcases Hz r n _ h with⟨h1,h2,h3⟩|⟨h1,h2⟩
   ·exact .inl ⟨h1,h2,df _ h3⟩
   ·refine .inr ⟨h1,λz=>?_⟩;rcases dn.mp z with z|z
    ·cases z;exact hk rfl
    ·exact h2 z
theorem OT:∀(names:List<|Str×dZ) (n:Nat) (kD:List<|Str×cZ) {x:Str},(x,dZ.cell)∉names->(cellsFrom n names kD).lookup x=kD.lookup x
 |[],_,_,_,_=>rfl
 |(a,k)::r,n,kD,x,h=>by
  have hr:(x,dZ.cell)∉r:=λz=>h<|df _ z;by_cases hk:k=.cell
  ·subst hk;rw[K1,OT r _ _ hr,dC];cases hx:x==a with
   |true=>exact absurd (by rw[eq_of_beq hx];exact cV) h
   |false=>rfl
  ·rw[Lf hk,OT r _ _ hr]
theorem OU:∀(names:List<|Str×dZ) (n:Nat) (kD:List<|Str×cZ),(∀x y c,kD.lookup x=Z c->kD.lookup y=Z c->x=y)->(∀x c,kD.lookup x=Z c->c<n)->∀x y c,(cellsFrom n names kD).lookup x=Z c->(cellsFrom n names kD).lookup y=Z c->x=y
 |[],_,_,h,_=>h
 |(a,k)::r,n,kD,h,hb=>by
  by_cases hk:k=.cell
  ·subst hk;rw[K1];refine OU r (n+1) _ (λx y c e e'=>?_) λx c e=>?_
   ·rw[dC]at e e';cases hx:x==a with
    |true=>
     rw[hx]at e;cases e;cases hy:y==a with
     |true=>rw[eq_of_beq hx,eq_of_beq hy]
     |false=>rw[hy]at e';exact absurd (hb _ _ e')<|iF _
    |false=>
     rw[hx]at e;cases hy:y==a with
     |true=>rw[hy]at e';cases e';exact absurd (hb _ _ e)<|iF _
     |false=>rw[hy]at e';exact h x y c e e'
   ·rw[dC]at e;cases hx:x==a with
    |true=>rw[hx]at e;cases e;exact jX _
    |false=>rw[hx]at e;exact mR<|hb _ _ e
  ·rw[Lf hk];exact OU r n kD h hb
theorem NZ {J':Model}{A:dO}{E:cU->de->Prop}:∀(names:List<|Str×dZ) (cells:List<|Str×cZ) (s:de) (Q:List (Str×cZ)->de->Prop),
    (∀h':dz,(∀b o,s.heap.get? b=Z o->h'.get? b=Z o)->(∀c,s.heap.objs.size<=c->c<s.heap.objs.size+oE names->h'.IsCell c S)->Q (cellsFrom s.heap.objs.size names cells) { s with heap:=h' }) ->
    dr J' A (forIn names cells λ(x:Str×dZ) (cells:List<|Str×cZ)=>if(x.2==dZ.cell)=Â then do let a ← alloc { cls:=cU.type "cell",data:=pj.cell S };pure (ForInStep.yield ((x.1,a)::cells))else pure (ForInStep.yield cells)) Q E s
  |[],cells,s,Q,h=>by have:=h s.heap (λ_ _ e=>e) (λc h1 h2=>by rw[show oE []=0 from rfl]at h2;lia);rw[DB];exact dA this
  |(a,k)::r,cells,s,Q,h=>by
    rw[tq];by_cases hk:k=.cell
    · subst hk;simp only[beq_self_eq_true,if_true,bind_assoc,pure_bind];refine cY<|wpAny_alloc ?_;have ih:=NZ (J':=J') (A:=A) (E:=E) r ((a,s.heap.objs.size)::cells) { s with heap:=s.heap.push { cls:=cU.type "cell",data:=pj.cell S } } Q (λh' k1 k2=>by
        have hz:(s.heap.push { cls:=cU.type "cell",data:=pj.cell S }).objs.size=s.heap.objs.size+1:=gw _ _;have:=h h' (λb o e=>k1 b o<|c7 _ e) (λc h1 h2=>by
          rw[OC]at h2;by_cases hc:c=s.heap.objs.size
          · subst hc;exact⟨_,k1 _ _<|dG _ rfl,rfl⟩
          · exact k2 c (by show(s.heap.push _).objs.size<=c;rw[hz];lia) (by show c<(s.heap.push _).objs.size+_;rw[hz];lia))
        rw[K1]at this;have e:(({ s with heap:=s.heap.push { cls:=cU.type "cell",data:=pj.cell S } }:de)).heap.objs.size=s.heap.objs.size+1:=hz;rw[e];exact this)
      exact ih
    · have hb:(k==dZ.cell)=Ã:=by simpa using hk
      simp only[hb,fI,if_false,pure_bind];refine NZ r cells s Q λh' k1 k2=>?_;have hf:=SR hk a r;have:=h h' k1 (by rw[hf];exact k2);rw[Lf hk]at this;exact this
theorem Xn {A:dO}{globals:cZ}{closure:List (Str×cZ)}{code:cU}{out:Env}{builtins:cZ}{Q:Env->de->Prop}
    (h:∀h':dz,(∀b o,s.heap.get? b=Z o->h'.get? b=Z o)->h'.Ns s.heap.objs.size (λ_=>S)->(∀c,s.heap.objs.size+1<=c->c<s.heap.objs.size+1+oE scope.names->h'.IsCell c S) ->
      Q (newEnv scope s.heap.objs.size globals (cellsFrom (s.heap.objs.size+1) scope.names closure) qual S code (Z out) builtins) { s with heap:=h' }) :
    dr J' A (zL scope globals closure [] qual S code (Z out) builtins) Q E s:=by
  unfold zL;refine cY<|wpAny_alloc ?_;have hz:(s.heap.push { cls:=cU.type "dict",data:=pj.dict #[] }).objs.size=s.heap.objs.size+1:=gw _ _;refine cY<|NZ scope.names closure { s with heap:=s.heap.push { cls:=cU.type "dict",data:=pj.dict #[] } } _ λh' k1 k2=>?_;have Vl:(({ s with heap:=s.heap.push { cls:=cU.type "dict",data:=pj.dict #[] } }:de)).heap.objs.size=s.heap.objs.size+1:=hz;rw[Vl]at k2 ⊢;dsimp only;rw[DB];refine cY<|dA<|dA ?_;exact h h' (λb o e=>k1 b o<|c7 _ e) ((dz.Ns.new s.heap _).keeps k1) k2
def m8 (X:Cx)(scope:pI)(cl:List<|Str×cZ)(N:List Str)(C:cZ)(fp:List cZ)(s₀:de)(H₀:Hp):Cx :=
 { X with N:=N,s₀:=s₀,H₀:=H₀,env:=compEnvC scope cl C X.env,outer:=X.stack,stack:=X.stack,ex:=fp,fn:=λx=>scope.names.lookup x==Z .cell,pn:=[],xe:=λ_ _=>False }
structure og (X:Cx)(scope:pI)(N:List Str)(own:Nat)(cap:List Nat):Prop where
 kind:scope.kind=.function
 cells:∀x∈scope.names,x.2=.cell->scope.names.lookup x.1=Z .cell
 locs:∀x∈scope.names,x.2=.local->scope.names.lookup x.1=Z .local
 free:∀x∈scope.names,x.2=.free->X.env.kindOf x.1=Z .cell\/X.env.kindOf x.1=Z .free
 len:N.length=own+cap.length
 caps:∀(j:Nat) (x:Str),N[own+j]?=Z x->∃i,cap[j]?=Z i/\X.N[i]?=Z x/\(scope.names.lookup x=Z .free)
variable {α β:Type}
theorem u8 {α β:Type}[BEq α][LawfulBEq α]{x:α}{y:β}:∀{l:List (α×β)},l.lookup x=Z y->(x,y)∈l
 |[],h=>by simp at h
 |(a,b)::r,h=>by
  rw[dC]at h;cases hb:x==a with
  |true=>rw[hb]at h;cases h;rw[eq_of_beq hb];exact cV
  |false=>rw[hb]at h;exact df _<|u8 h
theorem QB {env:Env}{x:Str}:∀{names:List (Str×dZ)},names.lookup x=Z .free ->
  (names.map λ(n,k)=>if(k==dZ.free&&env.scope.kind==.function&&env.kindOf n==Z .cell)then(n,dZ.cell)else(n,k)).lookup x=Z .cell \/
  (names.map λ(n,k)=>if(k==dZ.free&&env.scope.kind==.function&&env.kindOf n==Z .cell)then(n,dZ.cell)else(n,k)).lookup x=Z .free
 |[],h=>by simp at h
 |(n,k)::r,h=>by
  rw[dC]at h;rw[dJ];cases hx:x==n with
  |true=>
   rw[hx]at h;cases h;by_cases hc:(dZ.free==dZ.free&&env.scope.kind==.function&&env.kindOf n==Z .cell)=Â
   ·left;simp only[hc,if_true,dC,hx]
   ·right;simp only[hc,if_false,dC,hx,fI]
  |false=>
   rw[hx]at h;rcases QB (env:=env) h with q|q
   ·left;by_cases hc:(k==dZ.free&&env.scope.kind==.function&&env.kindOf n==Z .cell)=Â
    ·simp only[hc,if_true,dC,hx];exact q
    ·simp only[hc,if_false,dC,hx,fI];exact q
   ·right;by_cases hc:(k==dZ.free&&env.scope.kind==.function&&env.kindOf n==Z .cell)=Â
    ·simp only[hc,if_true,dC,hx];exact q
    ·simp only[hc,if_false,dC,hx,fI];exact q
theorem j7 {env:Env}{x:Str}:∀{names:List (Str×dZ)},((names.map λ(n,k)=>if(k==dZ.free&&env.scope.kind==.function&&env.kindOf n==Z .cell)then(n,dZ.cell)else(n,k)).lookup x=Z .cell \/
  (names.map λ(n,k)=>if(k==dZ.free&&env.scope.kind==.function&&env.kindOf n==Z .cell)then(n,dZ.cell)else(n,k)).lookup x=Z .free)->(x,dZ.free)∈names\/(x,dZ.cell)∈names
 |[],h=>by simp at h
 |(n,k)::r,h=>by
  rw[dJ]at h;cases hx:x==n with
  |true=>
   have e:x=n:=eq_of_beq hx;by_cases hc:(k==dZ.free&&env.scope.kind==.function&&env.kindOf n==Z .cell)=Â
   ·have:k=.free:=by rw[dP,dP]at hc;exact eq_of_beq hc.1.1
    left;rw[e,this];exact cV
   ·simp only[hc,if_false,dC,hx,fI]at h;rcases h with h|h
    ·cases h;right;rw[e];exact cV
    ·cases h;left;rw[e];exact cV
  |false=>
   refine(j7 (env:=env) (names:=r) ?_).imp (df _)<|df _;by_cases hc:(k==dZ.free&&env.scope.kind==.function&&env.kindOf n==Z .cell)=Â
   ·simpa only[hc,if_true,dC,hx]using h
   ·simpa only[hc,if_false,dC,hx,fI]using h
def lX (U:St)(cap:List Nat):St:=cap.map λi=>(U[i]?).join
variable {cap:List Nat}{j:Nat}
theorem Yo {i:Nat}(hj:cap[j]?=Z i)(h:(lX U cap)[j]?=Z (Z v)):U[i]?=Z (Z v):=by
 unfold lX at h;rw[ix,hj]at h;cases e:U[i]? with
 |none=>rw[sC,e]at h;cases h
 |some o=>
  rw[sC,e]at h;cases o with
  |none=>cases h
  |some u=>exact h
variable {fp:List cZ}
theorem YR {cl:List (Str×cZ)}{N:List Str}{own:Nat}{h₁:dz}{m₀:Str->Option cU}(B:og X scope N own cap)(I:Ç X cW U H s)
    (c1:∀y c,cl.lookup y=Z c->X.env.cells.lookup y=Z c) (c2:∀x∈scope.names,x.2=.free->∃c,cl.lookup x.1=Z c)
    (hf:∀b∈fp,sD X cW H b) (PP:∀b∈fp,b<s.heap.objs.size) (xL:h₁.Ns s.heap.objs.size m₀) (k:∀b o,s.heap.get? b=Z o->h₁.get? b=Z o)
    (yA:∀c,s.heap.objs.size+1<=c->c<s.heap.objs.size+1+oE scope.names->h₁.IsCell c S) :
    Ç (m8 X scope (cellsFrom (s.heap.objs.size+1) scope.names cl) N s.heap.objs.size fp s H) [] (dg own S++lX U cap) H { s with heap:=h₁,toks:=t' } :=
  have low:∀x c,cl.lookup x=Z c->c<s.heap.objs.size:=λx c e=>by obtain⟨v,o,q,_⟩:=I.cell x c<|c1 x c e;exact dB q
  { ok:={
      mod:=I.mod
      kind:=B.kind
      glob:=I.ok.glob
      blt:=I.ok.blt
      above:=dE _
      inj:=OU _ _ _ (λx y c e e'=>I.ok.inj x y c (c1 x c e)<|c1 y c e') λx c e=>mR<|low x c e
      has:=λx hx=>by
        refine uQ.mp<|kB scope.names _ _ ?_;rcases j7 hx with q|q
        · right;obtain⟨c,e⟩:=c2 _ q rfl
          rw[e];rfl
        · exact .inl<|B.cells _ q rfl
      cab:=λx c e e'=>by
        have hx:scope.names.lookup x=Z .cell:=eq_of_beq e;rcases Hz _ _ _ e' with⟨h1,_⟩|⟨_,h2⟩
        · exact rR h1
        · exact absurd (u8 hx) h2
      hd:=I.ok.hd
      frames:=I.ok.frames
      stk:=.inl rfl
      exf:=λb hb=>⟨dU<|PP b hb,λx c e=>by
        rcases Hz _ _ _ e with⟨h1,_⟩|⟨h1,_⟩
        · exactλz=>absurd (PP b hb) (by rw[←z];exact Nat.not_lt.mpr<|rR h1)
        · exact(hf b hb).2.2.2.2.1 x c<|c1 x c h1⟩
      bs:=I.bs
      bsz:=fk I.ok.bsz I.sz
      noex:=λb o e hb=>by
        rcases(hf b hb).2.2.2.1 with q|q
        · exact I.ok.noex b o e q
        · exact absurd (d8 (dB e) I.ok.bsz)<|Nat.not_lt.mpr q
      exfs:=λb hb hz=>by
        rcases dn.mp (I.stkSub b hz)with q|q
        · exact(hf b hb).2.1 q
        · exact(hf b hb).2.2.1 q
      funs:=I.stack
      frf:=I.stkFree }
    os:=rfl
    bare:=I.bare
    base:=Un.kept k
    loc:=by
      refine⟨m₀,xL,λi x v hN hσ hv=>?_⟩;by_cases hi:i<own
      · rw[mx<|by rw[hZ];exact hi,nc,if_pos hi]at hσ;cases hσ
      · obtain⟨j,rfl⟩:∃j,i=own+j:=⟨i-own,by lia⟩;obtain⟨i',e1,e2,e3⟩:=B.caps j x hN;rw[uP<|by rw[hZ];lia,hZ,Nat.add_sub_cancel_left]at hσ;have Du:=Yo e1 hσ;have hk:=B.free (x,.free) (u8 e3) rfl;obtain⟨m,hm,hl⟩:=I.loc;obtain⟨u,ru,hu⟩:=hl i' x v e2 Du<|.inr hk;refine⟨u,ru,?_⟩;rcases hu with⟨q,_⟩|⟨_,c,hc,ic⟩
        · rcases hk with hk|hk
          · rw[hk]at q;cases q
          · rw[hk]at q;cases q
        · obtain⟨c',ER⟩:=c2 (x,.free) (u8 e3) rfl;have ec:=c1 x c' ER;rw[hc]at ec;cases ec;have hn:(x,dZ.cell)∉scope.names:=λz=>by have:=B.cells _ z rfl;rw[e3]at this;cases this
          exact .inr ⟨QB e3,c,by show(cellsFrom _ _ _).lookup x=_;rw[OT _ _ _ hn];exact ER,ic.keeps k⟩
    cell:=λx c e=>by
      rcases Hz _ _ _ e with⟨h1,h2,_⟩|⟨h1,_⟩
      · exact⟨S,yA c h1 h2⟩
      · obtain⟨v,q⟩:=I.cell x c<|c1 x c h1;exact⟨v,q.keeps k⟩
    free:=I.hok.fresh<|dE _
    freeC:=λx c e=>by
      rcases Hz _ _ _ e with⟨h1,_⟩|⟨h1,_⟩
      · exact I.hok.fresh<|rR h1
      · exact I.freeC x c<|c1 x c h1
    pin:=λp hp=>(nomatch hp)
    hok:=I.hok.kept k
    len:=by show(dg own S++lX U cap).length=N.length;rw[d7,hZ,B.len];unfold lX;rw[dY] }
def En:TT:=λ_ H Q=>Q Â H
def EI (X:Cx)(ifs:List Expr)(t:TT):Prop :=
 ∀(cW:List<|cZ×gM) (s:de) (U:St) (H:Hp) (Q:Bool->Hp->Prop),Ç X cW U H s->t U H Q ->
  dr (dq X.prog X.w) X.A (forIn ifs Â λc r=>if r=Â then do let ok ← vC c X.env (eP c X.env);pure (ForInStep.yield ok)else pure (ForInStep.yield r)) (TP X cW U Q) X.xe s
theorem zre:EI X [] En:=λ_ _ _ H _ I h=>wpAny_tests_nil ⟨H,I,h⟩
variable {c:Expr}
theorem zrf {t:TT}(h:PT X c t):EI X [c] t:=λcW s U H Q I q=>wpAny_tests_one<|h cW s U H Q I q
def Bj (wi:TI)(own:Nat)(cap:List Nat)(g:TG)(tt:TT)(te:TE):TE:=λU H Q=>wi U H λL' H1=>∀D,H1 D=S->∃W:Nat->Nat->List V->Hp->Prop,(∃m,W 0 m []<|upd H1 D<|.lst []) /\
 ∀i m ys H2,W i m ys H2->H2 D=Z (.lst ys)/\((L'.stop i H2/\Q (.ref D) H2)\/(L'.go i H2/\ys.length<sizeLine/\∀x H3,L'.yld i H2 x H3->g x (dg own S++lX U cap) H3 λσ2 H4=>tt σ2 H4 λb H5=>if b=Â then te σ2 H5 λy H6=>H6 D=Z (.lst ys)/\∃m',m'<m/\W (i+1) m' (ys++[y]) (upd H6 D<|.lst<|ys++[y])else∃m',m'<m/\W (i+1) m' ys H5))
def kY (own:Nat)(g:TG):Prop:=∀v U H Q,g v U H Q->g v U H λσ' G=>Q σ' G/\σ'.length = U.length/\∀i,own<=i->σ'[i]? = U[i]?
theorem Yp (i own:Nat)(h:i<own):kY own (AY i):=λv U H Q q=>⟨q,by rw[C8],λj hj=>by rw[gj<|by lia]⟩
variable {g:TG}{tg:Expr}{tt:TT}{wi:TI}
theorem Ru {QV:VK}{use:Option (cU->Cd Unit)}{Q0:cU->de->Prop}{t7:my}{N:List Str}{own:Nat}{c:Prop}(B:og X scope N own cap)(hc:c)(hi:GY X c tg iter wi)
    (kg:kY own g)
    (hg:∀cl C fp s₀ H₀,PG (m8 X scope cl N C fp s₀ H₀) tg g) (ht:∀cl C fp s₀ H₀,EI (m8 X scope cl N C fp s₀ H₀) ifs tt) (he:∀cl C fp s₀ H₀,PE (m8 X scope cl N C fp s₀ H₀) pA te)
    (hs:B4 X iter) (I:Ç X cW U H s) (h:Bj wi own cap g tt te U H QV)
    (fin:∀(D C:cZ) (H5:Hp) (s6:de) (r:Flow),QV (.ref D) H5->Ç X cW U H5 s6->sD X cW H5 C->(∃m,s6.heap.Ns C m)->compPost (dq X.prog X.w) X.A X.xe use Q0 (.ref D) C (.ok r) s6) :
    dr (dq X.prog X.w) X.A (comprehension (.ListComp pA [⟨tg,iter,ifs,0⟩] scope pos) scope X.env t7 (newList []) Ã (eP iter X.env) use) Q0 X.xe s:=by
  obtain⟨cl,UU,c1,c2,_⟩:=NY (env:=X.env) scope.names [] (λx hx hf=>I.ok.has x.1<|B.free x hx hf) (λy c e=>by simp at e);have Ig:closureFor scope X.env=pure cl:=by have e:closureFor scope X.env=(forIn scope.names ([]:List (Str×cZ)) (λ(x:Str×dZ) (cs:List<|Str×cZ)=>if(x.2==dZ.free)=Â then do let a ← cellOf X.env x.1;pure (ForInStep.yield ((x.1,a)::cs))else pure (ForInStep.yield cs)) >>= pure:Cd (List<|Str×cZ)):=rfl;rw[e,UU];rfl
  refine wpAny_comprehension_free (use:=use) rfl hs Ig B.kind B.locs<|gb (hi cW s U H _ I h) λv s1 h1=>gb h1 λM6 s2 h2=>?_;obtain⟨it,fp,tn,L',H2,e,I2,⟨Cs,T,hT⟩,CY,f2,W0⟩:=h2;subst e;obtain⟨W,⟨m0,w0⟩,turn⟩:=W0 s2.heap.objs.size<|I2.hok.fresh<|dE _;refine iI ?_;have I3:Ç X cW U (upd H2 s2.heap.objs.size<|.lst []) { s2 with heap:=s2.heap.push { cls:=.type "list",data:=.seq ([]:List cU).toArray } }:=I2.lnew .nil<|gQ _;generalize PY:({ s2 with heap:=s2.heap.push { cls:=.type "list",data:=.seq ([]:List cU).toArray } }:de)=s3 at I3;have k3:∀b o,s2.heap.get? b=Z o->s3.heap.get? b=Z o:=λb o e=>by rw[←PY];exact c7 _ e
  have z3:s3.heap.objs.size=s2.heap.objs.size+1:=by rw[←PY];exact gw _ _
  have FN:∀b∈fp,b<s2.heap.objs.size:=λb hb=>by obtain⟨o,e,_⟩:=T.obj _ _ CY b hb;exact dB e
  have oQ:∀b∈fp,b≠s2.heap.objs.size:=λb hb=>dU<|FN b hb;have f3:∀b∈fp,sD X cW (upd H2 s2.heap.objs.size<|.lst []) b:=λb hb=>⟨by rw[zn<|oQ b hb];exact(f2 b hb).1,(f2 b hb).2⟩;have V2:tn 0 s3.heap:=T.keep _ _ _ CY λb _ o e=>k3 b o e;show dr _ _ (zL scope X.env.globals cl [] X.env.qual S .none<|Z X.env) _ _ _;refine Xn λh₁ kk MK Mw=>?_;have IB:=YR (t':=s3.toks) B I3 c1 c2 f3 (λb hb=>by rw[z3];exact mR<|FN b hb) MK kk Mw;generalize cellsFrom (s3.heap.objs.size+1) scope.names cl=cl at IB ⊢;generalize Vb:({ s3 with heap:=h₁,toks:=s3.toks }:de)=s4 at IB;have Qn:tn 0 s4.heap:=T.keep _ _ _ V2 λb _ o e=>by rw[←Vb];exact kk b o e
  show jC (dq X.prog X.w) X.A (.compStart (.ListComp pA [⟨tg,iter,ifs,0⟩] scope pos) 0 (.ref it) (.ref s2.heap.objs.size)<|compEnvC scope cl s3.heap.objs.size X.env)
      (compPost (dq X.prog X.w) X.A X.xe use Q0 (.ref s2.heap.objs.size) s3.heap.objs.size) s4
  have AF:∀{G:Hp},(∀b∈fp,G b=S)->∀b∈fp,sD (m8 X scope cl N s3.heap.objs.size fp s3<|upd H2 s2.heap.objs.size<|.lst []) [] G b:=λhn b hb=>⟨hn b hb,dU (by show b<s3.heap.objs.size;rw[z3];exact mR<|FN b hb),IB.ok.exfs b hb,.inl hb,λx c e=>(IB.ok.exf b hb).2 x c e,λp hp=>(nomatch hp)⟩;have loop:jC (dq X.prog X.w) X.A (.compLoop (.ListComp pA [⟨tg,iter,ifs,0⟩] scope pos) 0 (.ref it) (.ref s2.heap.objs.size)<|compEnvC scope cl s3.heap.objs.size X.env)
      (compPost (dq X.prog X.w) X.A X.xe use Q0 (.ref s2.heap.objs.size) s3.heap.objs.size) s4:=by
    refine W2 (λn s'=>∃i ys G,Ç (m8 X scope cl N s3.heap.objs.size fp s3<|upd H2 s2.heap.objs.size<|.lst []) [] (dg own S++lX U cap) G s'/\tn i s'.heap/\(∀b∈fp,G b=S)/\W i n ys G) ?_ m0
      ⟨0,[],_,IB,Qn,λb hb=>(f3 b hb).1,w0⟩
    rintro n s5 ⟨i,ys,H5,I5,Hj,J6,w5⟩;obtain⟨hD,U4⟩:=turn i n ys H5 w5;rcases U4 with⟨stop,qn⟩|⟨go,vI,step⟩
    · refine gb (T.done (m8 X scope cl N s3.heap.objs.size fp s3<|upd H2 s2.heap.objs.size<|.lst []) rfl rfl rfl (hT hc _ rfl rfl) i [] s5 _ H5 (λ_ _=>False) I5 (AF J6) Hj stop) λr s6 gP=>?_;obtain⟨hr,I6⟩:=gP;subst hr;obtain⟨m,hm,_⟩:=id I6.loc;refine fin s2.heap.objs.size s3.heap.objs.size H5 s6 _ qn ?_ (I3.fpOk (dE _) I6.free) ⟨m,hm⟩;have sb:fZ s3.heap.objs.size s6.heap s6.heap:=⟨rfl,λ_ _=>rfl⟩;have Z':=I6.base;have nC:∀b o,s3.heap.get? b=Z o->b≠s3.heap.objs.size:=λb o e=>dU<|dB e;have nT:∀b o,H5 b=Z o->b≠s3.heap.objs.size:=λb o e z=>by have q:H5 s3.heap.objs.size=S:=I6.free;rw[z,q]at e;cases e
      refine I3.call' (ch:=fp) I6.os ?_ (λa o e=>(I6.hok a o e).stay (λb u hb q=>sb.extBut b u ?_ q) (λ_ q=>q) λ_ _ q=>q) I6.bare<|λb hb=>⟨(f3 b hb).2.2.2.1,(f3 b hb).2.1,(f3 b hb).2.2.2.2.1,(f3 b hb).2.2.2.2.2⟩
      · exact{
          keep:=λb o e z hb he=>sb.extBut b o (nC b o e)<|Z'.keep b o e z hb he
          slot:=λb o e z hb he=>by obtain⟨sl,q⟩:=Z'.slot b o e z hb he;exact⟨sl,sb.extBut b _ (nC b o e) q⟩
          free:=Z'.free
          there:=λb o e he=>by obtain⟨o',q⟩:=Z'.there b o e he;exact⟨o',sb.extBut b o' (nC b o e) q⟩
          tups:=Z'.tups
          frzs:=Z'.frzs
          tbls:=Z'.tbls }
      · rcases hb with rfl|hb
        · exact nT _ _ e
        · exact nT _ _ hb
    · refine gb (T.item (m8 X scope cl N s3.heap.objs.size fp s3<|upd H2 s2.heap.objs.size<|.lst []) rfl rfl rfl (hT hc _ rfl rfl) i [] s5 _ H5 (λ_ _=>False) I5 (AF J6) Hj go) λr s6 gP=>?_;obtain⟨u,hr,h6⟩:=gP;subst hr;refine gb h6 λ_ s7 gP=>?_;obtain⟨x,H7,I7,r7,y7,ND,UB⟩:=gP;have TX:=I7.pinned (AF UB)<|T.obj _ _ ND;refine gb (hg cl s3.heap.objs.size fp s3 _ _ s7 _ H7 x u _ TX r7<|kg _ _ _ _<|step x H7 y7) λ_ s8 gP=>?_;obtain⟨σ8,H8,I8,q8,l8,p8⟩:=gP;have back:∀{H9:Hp} {s9:de},Ç (m8 X scope cl N s3.heap.objs.size fp s3<|upd H2 s2.heap.objs.size<|.lst []) ([]++t6 fp s7.heap) σ8 H9 s9 ->
          Ç (m8 X scope cl N s3.heap.objs.size fp s3<|upd H2 s2.heap.objs.size<|.lst []) [] (dg own S++lX U cap) H9 s9/\tn (i+1) s9.heap/\∀b∈fp,H9 b=S:=λ{H9 s9} I9=>by
        refine⟨(I9.unpinned).weak l8.symm<|λj v e=>?_,T.keep _ _ _ ND λb hb o e=>(I9.pin (b,o)<|c8 _<|c8 _<|u3 hb e).1,λb hb=>?_⟩
        · by_cases hj:j<own
          · rw[mx<|by rw[hZ];exact hj,nc,if_pos hj]at e;cases e
          · rw[p8 j<|by lia];exact e
        · obtain⟨o,e,d⟩:=T.obj _ _ ND b hb;exact(I9.pin (b,o)<|c8 _<|c8 _<|u3 hb e).2.1
      refine gb (ht cl s3.heap.objs.size fp s3 _ _ s8 σ8 H8 _ I8 q8) λok s9 gP=>?_;obtain⟨H9,I9,q9⟩:=gP;cases ok with
      |false=>rw[if_neg di];rw[if_neg di]at q9;obtain⟨m',Iv,w'⟩:=q9;obtain⟨b1,b2,b3⟩:=back I9;exact⟨m',Iv,i+1,ys,H9,b1,b2,b3,w'⟩
      |true=>rw[if_pos rfl];rw[if_pos rfl]at q9;refine gb (he cl s3.heap.objs.size fp s3 _ _ s9 σ8 H9 _ I9 q9) λuy VO gP=>?_;obtain⟨y,Pc,TR,r10,Mi,m',Iv,w'⟩:=gP;refine gb (N7 _ VO σ8 Pc (.ref s2.heap.objs.size) [y] (.ref s2.heap.objs.size) [uy] (λ_ Pd=>Pd=upd Pc s2.heap.objs.size (.lst<|ys++[y])) TR rfl (.cons r10 .nil) ⟨_,ys,y,rfl,rfl,Mi,vI,rfl⟩) λ_ s11 gP=>?_;obtain⟨_,Pd,TU,_,T6⟩:=gP;subst T6;obtain⟨b1,b2,b3⟩:=back TU;exact⟨m',Iv,i+1,ys++[y],_,b1,b2,b3,w'⟩
  exact codeAny_compStart_list loop<|T.self X.A 0 s4 _ _ Qn loop
theorem zrg {N:List Str}{own:Nat}{c:Prop}(B:og X scope N own cap)(hc:c)(hi:GY X c tg iter wi)
  (kg:kY own g)
  (hg:∀cl C fp s₀ H₀,PG (m8 X scope cl N C fp s₀ H₀) tg g) (ht:∀cl C fp s₀ H₀,EI (m8 X scope cl N C fp s₀ H₀) ifs tt) (he:∀cl C fp s₀ H₀,PE (m8 X scope cl N C fp s₀ H₀) pA te)
  (hs:B4 X iter:=by intro _;rfl):PE X (.ListComp pA [⟨tg,iter,ifs,0⟩] scope pos) (Bj wi own cap g tt te):=by
 intro cW s U H Q I h;rw[eval_ListComp];refine Ru (use:=none) (Q0:=EP X cW U Q) B hc hi kg hg ht he hs I h λD C H5 s6 r q I6 fo hm=>?_;obtain⟨m,hm⟩:=hm;obtain⟨f0,f1,f2,f3,f4,f5⟩:=fo;exact⟨m,hm,λh' sb=>⟨.ref D,H5,I6.turned (t':=s6.toks) (it:=C) (λb o hb e=>sb.extBut b o hb e) f0 f1 f3 f4 f5,rfl,q⟩⟩
variable {ch:List cZ}
theorem Ç.turnLay {o:HO}(I:Ç X cW U H s)(tm:∀b∈ch,sD X cW H b)(k:∀b o,b∉ch->s.heap.get? b=Z o->h'.get? b=Z o)(hp:s.heap.objs.size<=a)
  (new:il X.prog X.w (upd H a o) h' a o):Ç X cW U (upd H a o) { s with heap:=h',toks:=t' }:=by
 have hn:H a=S:=I.hok.fresh hp;have IU:∀b u,H b=Z u->b∉ch:=λb u e z=>by rw[(tm b z).1]at e;cases e
 refine I.step (g':=s.gens) (d':=s.drawn) (ch:=ch) (λb hb=>⟨(tm b hb).2.2.2.1,(tm b hb).2.1,(tm b hb).2.2.2.2.1,(tm b hb).2.2.2.2.2⟩) (λb o _ _ hc e _=>k b o hc e) (λb o _ _ hc e _=>⟨o.slots,k b o hc e⟩)
  (λb o _ e n=>by rw[zn<|dU<|d8 (dB e) hp];exact n) (λb o hc e=>⟨o,k b o hc e⟩) (λb xs q=>by rw[zn<|zp q hn];exact q) (λb u xs q=>by rw[zn<|zp q hn];exact q)
  (λb ps q=>⟨#[],by rw[zn<|zp q hn,q];simp⟩) (λm hm=>?_) (λb u e=>?_) I.bare
 ·obtain⟨o',es,ep,ho,r⟩:=hm;exact⟨o',es,ep,k _ o' (λz=>(tm _ z).2.1 rfl) ho,r⟩
 ·by_cases hb:b=a
  ·subst hb;rw[zo]at e;cases e;exact new
  ·rw[zn hb]at e;refine(I.hok b u e).stay (λc v hc q=>k c v ?_ q) (λc q=>by rw[zn<|zp q hn];exact q) λc xs q=>by rw[zn<|zp q hn];exact q
   rcases hc with z|z
   ·rw[z];exact IU b u e
   ·exact IU c _ z
theorem Ç.turnedL (I:Ç X cW U H s)(tm:∀b∈ch,sD X cW H b)(k:∀b o,b∉ch->s.heap.get? b=Z o->h'.get? b=Z o):Ç X cW U H { s with heap:=h',toks:=t' }:=by
 have IU:∀b u,H b=Z u->b∉ch:=λb u e z=>by rw[(tm b z).1]at e;cases e
 refine I.step (g':=s.gens) (d':=s.drawn) (ch:=ch) (λb hb=>⟨(tm b hb).2.2.2.1,(tm b hb).2.1,(tm b hb).2.2.2.2.1,(tm b hb).2.2.2.2.2⟩) (λb o _ _ hc e _=>k b o hc e) (λb o _ _ hc e _=>⟨o.slots,k b o hc e⟩)
  (λ_ _ _ _ n=>n) (λb o hc e=>⟨o,k b o hc e⟩) (λ_ _ e=>e) (λ_ _ _ e=>e) (λb ps e=>⟨#[],by rw[e];simp⟩) (λm hm=>?_) (λb u e=>?_) I.bare
 ·obtain⟨o',es,ep,ho,r⟩:=hm;exact⟨o',es,ep,k _ o' (λz=>(tm _ z).2.1 rfl) ho,r⟩
 ·refine(I.hok b u e).stay (λc v hc q=>k c v ?_ q) (λ_ q=>q) λ_ _ q=>q;rcases hc with z|z
  ·rw[z];exact IU b u e
  ·exact IU c _ z
def LG (K:cX)(a:cZ):It :=
 ⟨λi H=>∃xs x,i6 K H a xs/\xs[i]?=Z x,λi H x G=>∃p y,H p=S/\x=.ref p/\G=upd H p (.tup [.int i,y])/\∀xs,i6 K H a xs->xs[i]?=Z y,λi H=>∃xs,i6 K H a xs/\xs.length<=i⟩
variable {uU:List Expr}{kt:Nat}
theorem YS {w:d5}{K:cX}{pt:my}(a e it:cZ)(PL:e≠it) :
    è P w K (.Tuple uU kt pt) (LG K a) [e,it] e (λi h=>(∃old,IsEnum h e it i old)/\h.IsListIter it a i) where
  mem:=by simp
  obj:=λi h st b hb=>by
    obtain⟨⟨old,he⟩,o,e1,c,d⟩:=st;rcases dn.mp hb with rfl|hb
    · exact⟨_,he,λv z=>by cases z⟩
    · have e2:b=it:=by simpa using hb
      subst e2;exact⟨o,e1,λv z=>by rw[d]at z;cases z⟩
  keep:=λi h h' st k=>by obtain⟨⟨old,he⟩,hit⟩:=st;exact⟨⟨old,k e (by simp) _ he⟩,hit.at λo x=>k it (by simp) o x⟩
  item:=by
    intro X hP hw hK hc i cW s U H E I hf st hg;subst hP hw hK;obtain⟨xs,x,hq,hx⟩:=hg;obtain⟨eG,rv,p,hz⟩:=I.list hq;obtain⟨u,hu,ru⟩:=rv.get hx;obtain⟨⟨old,he⟩,hit⟩:=st;refine wpAny_pyNext_enum_item he hit p.isList (x:=u) (by simpa using hu) PL λh1 ho MG hT hsz hk=>?_;refine⟨_,rfl,wpAny_letOwnedTupleGo_enum (s:={ s with heap:=h1,toks:=s.toks+1 }) ho λh2 Ha Eh=>?_⟩;have pA:e<s.heap.objs.size:=dB he;have Vq:it<s.heap.objs.size:=by obtain⟨_,q,_⟩:=hit;exact dB q
    have Mm:h2.get? s.heap.objs.size=Z { cls:=.type "tuple",data:=.seq #[.int i s.toks,u] }:=(Eh.2 _<|kT pA).trans hT;have Im:H s.heap.objs.size=S:=I.hok.fresh<|dE _;have I1:Ç X cW U (upd H s.heap.objs.size<|.tup [.int i,x]) { s with heap:=h2,toks:=s.toks+1 }:=by refine I.turnLay (ch:=[e,it]) hf (λb o hb q=>?_) (dE _) ⟨by show 2<=sizeLine;decide,[.int i s.toks,u],.cons ⟨_,rfl⟩<|.cons ru .nil,_,Mm,rfl,_,rfl⟩;have J7:b≠e:=λz=>hb (by simp[z]);have Mg:b≠it:=λz=>hb (by simp[z]);exact(Eh.2 b J7).trans<|hk b o J7 Mg q
    refine⟨.ref s.heap.objs.size,_,I1,rfl,⟨_,x,Im,rfl,rfl,λys hy=>by rw[I.list_inj hy hq];exact hx⟩,⟨⟨u,by simpa using Ha⟩,MG.at λo q=>(Eh.2 it PL.symm).trans q⟩,λb hb=>?_⟩;rw[zn ?_]
    · exact(hf b hb).1
    · rcases dn.mp hb with rfl|hb
      · exact dU pA
      · have e2:b=it:=by simpa using hb
        rw[e2];exact dU Vq
  done:=by intro X hP hw hK hc i cW s U H E I hf st hg;subst hP hw hK;obtain⟨xs,hq,hx⟩:=hg;obtain⟨eG,rv,p,hz⟩:=I.list hq;obtain⟨⟨old,he⟩,hit⟩:=st;have hl:=rv.length;exact wpAny_pyNext_enum_end (I.ok.hd hc) he hit p.isList (by simp;lia) λh' eb=>⟨rfl,I.turnedL (ch:=[e,it]) (t':=s.toks) hf λb o hb q=>eb b o (λz=>hb<|by simp[z]) q⟩
  self:=λ_ _ _ _ _ st h=>wpAny_pyIter_enum st.1.choose_spec h
section
variable {pt:my}
def ID (K:cX)(ta:TA):TI:=λU H R=>ta U H λvs H1=>∃a,vs=[.ref a]/\(∃xs,i6 K H1 a xs)/\R (LG K a) H1
theorem R5 {l:Expr}{ta:TA}(hg:Gl X "enumerate")(hm:X.mg "enumerate"=S)(ha:PA X [l] ta)(hs:SN X l:=by rfl) :
  PI X (.Tuple uU kt pt) (.Call (.Name "enumerate" p) [l] [] pos) (ID X.K ta):=by
 intro cW s U H R I h;refine Call_<|Fo I hg hm PyProof.Rows.boot_enumerate<|fV (gb (ha pos cW s U H _ I h) λus s1 hq=>?_) hs rfl;obtain⟨vs,H1,I1,r1,q1⟩:=hq;obtain⟨a,e,⟨xs,hq⟩,q⟩:=q1;subst e;cases r1 with
 |cons r rr=>
  cases rr;cases r;obtain⟨eG,rv,pl,hz⟩:=I1.list hq;refine call_enumerate_list pl.isList λh' he hit hsz hk=>?_;refine wpAny_pyIter_enum (s:={ s1 with heap:=h' }) he ?_;refine⟨s1.heap.objs.size+1,[s1.heap.objs.size+1,s1.heap.objs.size],_,_,H1,rfl,I1.kept (t':=s1.toks) hk,(YS a _ _<|Nat.succ_ne_self _).ok,⟨⟨_,he⟩,hit⟩,λb hb=>?_,q⟩;rcases dn.mp hb with rfl|hb
  ·exact I1.fpOk (lM _)<|I1.hok.fresh<|lM _
  ·have e:b=s1.heap.objs.size:=by simpa using hb
   subst e;exact I1.fpOk (dE _)<|I1.hok.fresh<|dE _
end
section
open PySem
def HI (K:cX)(a:cZ)(xs:List V):Prop:=∃(o:gM) (eG:Array cU) (n:Nat),K.lookup a=Z o/\o.cls=.type "tuple"/\o.data=.seq eG n/\eG.size<=sizeLine/\eh xs eG.toList
theorem d9.rd {u:HO}(e:d9 H G)(h:Rd H a u):Rd G a u:=h.elim (λh=>.inl<|e _ _ h) λh=>.inr<|h.elim λo h=>⟨o,e _ _ h⟩
end
end L2
namespace PySem
variable {A:dO}{prog:eI}{w:d5}
end PySem
namespace L2
open PySem PyProof.Rows
variable {X:Cx}{cap:List Nat}{pA iter tg:Expr}{g:TG}{ifs:List Expr}{pos pos':my}{scope:pI}{te:TE}{tt:TT}{wi:TI}{x:Str}
theorem Yq {i:Nat}{yS:my}{N:List Str}{own:Nat}(B:og X scope N own cap)(hc:X.calm=Â)(hi:PI X tg iter wi)
  (kg:kY own g)
  (hg:∀cl C fp s₀ H₀,PG (m8 X scope cl N C fp s₀ H₀) tg g) (ht:∀cl C fp s₀ H₀,EI (m8 X scope cl N C fp s₀ H₀) ifs tt) (he:∀cl C fp s₀ H₀,PE (m8 X scope cl N C fp s₀ H₀) pA te)
  (hN:X.N.Nodup) (Iq:X.N[i]?=Z x) (hx:ë X.env.scope x) (CF:gc (.ListComp pA [⟨tg,iter,ifs,0⟩] scope pos) (Z<|.Name x pos') yS.line X.env=pure Â)
  (hs:B4 X iter:=by intro _;rfl) (hf:xE X x:=by walk_at "v2") :
  PS X (.Assign [.Name x pos'] (.ListComp pA [⟨tg,iter,ifs,0⟩] scope pos) yS) (Gs (Bj wi own cap g tt te)<|AY i):=by
 intro cW s U H D I h;rw[exec_Assign_Name_used _ _ _ _ CF];refine cY<|kP<|cY ?_;show dr _ X.A (do let _ ← comprehension (.ListComp pA [⟨tg,iter,ifs,0⟩] scope pos) scope X.env _ (newList []) Ã (eP iter X.env) (Z<|kU (.Name x pos') X.env)) _ _ s;refine cY<|fW (Ru (use:=some<|kU (.Name x pos') X.env) (Q0:=λ_ s'=>∃σ' G,Ç X cW σ' G s'/\D.nx σ' G) B hc hi kg hg ht he hs I h λDa C H5 s6 r q I6 fo hm=>?_) (λ_ s' hq=>dA<|dA hq) λ_ _ e=>e;show dr _ X.A (kU (.Name x pos') X.env<|.ref Da) _ _ _;refine wpAny_assign_Name<|Q6 (v:=.ref Da) I6 hN Iq hx rfl (λs7 I7 Vc=>?_) hf;obtain⟨m,hm⟩:=hm;obtain⟨a,sb,ha⟩:=Vc;obtain⟨f0,f1,f2,f3,f4,f5⟩:=fo;have oQ:C≠a:=by
  rcases ha with rfl|ha
  ·exact f1
  ·exactλz=>f4 x a ha z.symm
 refine⟨m,hm.sameBut sb oQ,λh' VQ=>⟨_,H5,I7.turned (t':=s7.toks) (it:=C) (λb o hb e=>VQ.extBut b o hb e) f0 f1 f3 f4 f5,q⟩⟩
variable {uU:List Expr}{kt:Nat}
variable {e:Expr}{p2:my}
variable {es:List Expr}{n:Nat}
section
open PySem PySem.Spec
open PyProof.Rows hiding St
def Ma (K:cX)(n:Nat)(t:Di):TG:=λv U H Q=>∃a xs,v=.ref a/\i6 K H a xs/\xs.length=n/\t xs U H Q
theorem ŭ {k:Nat}{t:Di}(hc:X.calm=Â)(h:FD X es t)
  (hn:(eY es X.env).length=n:=by rfl) (jH:(eY es X.env).findIdx? (·.1)=S:=by rfl):PG X (.Tuple es k pos) (Ma X.K n t):=by
 intro cW s U H v u Q I r hw;obtain⟨a,xs,e1,hq,hl,hw⟩:=hw;subst e1;cases r;obtain⟨eG,rv,ht,hz⟩:=I.list hq;have Dr:(eY es X.env).length=eG.toArray.size:=by simp[hn,←hl,rv.length]
 rw[assign_Tuple];refine cY<|kP ?_;unfold unpack;rw[Dr,jH];obtain⟨o,n1,e,c1,c2,c3⟩:=ht;refine cY (gA<|PySem.W.kun_itemsOf (I.ok.hd hc) ⟨o,e,c1,by first|exact c3|exact⟨_,c3⟩|(rw[c3])⟩ λh' hx=>?_);have I1:Ç X cW U H { s with heap:=h' }:=I.kept (t':=s.toks) λb o e=>hx b o (dU<|dB e) e;exact h cW _ U H xs _ Q I1 (by simpa using rv) hw
end
variable {C f:cZ}{CX:Df}{fG p:my}{fd:c9}{m:Str}{o:Expr}{ps:List Str}{ta:TE}
section
open PySem PySem.Spec PyProof.Rows
theorem Rv:iL X (.builtin "isinstance") (λvs H Q=>∃v cv b,vs=[v,cv]/\(∀u,Ì cv u->(∃a C dx tb,v=.ref a/\H a=Z (nN a C dx tb)/\(dx=S\/∃d fs,dx=Z d/\H d=Z (.xd fs))/\å X.K C/\dN X.K (.ref C) u=Z b)\/(v=.non/\dN X.K (.type "NoneType") u=Z b))/\Q (.bl b) H):=by
 intro cW s U H vs us Q I r h;obtain⟨v,cv,b,rfl,hk,q⟩:=h;cases r with
 |cons rv r=>
  cases r with
  |cons ru r=>
   cases r;rcases hk _ ru with⟨a,C,dx,tb,rfl,ha,hd,ic,e⟩|⟨rfl,e⟩
   ·cases rv;obtain⟨a0,eo⟩:=(I.hok a _ ha).1;have L':∃ox od,jE s.heap a ox C od:=by
     rcases hd with rfl|⟨d,fs,rfl,hd⟩
     ·exact⟨_,S,eo,rfl,rfl,trivial⟩
     ·obtain⟨mA,⟨od,es,ep,e2,_⟩,_⟩:=I.hok d _ hd;exact⟨_,Z od,eo,rfl,rfl,e2⟩
    obtain⟨ox,od,L'⟩:=L';exact eW (Zq ic) I.kIn L' e (λz=>by cases z) λtk=>⟨.bl b,H,I.tok _,rfl,q⟩
   ·cases rv;exact eW Ac I.kIn trivial e (λz=>by cases z) λtk=>⟨.bl b,H,I.tok _,rfl,q⟩
end
variable {U':List (Str×cU)}{P:eI}{da:cZ}{h:dz}
section
open PySem PySem.Spec PyProof.Rows
class inductive EL (w:d5):List DictEntry->List (Str×cU)->Prop
 |nil:EL w [] []
 |cons {k:Str} {t:Tok} {v:cU} {es:List DictEntry} {U':List (Str×cU)}:EL w es U'->EL w (⟨dX.keyHash w.params k,.str k t,v⟩::es) ((k,v)::U')
structure KD (K:cX)(w:d5)(mg:Str->Option cU)(x:Str)(da:cZ)(U':List<|Str×cU):Prop where
 mgx:mg x=Z (.ref da)
 sy:(da==hJ)=Ã
 ob:∃(es:Array DictEntry) (ep:Nat),K.lookup da=Z ⟨.type "dict",S,.dict es ep,#[]⟩/\EL w es.toList U'
section
variable {w:d5}
theorem EL.keys {es:List DictEntry}(h:EL w es U'):∀e∈es,∃k,(strKind P w).is k e.key=Â/\e.hash=(strKind P w).hash k:=by
 induction h with
 |nil=>intro e h;cases h
 |@cons k t v es U' h ih=>
  intro e he;rcases dn.mp he with rfl|he
  ·exact⟨k,strKind_is P w k t,rfl⟩
  ·exact ih e he
theorem EL.find {es:List DictEntry}(h:EL w es U')(k:Str):(es.find? λe=>(strKind P w).is k e.key).map (·.val)=U'.lookup k:=by
 induction h with
 |nil=>rfl
 |@cons k' t v es U' h ih=>
  rw[fJ,dC];have:(strKind P w).is k (.str k' t)=(k==k'):=by
   show cU.isStrOf k (.str k' t)=_;simp[cU.isStrOf]
   first|rfl|exact Bool.beq_comm|(rw[C5];simp[eq_comm])
  dsimp only;rw[this];cases e:(k==k')with
  |true=>rfl
  |false=>exact ih
theorem KD.map {K:cX}{mg:Str->Option cU}(D:KD K w mg x da U')(X:K.In h):h.MapOf (strKind P w) da (λk=>U'.lookup k):=by obtain⟨es,ep,l,q⟩:=D.ob;refine⟨_,es,ep,X _ _ l,⟨rfl,rfl,rfl⟩,rfl,λe he=>q.keys e<|Array.mem_def.mp he,λk=>?_⟩;show findBy (PySem.strKind P w).is es k=U'.lookup k;rw[←q.find (P:=P) k];unfold findBy;rw[←AI]
end
section
variable {i:Expr}{ty:TE}
def VW (U':List<|Str×cU)(ty:TE):TE:=λU H Q=>ty U H λy H1=>∃k u v,y=.str k/\U'.lookup k=Z u/\Ì v u/\Q v H1
theorem Ņ (D:KD X.K X.w X.mg x da U')(hg:Gl X x)(hi:PE X i ty)(hs:vY i)(hd:iM x):PE X (.Subscript (.Name x p) i pos) (VW U' ty):=by intro cW s U H Q I h;refine K0 PySem.F.slot_dict_getitem.lookup hs<|xj I hg D.mgx (gb (hi cW s U H _ I h) λiv s2 hq=>?_) hd;obtain⟨y,H2,I2,ry,k,u,v,ey,l,rv,q2⟩:=hq;subst ey;obtain⟨t,rfl⟩:=ry;have J':=D.map (P:=X.prog) I2.kIn;exact⟨J'.typeIs,wpAny_getItem_of (strKind_is X.prog X.w k t) J' l ⟨v,H2,I2.tok _,rv,q2⟩⟩
def Fj (neg:Bool)(U':List<|Str×cU)(ty:TE):TE:=λU H Q=>ty U H λy H1=>∃k,y=.str k/\Q (.bl<|if neg then !(U'.lookup k).isSome else(U'.lookup k).isSome) H1
theorem zrh (D:KD X.K X.w X.mg x da U')(hg:Gl X x)(hi:PE X i ty)(hd:iM x):PC X .In i (.Name x p) (Fj Ã U' ty):=by intro cW s U H Q I h;refine gb (hi cW s U H _ I h) λiv s1 ⟨y,H1,I1,ry,k,ey,q1⟩=>xj I1 hg D.mgx ?_ hd;subst ey;obtain⟨t,rfl⟩:=ry;exact wpAny_in_of (strKind_is X.prog X.w k t) D.sy (D.map (P:=X.prog) I1.kIn) ⟨.bl _,H1,I1.tok _,rfl,q1⟩
theorem Yv (D:KD X.K X.w X.mg x da U')(hg:Gl X x)(hi:PE X i ty)(hd:iM x):PC X .NotIn i (.Name x p) (Fj Â U' ty):=by intro cW s U H Q I h;refine gb (hi cW s U H _ I h) λiv s1 ⟨y,H1,I1,ry,k,ey,q1⟩=>xj I1 hg D.mgx ?_ hd;subst ey;obtain⟨t,rfl⟩:=ry;exact wpAny_notIn_of (strKind_is X.prog X.w k t) D.sy (D.map (P:=X.prog) I1.kIn) ⟨.bl _,H1,I1.tok _,rfl,q1⟩
variable {E:XK}{t:TA}
def NI (U':List<|Str×cU)(F:Str->cZ->Sp->Prop)(E:XK)(ty:TE)(t:TA):TE:=λU H Q=>ty U H λy H1=>∃k f sp,y=.str k/\U'.lookup k=Z (.ref f)/\F k f sp/\t U H1 λvs H2=>sp vs H2 Q E
theorem Ŭ {F:Str->cZ->Sp->Prop}(D:KD X.K X.w X.mg x da U')(hF:∀k f sp,F k f sp->∃kk fd ps,dR X.prog X.w X.K X.mg X.base CX kk f fd ps sp/\fw kk X.A/\dQ X.K (.ref f)=Â/\fK X.K fd ps [])(hx:lJ CX X E)(hg:Gl X x)(hi:PE X i ty)(hs:vY i)(ha:PA X (e::es) t)
  (hd:iM x) (he:SE X e es) (iD:lV X pos es) :
  PE X (.Call (.Subscript (.Name x p) i p2) (e::es) [] pos) (NI U' F E ty t):=by
 intro cW s U H Q I h;show dr _ _ (eP (.Subscript (.Name x p) i p2) X.env >>= λfv=>jK pos fv [] (gR pos<|dM (e::es) X.env)<|ir pos<|fO [] X.env) _ _ s;refine cY<|K0 PySem.F.slot_dict_getitem.lookup hs<|xj I hg D.mgx (gb (hi cW s U H _ I h) λiv s2 hq=>?_) hd;obtain⟨y,H2,I2,ry,k,f,sp,ey,l,hf,q2⟩:=hq;subst ey;obtain⟨tk,rfl⟩:=ry;have J':=D.map (P:=X.prog) I2.kIn;refine⟨J'.typeIs,wpAny_getItem_of (strKind_is X.prog X.w k tk) J' l ?_⟩;obtain⟨kk,fd,ps,Fn,hr,hk,hb⟩:=hF k f sp hf;have I3:=I2.tok<|s2.toks+1;refine fe (h₀:=X.base) I.ok.mod.kin hk (gb (ha pos cW _ U H2 _ I3 q2) λus s4 ⟨vs,H4,I4,r,q⟩=>⟨I4.kIn,?_⟩) he iD;exact JL (i9:=[]) (Y:=[]) Fn hr hb .nil hx I4 r (by rw[d6];exact q)
end
end
variable {α β:Type}{E Q:cU->de->Prop}{H:Hp}{T:cZ}{h':dz}{j:Nat}{cW:List (cZ×gM)}{s:de}{us:List cU}{xs ys:List V}{U:St}
section
open PySem PySem.Spec PyProof.Rows
section
variable {prog:eI}{w:d5}{A:dO}{ys:Array cU}
theorem zri {it t:cZ}{i:Nat}{x:cU}(hit:s.heap.IsTupleIter it t i)(ht:s.heap.IsTuple t ys)(hx:ys[i]?=Z x)
  (hQ:∀h',h'.IsTupleIter it t (i+1)->fZ it s.heap h'->Q x { s with heap:=h' }):dr (dq prog w) A (Builtin.SmallTypes.nextOf<|.ref it) Q E s:=by
 obtain⟨o,ho,hc,hd⟩:=id hit;obtain⟨ol,Iy,_,nl,hdl⟩:=ht;unfold Builtin.SmallTypes.nextOf;refine cY<|wpAny_callSpecial?_slot (name:=Str.ofString "__next__") hit.typeIs F.slot_tuple_iterator_next (wpAny_call_entry F.slot_tuple_iterator_next hit.typeIs F.entry_tuple_iterator_next ?_<|F.args_tuple_iterator_next_1 _);show dr _ _ (field (.ref it) 0 >>= _) _ _ s;refine cY<|wpAny_field ho hd (x:=.ref t) rfl ?_;show dr _ _ (if(cU.ref t==cU.none)=Â then _ else _) _ _ s;rw[if_neg<|show¬((cU.ref t==cU.none)=Â)from di];show dr _ _ (field (.ref it) 1 >>= _) _ _ s;refine cY<|wpAny_field ho hd (x:=.int i 0) rfl ?_;show dr _ _ (seqItems? (.ref t) >>= _) _ _ s;refine cY<|wpAny_seqItems Iy hdl ?_;simp only[kS,hx];refine cY (wpAny_setField ho hd (by simp)<|dA ⟨x,rfl,dA<|hQ _ ?_<|fZ.update ..⟩);exact⟨_,fD _ ho<|gM.isFreed_of_fields<|gM.data_mapFields hd _,(gM.cls_mapFields ..).trans hc,by rw[gM.data_mapFields hd];simp[rawInt]⟩
theorem ū {it t:cZ}{i:Nat}(hh:A.handled=S)(hit:s.heap.IsTupleIter it t i)(ht:s.heap.IsTuple t ys)(hx:ys[i]?=S)
  (hE:∀h' e,zV it s.heap h'->(∃o,h'.get? e=Z o/\o.cls=.type "StopIteration")->E (.ref e) { s with heap:=h' }):dr (dq prog w) A (Builtin.SmallTypes.nextOf<|.ref it) Q E s:=by
 obtain⟨o,ho,hc,hd⟩:=id hit;obtain⟨ol,Iy,_,nl,hdl⟩:=ht;unfold Builtin.SmallTypes.nextOf;refine cY<|wpAny_callSpecial?_slot (name:=Str.ofString "__next__") hit.typeIs F.slot_tuple_iterator_next (wpAny_call_entry F.slot_tuple_iterator_next hit.typeIs F.entry_tuple_iterator_next ?_<|F.args_tuple_iterator_next_1 _);show dr _ _ (field (.ref it) 0 >>= _) _ _ s;refine cY<|wpAny_field ho hd (x:=.ref t) rfl ?_;show dr _ _ (if(cU.ref t==cU.none)=Â then _ else _) _ _ s;rw[if_neg<|show¬((cU.ref t==cU.none)=Â)from di];show dr _ _ (field (.ref it) 1 >>= _) _ _ s;refine cY<|wpAny_field ho hd (x:=.int i 0) rfl ?_;show dr _ _ (seqItems? (.ref t) >>= _) _ _ s;refine cY<|wpAny_seqItems Iy hdl ?_;simp only[kS,hx];refine cY (wpAny_rule<|cY<|wpAny_setField ho hd (by simp) ?_);show dr _ _ (newExc (.type "StopIteration") [] >>= _) _ _ _;refine cY ?_;simp only[newExc,newTuple];refine cY (iI ?_<|by size_fits);refine cY (m:=firstArgMember _ _) (wpAny_of_eq (a:=cU.none) (by first|rfl|(simp only[firstArgMember];rfl)) ?_);refine iI ?_ (by size_fits);simp only[raiseNew];refine cY<|wpAny_handled ?_
 first|rw[show A.in1.handled=S from hh]|rw[hh]
 exact cY<|dA<|wpAny_throw<|hE _ _ (((fZ.update ..).extBut.push _).push _) ⟨_,dG _ rfl,rfl⟩
end
structure Pt where
 i:cZ
 l:cZ
 tp:Bool
def Pt.it (p:Pt)(h:dz)(k:Nat):Prop:=match p.tp with|true=>h.IsTupleIter p.i p.l k|false=>h.IsListIter p.i p.l k
def Pt.src (p:Pt)(h:dz)(xs:Array cU):Prop:=match p.tp with|true=>h.IsTuple p.l xs|false=>h.IsList p.l xs
abbrev qB (h:dz)(T:cZ)(vs:List cU):Prop:=h.get? T=Z { cls:=.type "tuple",data:=.seq vs.toArray }
noncomputable abbrev gN (X:Pt->Array cU)(k:Nat)(c:Pt):cU:=(X c)[k]?.getD .none
abbrev Kp (h h':dz)(bs:List cZ):Prop:=∀a o,a∉bs->h.get? a=Z o->h'.get? a=Z o
abbrev Up (h h':dz):Prop:=∀a o,h.get? a=Z o->h'.get? a=Z o
structure Zp (z TI TO:cZ)(cs:List Pt):Prop where
 nd:(z::TI::TO::cs.map Pt.i).Nodup
 ls:∀c∈cs,c.l∉z::TO::cs.map Pt.i
section
variable {prog:eI}{w:d5}{A:dO}{z TI TO:cZ}{c:Pt}{cs:List Pt}{k:Nat}{xs:Array cU}
theorem Pt.it.to (x:c.it h k)(e:∀o,h.get? c.i=Z o->h'.get? c.i=Z o):c.it h' k:=by
 obtain⟨i,l,tp⟩:=c;cases tp
 ·exact dz.IsListIter.at x e
 ·exact dz.IsTupleIter.at x e
theorem Pt.src.to (x:c.src h xs)(e:∀o,h.get? c.l=Z o->h'.get? c.l=Z o):c.src h' xs:=by
 obtain⟨i,l,tp⟩:=c;cases tp
 ·exact dz.IsList.at x e
 ·exact dz.IsTuple.at x e
theorem zrj {v:cU}(x:c.it s.heap k)(y:c.src s.heap xs)(hx:xs[k]?=Z v)
  (hQ:∀h',c.it h' (k+1)->fZ c.i s.heap h'->Q v { s with heap:=h' }):dr (dq prog w) A (Builtin.SmallTypes.nextOf<|.ref c.i) Q E s:=by
 obtain⟨i,l,tp⟩:=c;cases tp
 ·exact wpAny_nextOf_list_item x y hx hQ
 ·exact zri x y hx hQ
theorem Ū (hh:A.handled=S)(x:c.it s.heap k)(y:c.src s.heap xs)(hx:xs[k]?=S)
  (hE:∀h' e,zV c.i s.heap h'->(∃o,h'.get? e=Z o/\o.cls=.type "StopIteration")->E (.ref e) { s with heap:=h' }):dr (dq prog w) A (Builtin.SmallTypes.nextOf<|.ref c.i) Q E s:=by
 obtain⟨i,l,tp⟩:=c;cases tp
 ·exact wpAny_nextOf_list_end hh x y hx hE
 ·exact ū hh x y hx hE
theorem NU {vs:List cU}{x:cU}{Q:Unit->de->Prop}(hz:vs.length<=100)(hT:qB s.heap T vs)
  (h:∀h',qB h' T (vs.set j x)->fZ T s.heap h'->Q () { s with heap:=h' }) :
  dr (dq prog w) A (updateSeq T (·.setIfInBounds j x)) Q E s:=by
 refine wpAny_updateSeq hT rfl (h _ ?_<|fZ.update ..) (by show vs.toArray.size<=16777216;simp;lia) (by show _<=16777216+1;simp;lia);unfold qB;rw[fD _ hT rfl];simp[gM.mapSeq]
theorem E5 {X:Pt->Array cU}{Q:Option cU->de->Prop}(hh:A.handled=S)(ne:cs≠[])(D:Zp z TI TO cs)(Ar:cs.length<=100)(hz:IsZip s.heap z TI TO .none)
    (J9:qB s.heap TI<|cs.map λc=>.ref c.i) (Ka:qB s.heap TO us) (hu:us.length=cs.length) (hc:∀c∈cs,c.it s.heap k) (hX:∀c∈cs,c.src s.heap<|X c)
    (hQ:∀h',(∀c∈cs,(X c)[k]?=Z (gN X k c))->IsZip h' z TI TO (rawInt s.heap.objs.size)->qB h' TO (cs.map<|gN X k)->qB h' s.heap.objs.size (cs.map<|gN X k)->(∀c∈cs,c.it h'<|k+1)->Kp s.heap h' (z::TO::cs.map Pt.i)->Q (Z<|.ref s.heap.objs.size) { s with heap:=h' })
    (hN:∀h',(∃c∈cs,(X c)[k]?=S)->Kp s.heap h' (z::TO::cs.map Pt.i)->Q S { s with heap:=h' }):dr (dq prog w) A (pyNext<|.ref z) Q E s:=by
  have hT:s.TypeIs (.ref z) "zip":=⟨_,hz,rfl⟩;unfold pyNext;refine cY<|wpAny_attempt<|wpAny_callSpecial?_slot (name:=Str.ofString "__next__") hT F.slot_zip_next (wpAny_call_entry F.slot_zip_next hT F.entry_zip_next ?_<|F.args_zip_next_1 _);show dr _ _ (field (.ref z) 2 >>= _) _ _ _;refine cY<|wpAny_field hz rfl (x:=.bool Ã) rfl ?_;show dr _ _ (field (.ref z) 3 >>= _) _ _ _;refine cY<|wpAny_field hz rfl (x:=.ref TI) rfl ?_;refine cY<|wpAny_seqItems J9 rfl ?_;have ie:(cs.map λc=>cU.ref c.i).toArray.isEmpty=Ã:=by cases cs with|nil=>exact absurd rfl ne|cons a l=>rfl
  dsimp only;rw[ie];show dr _ _ (Builtin.SmallTypes.ownedTupleIsFree (.ref z) >>= _) _ _ _;refine cY ?_;unfold Builtin.SmallTypes.ownedTupleIsFree;refine cY<|wpAny_field hz rfl (x:=.none) rfl<|dA ?_;simp only[if_true];refine cY<|wpAny_rule ?_;refine cY<|wpAny_field hz rfl (x:=.ref TO) rfl ?_;refine cY (wpAny_setField_rec hz (by simp) λh₁ MY Kl=>?_);replace MY:IsZip h₁ z TI TO .ellipsis:=MY;have nd:=D.nd;simp only[eJ,dn,not_or]at nd;obtain⟨⟨zI,zO,zi⟩,⟨IO,Ii⟩,Oi,ni⟩:=nd;refine cY ?_;refine wpAny_forIn_list _ (λl b s'=>b=⟨S,()⟩/\∃pre Ê h,cs=pre++Ê/\l=(Ê.map λc=>cU.ref c.i).zipIdx pre.length/\(∀c∈pre,(X c)[k]?=Z (gN X k c))/\s' = { s with heap:=h } /\
    IsZip h z TI TO .ellipsis/\qB h TO (pre.map (gN X k)++us.drop pre.length)/\(∀c∈pre,c.it h<|k+1)/\(∀c∈Ê,c.it h k)/\h.objs.size=s.heap.objs.size/\Kp s.heap h (z::TO::cs.map Pt.i)) _ ?_ ?_ _ _ ?_
  · rintro x l b s' ⟨rfl,pre,Ê,h,ec,el,ev,rfl,hz,hO,hp,hr,hn,hf⟩;cases Ê with
    |nil=>cases el
    |cons c Ê=>
      rw[dJ,Cc]at el;cases el;have cm:c∈cs:=by rw[ec];simp
      have mi:∀c'∈cs,c'.i∈cs.map Pt.i:=λc' h=>fC h;have cl:=D.ls c cm;simp only[dn,not_or]at cl;have ca:=hr c cV;have cx:c.src h (X c):=(hX c cm).to λo=>hf _ o<|D.ls c cm;have ci:∀c'∈pre++Ê,c'.i≠c.i:=λc' h' e=>by
        rw[ec,nY,dJ,dm]at ni;obtain⟨_,n2,n3⟩:=ni;rcases dD.mp h' with h'|h'
        · exact n3 _ (fC h') _ cV e
        · exact(eJ.mp n2).1<|e▸fC h'
      have sub:∀c'∈pre++Ê,c'∈cs:=λc' h'=>by rw[ec];rcases dD.mp h' with h'|h'<;>simp[h']
      refine cY<|wpAny_onRaise ?_;show dr _ _ (Builtin.SmallTypes.nextOf (.ref c.i) >>= _) _ _ _;cases hx:(X c)[k]? with
      |none=>
        refine cY<|Ū hh ca cx hx λh₂ e FR he=>?_;obtain⟨oe,MN,PJ⟩:=he;have P2:IsZip h₂ z TI TO .ellipsis:=FR _ _ (λe=>zi<|e▸mi c cm) hz;have UW:e≠z:=λx=>by subst x;rw[P2]at MN;cases MN;simp at PJ
        exact wpAny_setField_rec P2 (by simp) λh₃ _ FT=>cY (wpAny_isInstance (T:="StopIteration") (b:=true) ⟨oe,FT.extBut _ _ UW MN,PJ⟩ isSubtype_stop<|dA<|hN h₃ ⟨c,cm,hx⟩ λa o na x=>FT.extBut _ _ (λe=>na<|e▸cV) (FR _ _ (λe=>na<|by rw[e];simp[mi c cm])<|hf a o na x))
      |some v=>
        refine cY<|zrj ca cx hx λh₂ a₂ FR=>dA ?_;have Pu:qB h₂ TO (pre.map (gN X k)++us.drop pre.length):=FR.extBut _ _ (λe=>Oi<|e▸mi c cm) hO;refine cY<|wpAny_seqItems Pu rfl ?_;have lu:pre.length<us.length:=by rw[hu,ec];simp
        refine cY (NU (by rw[ec]at Ar hu;simp at Ar hu ⊢;lia) Pu λh₃ Pv FT=>?_);refine cY<|wpAny_letGo<|dA ?_;have T:∀a o,a≠TO->a≠c.i->h.get? a=Z o->h₃.get? a=Z o:=λa o x y e=>FT.extBut _ _ x<|FR.extBut _ _ y e;have kp:∀c'∈pre++Ê,∀j,c'.it h j->c'.it h₃ j:=λc' h' j q=>q.to λo=>T _ o (λe=>Oi<|e▸mi c' (sub c' h'))<|ci c' h';refine⟨rfl,pre++[c],Ê,h₃,by simp[ec],by simp,λc' h'=>?_,rfl,FT.extBut _ _ zO<|FR.extBut _ _ (λe=>zi<|e▸mi c cm) hz,?_,λc' h'=>?_,λc' h'=>kp c' (by simp[h']) _<|hr c'<|by simp[h'],FT.1.trans<|FR.1.trans hn,λa o na e=>T a o (λe=>na<|by simp[e]) (λe=>na<|by rw[e];simp[mi c cm])<|hf a o na e⟩
        · rcases dD.mp h' with h'|h'
          · exact ev c' h'
          · cases dW.mp h';rw[gN,hx];rfl
        · rw[List.set_append_right _ _<|by simp,dY,Nat.sub_self,jV lu,List.set_cons_zero]at Pv;simpa[gN,hx]using Pv
        · rcases dD.mp h' with h'|h'
          · exact kp c' (by simp[h']) _<|hp c' h'
          · cases dW.mp h';exact a₂.to λo=>FT.extBut _ _ λe=>Oi<|e▸mi c cm
  · rintro b s' ⟨rfl,pre,Ê,h,ec,el,ev,rfl,hz,hO,hp,hr,hn,hf⟩;have er:Ê=[]:=by cases Ê with|nil=>rfl|cons=>rw[dJ,Cc]at el;cases el
    subst er;rw[d6]at ec;subst ec;rw[←hu,List.drop_length,d6]at hO;have ET:(cs.map<|gN X k).length<=100:=by simpa using Ar
    generalize (cs.map<|gN X k)=vs at hO hQ ET;refine cY<|wpAny_seqItems hO rfl ?_;refine cY (wpAny_newTuple ?_<|by show vs.toArray.toList.length<=16777216;simp;lia);have hl:z<h.objs.size:=dB hz;show dr _ _ (Builtin.SmallTypes.ownedTupleHandOut (.ref z) (.ref h.objs.size) >>= _) _ _ _;refine cY ?_;unfold Builtin.SmallTypes.ownedTupleHandOut;have Vn:IsZip (h.push { cls:=.type "tuple",data:=.seq vs.toArray }) z TI TO .ellipsis:=c7 _ hz;refine cY (wpAny_setField_rec Vn (by simp) λh₉ MZ P0=>?_);replace MZ:IsZip h₉ z TI TO (rawInt h.objs.size):=MZ;refine wpAny_setField_rec MZ (by simp) λha Ks Kk=>?_;replace Ks:IsZip ha z TI TO (rawInt h.objs.size):=Ks;have up:∀c o,c≠z->h.get? c=Z o->ha.get? c=Z o:=λc o c1 e=>Kk.extBut _ _ c1<|P0.extBut _ _ c1<|c7 _ e;have Pw:qB ha h.objs.size vs:=Kk.extBut _ _ (kT hl)<|P0.extBut _ _ (kT hl)<|dG _ rfl;rw[hn]at Ks Pw;refine dA ⟨_,rfl,dA ?_⟩;show Q (Z<|.ref h.objs.size) _;rw[hn];exact hQ ha ev Ks (up _ _ (Ne.symm zO) hO) Pw (λc h'=>(hp c h').to λo=>up _ o λe=>zi<|e▸fC h') λa o na e=>up _ _ (λe=>na<|by simp[e])<|hf a o na e
  · exact⟨rfl,[],cs,h₁,rfl,rfl,nofun,rfl,MY,Kl.extBut _ _ (Ne.symm zO) Ka,nofun,λc h'=>(hc c h').to λo=>Kl.extBut _ _ λe=>zi (e▸fC h'),Kl.1,λa o na=>Kl.extBut _ _ λe=>na (by simp[e])⟩
end
noncomputable abbrev Pt.q (p:Pt):cZ×Bool:=(p.l,p.tp)
def Sq (K:cX)(H:Hp)(q:cZ×Bool)(xs:List V):Prop:=match q.2 with|true=>oP K H q.1 xs|false=>i6 K H q.1 xs
def LF (K:cX)(qs:List<|cZ×Bool):It :=
 ⟨λi H=>∀q∈qs,∃xs,Sq K H q xs/\∃v,xs[i]?=Z v,
  λi H x G=>∃(p:cZ) (g:cZ×Bool->V),H p=S/\x=.ref p/\G=upd H p (.tup<|qs.map g)/\∀q∈qs,∀xs,Sq K H q xs->xs[i]?=Z (g q),
  λi H=>(∀q∈qs,∃xs,Sq K H q xs)/\∃q∈qs,∃xs,Sq K H q xs/\xs.length<=i⟩
theorem ÿ [Nonempty β]{qs:List α}{P:α->β->Prop}(h:∀q∈qs,∃y,P q y):∃f:α->β,∀q∈qs,P q (f q) :=
 ⟨λq=>Classical.epsilon<|P q,λq hq=>Classical.epsilon_spec<|h q hq⟩
theorem Ç.sq (I:Ç X cW U H s){f:cZ×Bool->List V}(ps:List Pt)(h:∀q∈ps.map Pt.q,Sq X.K H q<|f q) :
  ∃c:cZ×Bool->List cU,∀p∈ps,eh (f p.q) (c p.q)/\p.src s.heap (c p.q).toArray:=by
 have:=Classical.skolem.mp λq=>show∃y:List cU,∀p∈ps,p.q=q->eh (f q) y/\p.src s.heap y.toArray from by
  by_cases hq:q∈ps.map Pt.q
  ·have hs:=h q hq;obtain⟨l,tp⟩:=q;cases tp with
   |false=>obtain⟨eG,rv,p,_⟩:=I.list hs;refine⟨eG,λp' _ e=>⟨rv,?_⟩⟩;obtain⟨i,l',tp⟩:=p';cases e;exact p.isList
   |true=>obtain⟨eG,rv,p,_⟩:=I.tuple hs;refine⟨eG,λp' _ e=>⟨rv,?_⟩⟩;obtain⟨i,l',tp⟩:=p';cases e;exact p
  ·exact⟨[],λp hp e=>absurd (e▸fC hp) hq⟩
 obtain⟨c,hc⟩:=this;exact⟨c,λp hp=>hc _ p hp rfl⟩
theorem Sq.inj (I:Ç X cW U H s){q:cZ×Bool}(a:Sq X.K H q xs)(b:Sq X.K H q ys):xs=ys:=by
 obtain⟨l,tp⟩:=q;cases tp
 ·exact I.list_inj a b
 ·exact I.tuple_inj a b
theorem Rw {g:Pt->V}{u:Pt->cU}:∀ps:List Pt,(∀p∈ps,Ì (g p)<|u p)->eh (ps.map g) (ps.map u)
 |[],_=>.nil
 |p::ps,h=>.cons (h p cV)<|Rw ps λq hq=>h q<|df _ hq
theorem JA {w:d5}{K:cX}{pt:my}{z TI TO:cZ}{ps:List Pt}(ap:Zp z TI TO ps)(ne:ps≠[])(Ar:ps.length<=100) :
  è P w K (.Tuple uU kt pt) (LF K<|ps.map Pt.q) (z::TI::TO::ps.map Pt.i) z (λi h=>IsZip h z TI TO .none/\qB h TI (ps.map λc=>.ref c.i)/\(∃us,qB h TO us/\us.length=ps.length)/\∀c∈ps,c.it h i) where
 mem:=by simp
 obj:=λi h st b hb=>by
  obtain⟨q1,q2,⟨us,q3,_⟩,q4⟩:=st;simp only[dn]at hb;rcases hb with rfl|rfl|rfl|hb
  ·exact⟨_,q1,λv y=>by cases y⟩
  ·exact⟨_,q2,λv y=>by cases y⟩
  ·exact⟨_,q3,λv y=>by cases y⟩
  ·obtain⟨c,hc,rfl⟩:=g0.mp hb;have:=q4 c hc;obtain⟨ci,l,tp⟩:=c;cases tp<;>obtain⟨o,e,_,d⟩:=this<;>exact⟨o,e,λv y=>by rw[d]at y;cases y⟩
 keep:=λi h h' st k=>by obtain⟨q1,q2,⟨us,q3,l⟩,q4⟩:=st;exact⟨k z (by simp) _ q1,k TI (by simp) _ q2,⟨us,k TO (by simp) _ q3,l⟩,λc hc=>(q4 c hc).to λo=>k c.i (by simp only[dn];exact .inr<|.inr<|.inr<|fC hc) o⟩
 item:=by
  intro X hP hw hK hc i cW s U H E I hf st hg;subst hP hw hK;obtain⟨f,PN⟩:=ÿ hg;obtain⟨g,U1⟩:=@ÿ _ V ⟨.non⟩ _ _ λq hq=>(PN q hq).2;have Kf:∀q∈ps.map Pt.q,Sq X.K H q (f q)/\(f q)[i]?=Z (g q):=λq hq=>⟨(PN q hq).1,U1 q hq⟩;obtain⟨c,Ih⟩:=I.sq ps λq hq=>(Kf q hq).1;obtain⟨q1,q2,⟨us,q3,l⟩,q4⟩:=st;have val:∀p∈ps,∃u,(c p.q).toArray[i]?=Z u/\Ì (g p.q) u:=λp hp=>by obtain⟨u,hu,ru⟩:=(Ih p hp).1.get (Kf p.q<|fC hp).2;exact⟨u,by simpa using hu,ru⟩
  refine E5 (X:=λp=>(c p.q).toArray) (I.ok.hd hc) ne ap Ar q1 q2 q3 l q4 (λp hp=>(Ih p hp).2) (λh1 _ r1 r2 r5 r4 hk=>?_) λh' hx=>?_
  ·refine⟨_,rfl,wpAny_letOwnedTupleGo_zip (s:={ s with heap:=h1 }) r1 λh2 Ha Eh=>?_⟩;have nd:=ap.nd;simp only[eJ,dn,not_or]at nd;obtain⟨⟨zI,zO,zi⟩,⟨IO,Ii⟩,_⟩:=nd;have lt:∀b∈z::TI::TO::ps.map Pt.i,b<s.heap.objs.size:=λb hb=>by
    simp only[dn]at hb;rcases hb with rfl|rfl|rfl|hb
    ·exact dB q1
    ·exact dB q2
    ·exact dB q3
    ·obtain⟨c,hc,rfl⟩:=g0.mp hb;have:=q4 c hc;obtain⟨ci,l,tp⟩:=c;cases tp<;>obtain⟨o,e,_⟩:=this<;>exact dB e
   have Mm:=(Eh.2 _<|kT<|lt z cV).trans r5;have I1:Ç X cW U (upd H s.heap.objs.size<|.tup<|(ps.map Pt.q).map g) { s with heap:=h2,toks:=s.toks }:=by
    refine I.turnLay hf (λb o hb q=>?_) (dE _) ⟨by show _<=16777216;simp;lia,_,?_,_,Mm,rfl,_,rfl⟩
    ·simp only[dn,not_or]at hb;exact(Eh.2 b hb.1).trans (hk b o (by simp only[dn,not_or];exact⟨hb.1,hb.2.2⟩) q)
    ·rw[xN];exact Rw ps λp hp=>by obtain⟨u,hu,ru⟩:=val p hp;rw[gN,hu];exact ru
   refine⟨.ref s.heap.objs.size,_,I1,rfl,⟨_,g,I.hok.fresh<|dE _,rfl,rfl,λq hq xs hs=>by rw[Sq.inj I hs (Kf q hq).1];exact(Kf q hq).2⟩,
    ⟨Ha,(Eh.2 TI<|Ne.symm zI).trans<|hk TI _ (by simp only[dn,not_or];exact⟨Ne.symm zI,IO,Ii⟩) q2,⟨_,(Eh.2 TO<|Ne.symm zO).trans r2,by simp⟩,λc hc=>(r4 c hc).to λo q=>(Eh.2 c.i λe=>zi<|e▸fC hc).trans q⟩,λb hb=>?_⟩
   rw[zn<|dU<|lt b hb];exact(hf b hb).1
  ·obtain⟨p,hp,e⟩:=hx;obtain⟨u,hu,_⟩:=val p hp;rw[hu]at e;cases e
 done:=by
  intro X hP hw hK hc i cW s U H E I hf st hg;subst hP hw hK;obtain⟨Kg,q,hq,xs,hx,hl⟩:=hg;obtain⟨f,Kg⟩:=ÿ Kg;rw[←Sq.inj I (Kg q hq) hx]at hl;obtain⟨c,Ih⟩:=I.sq ps Kg;obtain⟨q1,q2,⟨us,q3,l⟩,q4⟩:=st;obtain⟨p,hp,rfl⟩:=g0.mp hq;refine E5 (X:=λp=>(c p.q).toArray) (I.ok.hd hc) ne ap Ar q1 q2 q3 l q4 (λp hp=>(Ih p hp).2) (λh1 r0 _ _ _ _ _=>?_) λh' _ eb=>⟨rfl,I.turnedL (t':=s.toks) hf λb o hb q=>eb b o (λe=>hb ?_) q⟩
  ·have:=(Ih p hp).1.length;have:=r0 p hp;rw[show(c p.q).toArray[i]?=S by simp;lia]at this;cases this
  ·simp only[dn]at e ⊢;rcases e with e|e|e
   ·exact .inl e
   ·exact .inr<|.inr<|.inl e
   ·exact .inr<|.inr<|.inr e
 self:=λ_ _ _ _ _ st h=>wpAny_pyIter_zip st.1 h
section
variable {prog:eI}{w:d5}{A:dO}{qs:List (cZ×Bool)}{Y':cZ×Bool->Array cU}
theorem IJ {q:cZ×Bool}{xs:Array cU}(hs:(⟨0,q.1,q.2⟩:Pt).src s.heap xs)
  (hQ:∀h',(⟨s.heap.objs.size,q.1,q.2⟩:Pt).it h' 0->h'.objs.size=s.heap.objs.size+1->Up s.heap h'->Q (.ref s.heap.objs.size) { s with heap:=h' }):dr (dq prog w) A (pyIter<|.ref q.1) Q E s:=by
 obtain⟨l,tp⟩:=q;cases tp
 ·exact nR hs<|hQ _ ⟨_,dG _ rfl,rfl,rfl⟩ (gw ..) λa o=>c7 _
 ·exact wpAny_pyIter_tuple hs<|hQ _ ⟨_,dG _ rfl,rfl,rfl⟩ (gw ..) λa o=>c7 _
theorem CH {Q:List cU->de->Prop}(hs:∀q∈qs,(⟨0,q.1,q.2⟩:Pt).src s.heap<|Y' q)
  (hQ:∀h' (ps:List Pt),ps.map Pt.q=qs->ps.map Pt.i=oW s.heap.objs.size qs.length->(∀p∈ps,p.it h' 0)->h'.objs.size=s.heap.objs.size+qs.length->Up s.heap h'->Q (ps.map λp=>.ref p.i) { s with heap:=h' }) :
  dr (dq prog w) A (Builtin.SmallTypes.iterAll<|qs.map λq=>.ref q.1) Q E s:=by
 unfold Builtin.SmallTypes.iterAll;refine cY<|wpAny_forIn_list _ (λl b s'=>∃(Ê:List<|cZ×Bool) (ps:List Pt) (h:dz),qs=ps.map Pt.q++Ê/\l=Ê.map (λq=>cU.ref q.1)/\b=(ps.map λp=>cU.ref p.i).toArray/\s' = { s with heap:=h } /\
  ps.map Pt.i=oW s.heap.objs.size ps.length/\(∀p∈ps,p.it h 0)/\h.objs.size=s.heap.objs.size+ps.length/\Up s.heap h) _ ?_ ?_ _ _ ⟨qs,[],s.heap,rfl,rfl,rfl,rfl,rfl,nofun,rfl,λ_ _ e=>e⟩
 ·rintro x l b s' ⟨Ê,ps,h,ec,el,rfl,rfl,ei,hp,hn,hf⟩;cases Ê with
  |nil=>cases el
  |cons q Ê=>
   cases el;refine cY (gA<|IJ (xs:=Y' q) ((hs q<|by rw[ec];simp).to λo=>hf _ o) λh' a b c=>dA ?_);refine⟨Ê,ps++[⟨h.objs.size,q.1,q.2⟩],h',by rw[ec];simp,rfl,by simp,rfl,?_,λp As=>?_,?_,λa o e=>c _ _<|hf a o e⟩
   ·simp[ei,hn,List.range'_concat]
   ·rcases dD.mp As with As|As
    ·exact(hp p As).to λo=>c _ o
    ·cases dW.mp As;exact a
   ·rw[b];show h.objs.size+1=_;rw[hn];simp;lia
 ·rintro b s' ⟨Ê,ps,h,ec,el,rfl,rfl,ei,hp,hn,hf⟩;cases Ê with
  |cons=>cases el
  |nil=>
   rw[d6]at ec;have el:qs.length=ps.length:=by rw[ec];simp
   exact dA (hQ h ps ec.symm (by rw[ei,el]) hp (by rw[hn,el]) hf)
end
theorem Gc (qs:List<|cZ×Bool)(Y':cZ×Bool->Array cU)(Ar:qs.length<=100) :
    Meets (Builtin.«zip.__new__» ⟨.type "zip"::qs.map (λq=>.ref q.1),[]⟩) (λ_ R s=>(∀q∈qs,(⟨0,q.1,q.2⟩:Pt).src s.heap<|Y' q) /\
      ∀h' (ps:List Pt),ps.map Pt.q=qs->ps.map Pt.i=oW s.heap.objs.size qs.length->(∀p∈ps,p.it h' 0)->IsZip h' (s.heap.objs.size+qs.length+2) (s.heap.objs.size+qs.length) (s.heap.objs.size+qs.length+1) .none ->
        qB h' (s.heap.objs.size+qs.length) (ps.map λp=>.ref p.i)->qB h' (s.heap.objs.size+qs.length+1) (ps.map λ_=>.none)->Up s.heap h' ->
        R (.ok<|.ret<|.ref<|s.heap.objs.size+qs.length+2) { s with heap:=h' }) :=
  .of_wp λprog w A R s h=>by
    obtain⟨h1,h2⟩:=h;have MS:=sub_zip;unfold Builtin.«zip.__new__»
    wp_walk using CH h1
    intro h' ps eq ei hp hn hf;have hl:ps.length=qs.length:=by rw[←eq];simp
    rw[xN];refine cY (wpAny_newTuple ?_<|by show _<=16777216;simp;lia);refine cY (wpAny_newTuple ?_<|by show _<=16777216;simp;lia)
    wp_walk
    refine⟨_,rfl,?_⟩;generalize eT:({ cls:=.type "tuple",data:=.seq (ps.map λp=>cU.ref p.i).toArray }:gM)=oT;generalize eO:({ cls:=.type "tuple",data:=.seq (ps.map<|(λ_=>cU.none) ∘ λp=>cU.ref p.i).toArray }:gM)=oO;have n1:(h'.push oT).objs.size=s.heap.objs.size+qs.length+1:=by rw[gw,hn]
    have n2:((h'.push oT).push oO).objs.size=s.heap.objs.size+qs.length+2:=by rw[gw,n1]
    show R (.ok<|.ret<|.ref ((h'.push oT).push oO).objs.size) { s with heap:=((h'.push oT).push oO).push { cls:=.type "zip",data:=.fields #[.none,.bool Ã,.bool Ã,.ref h'.objs.size,.ref (h'.push oT).objs.size] } };have up:∀o a b,h'.get? a=Z b->(((h'.push oT).push oO).push o).get? a=Z b:=λo a b e=>c7 _<|c7 _<|c7 _ e;have gT:∀o,(((h'.push oT).push oO).push o).get? h'.objs.size=Z oT:=λo=>c7 _ (c7 _<|dG _<|by rw[←eT];rfl);have gO:∀o,(((h'.push oT).push oO).push o).get? (h'.push oT).objs.size=Z oO:=λo=>c7 _ (dG _<|by rw[←eO];rfl);have gZ:∀o:gM,o.isFreed=Ã->(((h'.push oT).push oO).push o).get? ((h'.push oT).push oO).objs.size=Z o:=λo e=>dG _ e;rw[n2]at gZ ⊢;rw[n1]at gO ⊢;rw[hn]at gT ⊢;exact h2 _ ps eq ei (λp As=>(hp p As).to λo=>up _ _ o) (gZ _ rfl) ((gT _).trans<|by rw[←eT]) ((gO _).trans<|by rw[←eO];rfl) λa o e=>up _ _ _<|hf a o e
theorem Rx:∀{qs:List (cZ×Bool)} {us:List cU},eh (qs.map λq=>.ref q.1) us->us=qs.map λq=>.ref q.1
 |[],_,.nil=>rfl
 |q::qs,_,.cons r t=>by rw[Rx t];cases r;rfl
theorem Zp.new {ps:List Pt}(ei:ps.map Pt.i=oW n ps.length)(hl:∀p∈ps,p.l<n):Zp (n+ps.length+2) (n+ps.length) (n+ps.length+1) ps where
 nd:=by rw[ei];simp only[eJ,dn,not_or,rh];exact⟨⟨by simp only[cZ]at *;lia,by simp only[cZ]at *;lia,by simp only[cZ]at *;lia⟩,⟨by simp only[cZ]at *;lia,by simp only[cZ]at *;lia⟩,by simp only[cZ]at *;lia,List.nodup_range'⟩
 ls:=λc hc=>by have:=hl c hc;rw[ei];simp only[dn,not_or,rh];exact⟨by simp only[cZ]at *;lia,by simp only[cZ]at *;lia,by simp only[cZ]at *;lia⟩
section
variable {pt:my}
def IG (K:cX)(m:Nat)(ta:TA):TI:=λU H R=>ta U H λvs H1=>∃qs:List (cZ×Bool),qs.length=m/\vs=qs.map (λq=>.ref q.1)/\(∀q∈qs,∃xs,Sq K H1 q xs)/\R (LF K qs) H1
theorem Qb {ta:TA}{m:Nat}(m0:m≠0)(m1:m<=100)
  (ok:∀us:List cU,us.length=m->checkTypeCall "zip" ⟨us,[]⟩=pure ()/\checkBuiltinCall "zip.__new__" ⟨.type "zip"::us,[]⟩=pure ()/\∀obj,argsOk "object.__init__" ⟨obj::us,[]⟩)
  (hg:Gl X "zip") (hm:X.mg "zip"=S) (ha:PA X (e::es) ta) (he:SE X e es) (hp:lV X pos es) :
  PI X (.Tuple uU kt pt) (.Call (.Name "zip" p) (e::es) [] pos) (IG X.K m ta):=by
 intro cW s U H R I h;refine Call_<|Fo I hg hm PyProof.Rows.boot_zip<|fV (gb (ha pos cW s U H _ I h) λus s1 hq=>?_) he hp;obtain⟨vs,H1,I1,r1,qs,hl,rfl,hf,q⟩:=hq;obtain⟨f,hf⟩:=ÿ hf;have eu:=Rx r1;subst eu;obtain⟨o1,o2,o3⟩:=ok (qs.map λq=>.ref q.1) (by simpa using hl);have mm:(qs.map λq=>(⟨0,q.1,q.2⟩:Pt)).map Pt.q=qs:=by rw[xN];exact List.map_id _
 obtain⟨c,hc⟩:=I1.sq (qs.map λq=>(⟨0,q.1,q.2⟩:Pt)) (f:=f) (by rw[mm];exact hf);have hs:∀q∈qs,(⟨0,q.1,q.2⟩:Pt).src s1.heap (c q).toArray:=λq hq=>(hc ⟨0,q.1,q.2⟩<|g0.mpr ⟨q,hq,rfl⟩).2;refine callType_new F.called_zip (by decide) o1 o2 o3 F.entry_zip_new (Gc qs (λq=>(c q).toArray)<|by lia) ⟨hs,λh' ps eq ei hp hz J9 Ka hk=>?_⟩;have pl:ps.length=qs.length:=by rw[←eq];simp
 show _/\_;refine⟨⟨_,hz,rfl⟩,wpAny_pyIter_zip (s:={ s1 with heap:=h' }) hz ?_⟩;rw[←pl]at hz J9 Ka ei ⊢;have lt:∀p∈ps,p.l<s1.heap.objs.size:=λp hp=>by have:=hs p.q<|eq▸fC hp;obtain⟨i,l,tp⟩:=p;cases tp<;>obtain⟨_,q,_⟩:=this<;>exact dB q
 refine⟨_,_,_,_,H1,rfl,I1.kept (t':=s1.toks) hk,(JA (Zp.new ei lt) (λe=>m0<|by rw[←hl,←pl,e];rfl)<|by lia).ok,⟨hz,J9,⟨_,Ka,by simp⟩,hp⟩,λb hb=>?_,eq▸q⟩;have:s1.heap.objs.size<=b:=by rw[ei]at hb;simp only[dn,rh]at hb;simp only[cZ]at *;lia
 exact I1.fpOk this<|I1.hok.fresh this
end
end
section
open PySem PySem.Spec PyProof.Rows
theorem WP (a b c:cU):checkTypeCall "zip" ⟨[a,b,c],[]⟩=pure ():=by kernel_rfl
theorem Xo (a b c:cU):checkBuiltinCall "zip.__new__" ⟨[.type "zip",a,b,c],[]⟩=pure ():=by kernel_rfl
theorem YT (a b c d:cU):argsOk "object.__init__" ⟨[a,b,c,d],[]⟩:=by unfold argsOk;rw[signature?_of (id:="object.__init__") (n:=['_','_','t','i','n','i','_','_']) (o:=['t','c','e','j','b','o']) (by kernel_rfl) F.owner_object];kernel_rfl
theorem zrk (us:List cU)(h:us.length=3):checkTypeCall "zip" ⟨us,[]⟩=pure ()/\checkBuiltinCall "zip.__new__" ⟨.type "zip"::us,[]⟩=pure ()/\∀obj,argsOk "object.__init__" ⟨obj::us,[]⟩:=by
 match us,h with
 |[a,b,c],_=>exact⟨WP _ _ _,Xo _ _ _,λobj=>YT obj _ _ _⟩
end
variable {body:List et}{Y:List cU}{i9 vs:List V}{name qual:Str}
section
open PySem PySem.Spec PyProof.Rows
structure lq (k:Nat)(A:dO):Prop where
 dp:A.depth+3*k+5<rc
 un:A.units+16*k+200<i8
theorem fw.hm {k:Nat}{A:dO}(r:fw k A)(v:Option cU):lq k (A.mark v):=⟨r.dp,r.un⟩
theorem lq.mono {k:Nat}{A:dO}(r:lq k A)(h:j<=k):lq j A:=⟨by have:=r.dp;lia,by have:=r.un;lia⟩
theorem lq.deeper {k:Nat}{A:dO}(r:lq (k+1) A)(env:Env):lq k (A.deeper env) :=
 ⟨by have:=r.dp;show A.depth+1+3*k+5<_;lia,by have:=r.un;show A.units+3+16*k+200<_;lia⟩
theorem lq.depth {k:Nat}{A:dO}(r:lq k A):A.depth<rc:=by have:=r.dp;lia
structure vF (Ah:dO->List V->Prop)(P:eI)(w:d5)(K:cX)(mg:Str->Option cU)(base:dz)(k:Nat)(f:cZ)(fd:c9)(ps:List Str)(sp:Sp):Prop where
 len:∀vs H Q E,sp vs H Q E->vs.length=ps.length
 run:∀(A:dO) (outer:List Env) (s:de) (H:Hp) (args:Args) (us:List cU) (vs:List V) (Q:VK) (E:XK),lq k A->Ah A vs->vS P w K mg base A outer s H->rp s fd args (ps.zip us)->eh vs us->sp vs H Q E ->
  jC (dq P w) A (.call (.ref f) args) (CR fL outer P w H s Q E) s
abbrev JY (P:eI)(w:d5)(K:cX)(mg:Str->Option cU)(base:dz)(N:List Str)(qual:Str)(scope:pI)(f:cZ)(cd:cU)(A:dO)(outer:List Env)(s:de)(H:Hp)(E:XK):Cx:={ nj fL P w K mg base N qual scope f cd A outer s H E with calm:=false }
theorem ũ {Ah:dO->List V->Prop}{w:d5}{K:cX}{mg:Str->Option cU}{base:dz}{k:Nat}{params:Arguments}{dV kV doc pm gH M oc:cU}{an od:Option cZ}
    {Bc:Array (Option cU)} {N:List Str} {sp:Sp} (lk:K.lookup f=Z ⟨oc,od,.func<|kC name qual params body scope dV kV doc pm an gH M,Bc⟩) (iY:n6 K gH qual=Â) (S':eK N ps scope)
    (len:∀vs H Q E,sp vs H Q E->vs.length=ps.length)
    (xZ:∀(A:dO) (outer:List Env) (s:de) (H:Hp) (vs:List V) (Q:VK) (E:XK),lq k (A.deeper<|envOfC qual scope s.heap.objs.size f gH)->Ah A vs->sp vs H Q E ->
      ∃t,tG (JY P w K mg base N qual scope f gH A outer s H E) body t/\t { nx:=λ_ G=>Q .non G,rt:=Q } (start N vs) H) :
    vF Ah P w K mg base (k+1) f (kC name qual params body scope dV kV doc pm an gH M) ps sp:=by
  refine⟨len,λA outer s H args us vs Q E hr Ib e0 hb r CD=>?_⟩;have hl:=len _ _ _ _ CD;have KX:K.In s.heap:=e0.mod.kin.keeps λb o e=>(e0.bs b o e).1;have lim:s.heap.NoLimit:=e0.mod.nolimit.keeps λb o e=>(e0.bs b o e).1;have Cz:∀y∈ps.zip us,scope.names.lookup y.1=Z .local\/(scope.names.lookup y.1=Z .cell/\((cellsFrom (s.heap.objs.size+1) scope.names []).lookup y.1).isSome=Â):=λ⟨n,v⟩ hy=>by
    rcases S'.par n (lN hy).1 with q|q
    · exact .inl q
    · exact .inr ⟨q,kB _ _ _<|.inl q⟩
  refine codeAny_call_function hr.depth (KX _ _ lk) rfl S'.co S'.gen rfl (zN KX iY)<|hb _ _ _ _ ?_;refine wpAny_newFunctionEnv_cells S'.kind Cz λenv he s1 x=>?_;subst he;refine⟨lim.keeps x.toInCall.keep,codeAny_func ?_⟩;obtain⟨t,ht,hq⟩:=xZ A outer s H vs Q E (hr.deeper _) Ib CD;have I:Ç (JY P w K mg base N qual scope f gH A outer s H E) [] (start N vs) H s1:=by have e1:vS P w K mg base { A with handled:=none } outer s H:=⟨e0.frames,e0.mod,e0.bs,e0.bsz,e0.funs,e0.frf,e0.hok,e0.bare⟩;have L':=Q4 (CX:=fL) (A:={ A with handled:=none }) (E:=E) S' rfl e1 hl r x;have o:=L'.ok;exact⟨⟨o.mod,o.kind,o.glob,o.blt,o.above,o.inj,o.has,o.cab,λz=>(by cases z),dO.frames_deeper e0.frames,o.stk,o.exf,o.bs,o.bsz,o.noex,o.exfs,o.funs,o.frf⟩,L'.os,L'.bare,L'.base,L'.loc,L'.cell,L'.free,L'.freeC,L'.pin,L'.hok,L'.len⟩
  refine fW (ht [] s1 (start N vs) H _ I hq) (λfl s' hs=>?_) λe s' hs=>hs;have fin:∀{σ':St} {G:Hp} {v:V} {u:cU},Ç (JY P w K mg base N qual scope f gH A outer s H E) [] σ' G s'->Ì v u->Q v G->CE outer P w H s Q u s' :=
    λ{σ' G v u} L' rv q=>⟨v,G,L'.os,L'.bare,L'.base,L'.hok,rv,q⟩
  cases fl with
  |ret u=>obtain⟨v,σ',G,L',rv,q⟩:=hs;exact fin L' rv q
  |next=>obtain⟨σ',G,L',q⟩:=hs;exact fin (v:=V.non) (u:=cU.none) L' rfl q
  |brk=>obtain⟨_,_,_,q⟩:=hs;exact False.elim q
  |cont=>obtain⟨_,_,_,q⟩:=hs;exact False.elim q
section
variable {k:Nat}{sp:Sp}{E:XK}{t:TA}
theorem zrl {Ah:dO->List V->Prop}{Q:VK}(F:vF Ah X.prog X.w X.K X.mg X.base k f fd ps sp)(hr:lq k X.A)(Ib:Ah X.A<|vs++i9)(hb:fK X.K fd ps Y)(hd:eh i9 Y)(hx:lJ fL X E)
  (I:Ç X cW U H s) (r:eh vs us) (h:sp (vs++i9) H Q E):dr (dq X.prog X.w) X.A (call (.ref f) us) (EP X cW U Q) X.xe s:=by
 have r2:eh (vs++i9) (us++Y):=r.append hd;have hl:(us++Y).length=ps.length:=by rw[←r2.length];exact F.len _ _ _ _ h
 refine wpAny_call<|ig (F.run X.A X.stack s H ⟨us,[]⟩ (us++Y) (vs++i9) Q E hr Ib I.env0 (hb s us I.kIn hl) r2 h) λr s' hq=>?_;cases r with
 |error e=>exact hx cW U H s e s' I hq
 |ok fl=>
  cases fl with
  |ret u=>exact I.after hq
  |next=>exact False.elim hq
  |brk=>exact False.elim hq
  |cont=>exact False.elim hq
end
end
end L2
namespace PySem
variable {A:dO}{prog:eI}{w:d5}
end PySem
namespace L2
open PySem PySem.Spec PyProof.Rows
variable {α:Type}
noncomputable def every2 {α:Type}:List α->List α
 |[]=>[]
 |[x]=>[x]
 |x::_::r=>x::every2 r
variable {β:Type}
theorem Yw {α β:Type}(f:α->β):∀xs:List α,every2 (xs.map f)=(every2 xs).map f
 |[]=>rfl
 |[_]=>rfl
 |x::y::r=>congrArg (f x::·)<|Yw f r
theorem QP {α:Type}:∀(xs:List α) (k:Nat),(every2 xs)[k]?=xs[2*k]?
 |[],k=>by simp[every2]
 |[x],0=>rfl
 |[x],k+1=>by simp[every2]
 |x::y::r,0=>rfl
 |x::y::r,k+1=>by show(every2 r)[k]?=_;rw[QP r k,show 2*(k+1)=2*k+1+1 by lia];rfl
theorem u9 {α:Type}:∀(xs:List α),(every2 xs).length=(xs.length+1)/2
 |[]=>by simp[every2]
 |[x]=>by simp[every2]
 |x::y::r=>by show(every2 r).length+1=(r.length+1+1+1)/2;rw[u9 r];lia
theorem ZZ (eG:List cU)(i:Nat):slicePick eG.toArray (Z (i:Int)) S (Z 2)=(every2<|eG.drop i).toArray:=by
 unfold slicePick kW sliceRange;congr 1;have h1:(2:Int) > 0:=by decide
 have h2:¬((i:Int)<0):=by lia
 simp only[Bp,h1,h2,if_true,if_false,dF];have hm:max 0 (min (i:Int) (eG.length:Int))=((min i eG.length:Nat):Int):=by lia
 rw[hm];have hc:((if((min i eG.length:Nat):Int)<(eG.length:Int)then((eG.length:Int)-((min i eG.length:Nat):Int)+2-1)/2 else 0)).toNat=(every2<|eG.drop i).length:=by rw[u9,ng];split<;>lia
 rw[hc,List.filterMap_map];have e:∀k∈kz (every2<|eG.drop i).length,(((λx=>eG.toArray[x]?) ∘ λ(k:Nat)=>(((min i eG.length:Nat):Int)+2*(k:Int)).toNat) k)=(every2<|eG.drop i)[k]?:=λk hk=>by have hk:=oX.mp hk;rw[u9,ng]at hk;show eG.toArray[(((min i eG.length:Nat):Int)+2*(k:Int)).toNat]?=_;rw[show(((min i eG.length:Nat):Int)+2*(k:Int)).toNat=i+2*k by lia,List.getElem?_toArray,QP,List.getElem?_drop]
 have fm:∀(F:Nat->Option cU) (ys:List cU) (l:List Nat),(∀k∈l,F k=ys[k]?/\k<ys.length)->l.filterMap F=l.map λk=>(ys[k]?).getD .none:=by
  intro F ys l;induction l with
  |nil=>exactλ_=>rfl
  |cons k l ih=>intro h;obtain⟨h2,h3⟩:=h k cV;have h4:ys[k]?=Z ys[k]:=gI h3;rw[lS,h2,h4,dJ,ih λk hk=>h k (df _ hk),h4];rfl
 rw[fm _ (every2<|eG.drop i) _ λk hk=>⟨e k hk,oX.mp hk⟩];apply List.ext_getElem
 ·simp
 ·intro j h2 h3;simp only[List.getElem_map,List.getElem_range];rw[gI h3];rfl
variable {us:List cU}{xs:List V}
theorem eh.every2 (r:eh xs us):eh (every2 xs) (every2 us):=by
 have:∀(n:Nat) (xs:List V) (us:List cU),xs.length<=n->eh xs us->eh (L2.every2 xs) (L2.every2 us):=by
  intro n;induction n with
  |zero=>
   intro xs us hl r;cases r with
   |nil=>exact .nil
   |cons _ _=>simp at hl
  |succ n ih=>
   intro xs us hl r;cases r with
   |nil=>exact .nil
   |cons h t=>
    cases t with
    |nil=>exact .cons h .nil
    |cons h2 t2=>exact .cons h (ih _ _ (by simp at hl;lia) t2)
 exact this _ _ _ (dE _) r
theorem eh.dropN (r:eh xs us):∀n,eh (xs.drop n) (us.drop n):=by
 induction r with
 |nil=>intro n;cases n<;>exact .nil
 |cons h t ih=>intro n;cases n with
  |zero=>exact .cons h t
  |succ n=>exact ih n
variable {E Q:cU->de->Prop}{X:Cx}{e:Expr}{p2 pos:my}{s:de}{te:TE}{x:Str}
section
variable {sl sp:Expr}{tl tp:TO}
def Jx (K:cX)(te:TE)(tl tp:TO):TE:=λU H Q=>te U H λx H1=>tl U H1 λol H2=>tp U H2 λo H3=>∃(i:Nat) (a:cZ) (xs:List V),ol=Z (i:Int)/\o=Z 2/\x=.ref a/\i6 K H3 a xs/\∀p,H3 p=S->Q (.ref p) (upd H3 p<|.lst<|every2<|xs.drop i)
theorem zrm (he:PE X e te)(hl:PO X (Z sl) tl)(hp:PO X (Z sp) tp):PE X (.Subscript e (.Slice (Z sl) S (Z sp) p2) pos) (Jx X.K te tl tp):=by intro cW s U H Q I h;refine Subscript_<|gb (he cW s U H _ I h) λv s1 gP=>?_;obtain⟨x,H1,I1,r1,q1⟩:=gP;refine wpAny_Slice ?_;refine gb (hl cW s1 U H1 _ I1 q1) λvl s2 gP=>?_;obtain⟨ol,H2,I2,pl,q2⟩:=gP;rw[AO];refine dA ?_;refine gb (hp cW s2 U H2 _ I2 q2) λvp s3 gP=>?_;obtain⟨o,H3,I3,pp,q3⟩:=gP;obtain⟨i,a,xs,rfl,rfl,rfl,hx,q⟩:=q3;cases r1;have I4:Ç X cW U H3 { s3 with heap:=s3.heap.push { cls:=.type "slice",data:=.fields #[vl,.none,vp] } }:=I3.kept (t':=s3.toks) λb ob q=>c7 _ q;obtain⟨eG,r,ht,hz⟩:=I4.list hx;have mF:=r.length;refine tail_any (ops:=[.ref a,.ref s3.heap.objs.size]) (s:={ s3 with heap:=s3.heap.push { cls:=.type "slice",data:=.fields #[vl,.none,vp] } }) (T:="list") ht.isList.typeIs uL.lookup ?_ (by with_unfolding_all rfl);refine wpAny_getItem_list_slice ht.isList (DA.new ..) pl .none pp (by simp) ?_ (by rw[dF]<;>lia);rw[ZZ];refine⟨.ref _,_,I4.laid (t':=s3.toks) (o:=.lst<|every2<|xs.drop i) (λb ob q=>c7 _ q) (dE _) ?_,rfl,q _<|I4.hok.fresh<|dE _⟩;exact⟨by rw[u9,ng];lia,_,0,(r.dropN i).every2,dG _ rfl⟩
theorem Yx {prog:eI}{w:d5}{A:dO}{y:Str}{t u:Tok}(hy:(y.length==0)=Ã)(hx:x.length<=sizeLine)(hn:(Txt.split x y).length<=sizeLine)
    (h:∀(l:List<|Str×Tok) k,l.map (·.1)=Txt.split x y->Q (.ref s.heap.objs.size) { s with heap:=s.heap.push { cls:=.type "list",data:=.seq (strValues l).toArray },toks:=k }):dr (dq prog w) A (call (.builtin "str.split") [.str x t,.str y u]) Q E s:=by
  cases h1:(decide (x.length<y.length) || decide (PySem.Builtin.Str.strKind x<PySem.Builtin.Str.strKind y))with
  |true=>exact m7 F.slot_str_split (typeIs_str _ _ _) F.entry_str_split (F.args_str_split_2 _ _) (meets_str_split_cannot_occur x y t u h1) (h [(x,t)] s.toks<|by unfold Txt.split;rw[if_pos h1];rfl)
  |false=>
    cases hf:(Builtin.Str.occurrences x y 0 x.length<|x.length+1).isEmpty with
    |true=>exact m7 F.slot_str_split (typeIs_str _ _ _) F.entry_str_split (F.args_str_split_2 _ _) (meets_str_split_not_found x y t u h1 hy hf) (h [(x,t)] s.toks<|by unfold Txt.split;rw[h1,if_neg di,if_pos hf];rfl)
    |false=>
      have e:Txt.split x y=Builtin.Str.partsBetween x (Builtin.Str.occurrences x y 0 x.length<|x.length+1) y.length:=by unfold Txt.split;rw[h1,if_neg di,hf,if_neg di]
      rw[e]at hn;refine m7 F.slot_str_split (typeIs_str _ _ _) F.entry_str_split (F.args_str_split_2 _ _) (meets_str_split_sep x y t u h1 hy hf hx hn) ?_;have:=h (numbered s.toks<|Builtin.Str.partsBetween x (Builtin.Str.occurrences x y 0 x.length<|x.length+1) y.length) (s.toks+(Builtin.Str.partsBetween x (Builtin.Str.occurrences x y 0 x.length<|x.length+1) y.length).length)<|(numbered_texts _ _).trans e.symm;rw[←strsFrom_eq]at this;exact this
theorem m5:∀l:List (Str×Tok),eh ((l.map (·.1)).map V.str) (strValues l)
 |[]=>.nil
 |(x,t)::l=>.cons ⟨t,rfl⟩<|m5 l
def Gn:V->List V->Hp->VK->Prop:=λx vs H Q=>∃y z,x=.str y/\vs=[.str z]/\(z.length==0)=Ã/\y.length<=sizeLine/\(Txt.split y z).length<=sizeLine/\∀p,H p=S->Q (.ref p) (upd H p<|.lst<|(Txt.split y z).map V.str)
theorem Z0:FB X "str.split" Gn:=by intro cW s U H x vs v us Q I rx rv h;obtain⟨y,z,rfl,rfl,hz,hy,hn,q⟩:=h;obtain⟨tk,rfl⟩:=rx;obtain⟨u,rfl,ru⟩:=rv.one;obtain⟨tu,rfl⟩:=ru;refine Yx hz hy hn λl k e=>?_;rw[←e]at hn q;refine⟨.ref _,_,I.laid (t':=k) (o:=.lst<|(l.map (·.1)).map V.str) (λb ob q=>c7 _ q) (dE _) ?_,rfl,q _<|I.hok.fresh<|dE _⟩;exact⟨by rw[dY];exact hn,_,0,m5 l,dG _ rfl⟩
theorem yc:iL X (.type "int") (λxs H Q=>∃y i,xs=[.str y]/\PySem.intText? y=Z i/\y.length<=640/\Q (.int i) H):=by intro cW s U H xs us Q I r h;obtain⟨y,i,rfl,hi,hl,q⟩:=h;obtain⟨u,rfl,rx⟩:=sA r;obtain⟨tk,rfl⟩:=rx;exact PySem.W.KIN.call_text hi hl ⟨.int i,H,I.tok _,⟨_,rfl⟩,q⟩
end
def Bv (v:V):Prop:=∃x:Str,v=.str x/\dX.strOk x=Â/\x.length<=100
theorem Ũ (he:PE X e te):PF X (.FormattedValue e 114 S pos) 2000 (λU H Q=>te U H λv H1=>Bv v/\Q H1):=by
 intro cW s U H Q I h;refine wpAny_FormattedValue_repr<|gb (he cW s U H _ I h) λu s1 hq=>?_;obtain⟨v,H1,I1,r1,⟨x,ev,ok,hl⟩,q⟩:=hq;subst ev;obtain⟨t,rfl⟩:=r1;have z:(reprText x).length<=2000:=by
  have:=StrLaws.reprText_len x λc hc=>by have:=(Array.all_eq_true'.mp ok) c<|yW.mp hc;exact Nat.lt_trans (of_decide_eq_true this) (by decide)
  lia
 refine pyReprObj_str (hx:=by rw[eD];lia) ?_;exact wpAny_formatField_str ⟨_,_,H1,rfl,z,I1.tok _,q⟩ ⟨_,_,H1,rfl,z,(I1.tok _).tok _,q⟩ (by rw[eD];lia)
variable {C:cZ}{dx:Option cZ}
section
variable {prog:eI}{w:d5}{A:dO}
theorem WW:entryFor table "proto.unchain"=Z Builtin.«proto.unchain»:=entryFor_of_tree (by kernel_rfl)
theorem Wp {it l e:cZ}{tb:Option cZ}{i:Nat}{items}{Q:Option cU->de->Prop}(hh:A.handled=Z (.ref e))(xe:FG e C dx tb s.heap)(oQ:e≠it)
    (hit:s.heap.IsListIter it l i) (hl:s.heap.IsList l items) (hx:items[i]?=S)
    (hQ:∀h',zV it s.heap h'->Q S { s with heap:=h' }):dr (dq prog w) A (pyNext<|.ref it) Q E s:=by
  obtain⟨o,ho,hc,hd⟩:=id hit;obtain⟨ol,Iy,_,nl,hdl⟩:=hl;obtain⟨a0,he⟩:=xe;unfold pyNext;refine cY<|wpAny_attempt (wpAny_callSpecial?_slot (name:=Str.ofString "__next__") hit.typeIs slot_listiter_next
    (wpAny_call_entry slot_listiter_next hit.typeIs entry_listiter_next ?_<|args_listiter_next _))
  show dr _ _ (field (.ref it) 0 >>= _) _ _ s;refine cY<|wpAny_field ho hd (x:=.ref l) rfl ?_;show dr _ _ (if(cU.ref l==cU.none)=Â then _ else _) _ _ s;rw[if_neg<|show¬((cU.ref l==cU.none)=Â)from di];show dr _ _ (field (.ref it) 1 >>= _) _ _ s;refine cY<|wpAny_field ho hd (x:=.int i 0) rfl ?_;show dr _ _ (seqItems? (.ref l) >>= _) _ _ s;refine cY<|wpAny_seqItems Iy hdl ?_;simp only[kS,hx];refine cY (wpAny_rule<|cY<|wpAny_setField ho hd (by simp) ?_);have b1:=fZ.update s.heap it<|gM.mapFields (·.setIfInBounds 0 cU.none);have PK:=(b1.2 e oQ).trans he;generalize s.heap.update it (gM.mapFields (·.setIfInBounds 0 cU.none))=h1 at b1 PK ⊢;show dr _ _ (newExc (.type "StopIteration") [] >>= _) _ _ _;refine cY ?_;simp only[newExc,newTuple];refine cY (iI ?_<|by size_fits);refine cY (m:=firstArgMember _ _) (wpAny_of_eq (a:=cU.none) (by first|rfl|(simp only[firstArgMember];rfl)) ?_);refine iI ?_ (by size_fits);simp only[raiseNew];refine cY<|wpAny_handled ?_;rw[show A.in1.handled=Z (.ref e)from hh];generalize U5:h1.push { cls:=.type "tuple",data:=.seq #[] }=h2;have k2:∀b o,h1.get? b=Z o->h2.get? b=Z o:=λb o q=>by rw[←U5];exact c7 _ q
  have Ha:=k2 _ _ PK;have lt:e<h2.objs.size:=dB Ha;dsimp only;rw[if_pos<|show(cU.ref e != cU.ref h2.objs.size)=Â from by rw[bne_iff_ne];intro z;cases z;exact absurd lt<|iF _];generalize Kj:({ cls:=.type "StopIteration",data:=_ }:gM)=oS;have gS:(h2.push oS).get? h2.objs.size=Z oS:=dG _ (by rw[←Kj];rfl);have UV:=c7 (h:=h2) oS Ha;refine cY<|gA<|wpAny_runValue<|codeAny_builtin WW ?_;rw[dO.under_plainId (by decide +kernel) _];unfold Builtin.«proto.unchain»;refine cY (wpAny_field UV rfl (x:=.none) (by simp) ?_);rw[if_pos<|by rfl];refine dA ?_;dsimp only;unfold updateField;refine cY<|cY<|wpAny_load gS ?_;have dS:oS.data=.fields (#[cU.ref h1.objs.size,.none,.none,.none,.bool Ã,.none]++ownMembersOf (.type "StopIteration") []):=by rw[←Kj]
  rw[dS];dsimp only;rw[if_pos<|by simp;lia];refine wpAny_update gS ?_;refine wpAny_throw ?_;have b2:=fZ.update (h2.push oS) h2.objs.size<|gM.mapFields (·.setIfInBounds 2 (cU.ref e));have g2:=fD (gM.mapFields (·.setIfInBounds 2 (cU.ref e))) gS (by rw[←Kj];rfl);refine cY (wpAny_isInstance (T:="StopIteration") (b:=true) ⟨_,g2,by rw[←Kj];rfl⟩ isSubtype_stop ?_);refine dA<|hQ _ λb o hb q=>?_;have z1:=k2 _ _<|(b1.2 b hb).trans q;have z2:b<h2.objs.size:=dB z1;exact(b2.2 b<|dU z2).trans<|c7 _ z1
end
def HH (K:cX)(a e:cZ):It:=⟨(GW K a).go,(GW K a).yld,λi H=>(GW K a).stop i H/\∃C dx tb,H e=Z (nN e C dx tb)⟩
variable {P:eI}{tg:Expr}
theorem Yy {w:d5}{K:cX}(a e it:cZ):Ck P w K tg (HH K a e) [it] it (λi h=>h.IsListIter it a i) (λX=>X.A.handled=Z (.ref e)) where
 mem:=by simp
 obj:=(jz (P:=P) (w:=w) (K:=K) (tg:=tg) a it).obj
 keep:=(jz (P:=P) (w:=w) (K:=K) (tg:=tg) a it).keep
 item:=by intro X hP hw hK hc i cW s U H E I hf st hg;subst hP hw hK;obtain⟨xs,x,hq,hx⟩:=hg;obtain⟨eG,rv,p,hz⟩:=I.list hq;obtain⟨u,hu,ru⟩:=rv.get hx;obtain⟨f0,f1,f2,f3,f4,f5⟩:=hf it (by simp);refine wpAny_pyNext_list_item st p.isList (x:=u) (by simpa using hu) λh' AE sb=>?_;have I1:Ç X cW U H { s with heap:=h' }:=I.turned (t':=s.toks) (λb o hb e=>(sb.2 b hb).trans e) f0 f1 f3 f4 f5;obtain⟨o,e,c,d⟩:=id AE;exact⟨u,rfl,Lu (s:={ s with heap:=h' }) e c d (by decide) ⟨x,H,I1,ru,⟨rfl,λys hy=>by rw[I.list_inj hy hq];exact hx⟩,AE,λb hb=>(hf b hb).1⟩⟩
 done:=by intro X hP hw hK hc i cW s U H E I hf st hg;subst hP hw hK;obtain⟨⟨xs,hq,hx⟩,C,dx,tb,FY⟩:=hg;obtain⟨eG,rv,p,hz⟩:=I.list hq;obtain⟨f0,f1,f2,f3,f4,f5⟩:=hf it (by simp);have hl:=rv.length;exact Wp hc (I.hok e _ FY).1 (λz=>by rw[z,f0]at FY;cases FY) st p.isList (by simp;lia) λh' eb=>⟨rfl,I.turned (t':=s.toks) (λb o hb e=>eb b o hb e) f0 f1 f3 f4 f5⟩
 self:=(jz (P:=P) (w:=w) (K:=K) (tg:=tg) a it).self
def F6 (K:cX)(e:cZ)(tl:TE):TI:=λU H R=>tl U H λx H1=>∃a,x=.ref a/\(∃xs,i6 K H1 a xs)/\R (HH K a e) H1
theorem Z1 {l:Expr}{tl:TE}{e:cZ}(hh:X.A.handled=Z (.ref e))(hl:PE X l tl):GY X True tg l (F6 X.K e tl):=by
 intro cW s U H R I h;refine gb (hl cW s U H _ I h) λv s1 gP=>?_;obtain⟨x,H1,I1,r1,q1⟩:=gP;obtain⟨a,e',⟨xs,hq⟩,q⟩:=q1;subst e';cases r1;obtain⟨eG,rv,p,hz⟩:=I1.list hq;refine nR p.isList ?_;refine⟨s1.heap.objs.size,[s1.heap.objs.size],_,_,H1,rfl,I1.kept (t':=s1.toks) λb o e=>c7 _ e,⟨_,Yy a e _,λ_ Y' hA _=>by rw[hA];exact hh⟩,⟨_,dG _ rfl,rfl,rfl⟩,λb hb=>?_,q⟩;have e:b=s1.heap.objs.size:=by simpa using hb
 subst e;exact I1.fpOk (dE _)<|I1.hok.fresh<|dE _
theorem lq.u64 {k:Nat}{A:dO}(r:lq k A):A.units+64<i8:=by have:=r.un;lia
def JP (A:dO)(vs:List V):Prop:=∃e Hm,A.handled=Z (.ref e)/\vs=.ref e::Hm
variable {f:cZ}{fd:c9}{p:my}{ps:List Str}
section
variable {k i:Nat}{e:cZ}{sp:Sp}{E:XK}{y:Str}{pn:my}
theorem Z2 (F:vF JP X.prog X.w X.K X.mg X.base k f fd ps sp)(hr:lq k X.A)(hA:X.A.handled=Z (.ref e))(hg:Gl X x)(hm:X.mg x=Z (.ref f))(hk:dQ X.K (.ref f)=Â)(hb:fK X.K fd ps [])(hx:lJ fL X E)
  (hN:X.N[i]?=Z y) (hv:pN X.env.scope y) (hd:iM y:=by decide) (iY:qD y:=by decide) (jS:iM x:=by decide) (he:dM [.Name y pn] X.env=(Ã,eP (.Name y pn) X.env)::dM [] X.env:=by rfl) (iD:lV X pos []:=by rfl) :
  PE X (.Call (.Name x p) [.Name y pn] [] pos) (λU H Q=>U[i]?=Z (Z<|.ref e)/\sp [.ref e] H Q E):=by
 intro cW s U H Q I h;obtain⟨h1,h2⟩:=h;refine fu<|xj I hg hm ?_ jS;refine fe (h₀:=X.base) I.ok.mod.kin hk (gb (ya (yb hN hv hd iY) yz he pos cW s U H (λvs H1=>vs=[.ref e]/\sp [.ref e] H1 Q E) I ⟨_,h1,rfl,h2⟩) λus s1 ⟨vs,H1,I1,r,ev,q⟩=>⟨I1.kIn,?_⟩) he iD;subst ev;exact zrl (i9:=[]) F hr ⟨e,[],hA,rfl⟩ hb .nil hx I1 r q
end
variable {W':GK}{U':List (Str×cU)}{fG:my}{da:cZ}{Y:List cU}{i9:List V}{es:List Expr}{m:Str}{o:Expr}{pl:Cd Bool}{ta:TE}
section
variable {k:Nat}{sp:Sp}{i:Expr}{ty:TE}{t:TA}
def GA (C:cZ)(m:Str)(sp:Sp)(i9:List V)(W':GK)(ta:TE)(t:TA):TE:=λU H Q=>ta U H λx H1=>∃a dx fs,x=.ref a/\H1 a=Z (.ins C dx fs)/\fs.lookup m=S/\t U H1 λvs H2=>sp (.ref a::(vs++i9)) H2 Q<|EX W' U
theorem Z3 (he:PE X o ta)(c:mQ X.K C)(hm:qC X.K C m f)(F:dR X.prog X.w X.K X.mg X.base (rg X.prog X.w) k f fd ps sp)(hr:fw k X.A)(hb:fK X.K fd ps Y)(hd:eh i9 Y)(hx:lp X W')(ha:PA X (e::es) t)
  (jH:SE X e es) (iD:lV X pos es)
  (ht:eP (.Call (.Attribute o m fG) (e::es) [] pos) X.env=(do
   let ov ← eP o X.env
   ij fG.atName
   let(f,first) ← fH [ov] (iU ov m pl)
   jK pos f first (gR pos<|dM (e::es) X.env) (ir pos<|fO [] X.env))) :
  PE X (.Call (.Attribute o m fG) (e::es) [] pos) (GA C m sp i9 W' ta t):=by
 intro cW s U H Q I h;refine hU (pl:=pl) (gb (he cW s U H _ I h) λu s1 hq=>?_) ht;obtain⟨x,H1,I1,rx,a,dx,fs,ex,ea,l,q⟩:=hq;subst ex;obtain rfl:u=cU.ref a:=rx;refine u4 I1 ea c hm l ?_;refine fe (first:=[.ref a]) (h₀:=X.base) I.ok.mod.kin hm.kp (gb (ha pos cW s1 U H1 _ I1 q) λus s2 ⟨vs,H2,I2,r,q2⟩=>⟨I2.kIn,?_⟩) jH iD;exact OB (us:=.ref a::us) (vs:=.ref a::vs) F hr hb hd hx I2 (.cons rfl r) q2
def Ju (U':List<|Str×cU)(F:Str->cZ->Sp->Prop)(W':GK)(ty:TE)(t:TA):TE:=λU H Q=>ty U H λy H1=>∃k f sp,y=.str k/\U'.lookup k=Z (.ref f)/\F k f sp/\t U H1 λvs H2=>sp vs H2 Q<|EX W' U
theorem zrn {F:Str->cZ->Sp->Prop}(D:KD X.K X.w X.mg x da U')(hF:∀k f sp,F k f sp->∃kk fd ps,dR X.prog X.w X.K X.mg X.base (rg X.prog X.w) kk f fd ps sp/\fw kk X.A/\dQ X.K (.ref f)=Â/\fK X.K fd ps [])(hx:lp X W')(hg:Gl X x)(hi:PE X i ty)(hs:vY i)(ha:PA X (e::es) t)
  (hd:iM x) (he:SE X e es) (iD:lV X pos es) :
  PE X (.Call (.Subscript (.Name x p) i p2) (e::es) [] pos) (Ju U' F W' ty t):=by
 intro cW s U H Q I h;show dr _ _ (eP (.Subscript (.Name x p) i p2) X.env >>= λfv=>jK pos fv [] (gR pos<|dM (e::es) X.env)<|ir pos<|fO [] X.env) _ _ s;refine cY<|K0 PySem.F.slot_dict_getitem.lookup hs<|xj I hg D.mgx (gb (hi cW s U H _ I h) λiv s2 hq=>?_) hd;obtain⟨y,H2,I2,ry,k,f,sp,ey,l,hf,q2⟩:=hq;subst ey;obtain⟨tk,rfl⟩:=ry;have J':=D.map (P:=X.prog) I2.kIn;refine⟨J'.typeIs,wpAny_getItem_of (strKind_is X.prog X.w k tk) J' l ?_⟩;obtain⟨kk,fd,ps,Fn,hr,hk,hb⟩:=hF k f sp hf;have I3:=I2.tok<|s2.toks+1;refine fe (h₀:=X.base) I.ok.mod.kin hk (gb (ha pos cW _ U H2 _ I3 q2) λus s4 ⟨vs,H4,I4,r,q⟩=>⟨I4.kIn,?_⟩) he iD;exact OB (i9:=[]) (Y:=[]) Fn hr hb .nil hx I4 r (by rw[d6];exact q)
end
end L2
namespace Fq
noncomputable def dv (t b:Int):Int:=if b<0 then -((Int.gcd t b:Nat):Int)else((Int.gcd t b:Nat):Int)
def mk (t b:Int):Int×Int:=(t.fdiv<|dv t b,b.fdiv<|dv t b)
end Fq
namespace L3
open PySem PySem.Spec L2
open PyProof.Rows hiding St
inductive D where
 |non|bl (b:Bool)|int (i:Int)|str (x:Str)
 |lst (xs:List D)|tup (xs:List D)|dK (ks:List kr) (Y:List D)|dT (ks:List<|List kr) (Y:List D)
 |obj (c:Nat) (ns:List Str) (Y:List D)
 |exc (c:Nat) (ns:List Str) (Y:List D)
 |kt (xs:List D)
 |cel (xs:List D)
 deriving Inhabited
class inductive Pr (R:D->V->Prop):List D->List V->Prop
 |nil:Pr R [] []
 |cons {d:D} {v:V} {Y:List D} {vs:List V}:R d v->Pr R Y vs->Pr R (d::Y) (v::vs)
variable {R:D->V->Prop}{Y:List D}
theorem Pr.mono {R':D->V->Prop}(f:∀d v,R d v->R' d v){vs:List V}(h:Pr R Y vs):Pr R' Y vs:=by
 induction h with
 |nil=>exact .nil
 |cons h t ih=>exact .cons (f _ _ h) ih
theorem Pr.length {vs:List V}(h:Pr R Y vs):Y.length=vs.length:=by
 induction h with
 |nil=>rfl
 |cons h t ih=>rw[dw,dw,ih]
variable {d:D}{i:Nat}
theorem Pr.get' {vs:List V}(h:Pr R Y vs)(e:Y[i]?=Z d):∃v,vs[i]?=Z v/\R d v:=by
 induction h generalizing i with
 |nil=>cases e
 |cons h t ih=>
  cases i with
  |zero=>cases e;exact⟨_,rfl,h⟩
  |succ i=>exact ih e
variable {us:List V}
theorem Pr.append {es:List D}{vs:List V}(h:Pr R Y vs)(s:Pr R es us):Pr R (Y++es) (vs++us):=by
 induction h with
 |nil=>exact s
 |cons h t ih=>exact .cons h ih
theorem Pr.take {vs:List V}(n:Nat)(h:Pr R Y vs):Pr R (Y.take n) (vs.take n):=by
 induction h generalizing n with
 |nil=>cases n<;>exact .nil
 |cons h t ih=>cases n with
  |zero=>exact .nil
  |succ n=>exact .cons h<|ih n
theorem Pr.drop {vs:List V}(n:Nat)(h:Pr R Y vs):Pr R (Y.drop n) (vs.drop n):=by
 induction h generalizing n with
 |nil=>cases n<;>exact .nil
 |cons h t ih=>cases n with
  |zero=>exact .cons h t
  |succ n=>exact ih n
theorem Pr.reverse {vs:List V}(h:Pr R Y vs):Pr R Y.reverse vs.reverse:=by
 induction h with
 |nil=>exact .nil
 |cons h t ih=>rw[BX,BX];exact ih.append<|.cons h .nil
theorem Pr.rep {vs:List V}(h:Pr R Y vs)(k:Nat):Pr R (dg k Y).flatten (dg k vs).flatten:=by
 induction k with
 |zero=>exact .nil
 |succ k ih=>rw[fQ,jB,fQ,jB];exact h.append ih
mutual
inductive Dt (K:cX)(M:Nat->cZ)(F:Hp):D->V->Prop
 |non:Dt K M F .non .non
 |bl (b:Bool):Dt K M F (.bl b) (.bl b)
 |int (i:Int):Dt K M F (.int i) (.int i)
 |str (x:Str):Dt K M F (.str x) (.str x)
 |lst {a:cZ} {vs:List V} {Y:List D}:i6 K F a vs->Ü K M F Y vs->Dt K M F (.lst Y) (.ref a)
 |tup {a:cZ} {vs:List V} {Y:List D}:F a=Z (.tup vs)->Ü K M F Y vs->Dt K M F (.tup Y) (.ref a)
 |dK {a:cZ} {ks:List kr} {vs:List V} {Y:List D}:F a=Z (.dK<|ks.zip vs)->ks.length=vs.length->Ü K M F Y vs->Dt K M F (.dK ks Y) (.ref a)
 |dT {a:cZ} {ks:List (List kr)} {vs:List V} {Y:List D}:Rd F a (.dT<|ks.zip vs)->ks.length=vs.length->Ü K M F Y vs->Dt K M F (.dT ks Y) (.ref a)
 |obj {a dx:cZ} {c:Nat} {ns:List Str} {vs:List V} {Y:List D}:F a=Z (.ins (M c) dx<|ns.zip vs)->ns.length=vs.length->Ü K M F Y vs->Dt K M F (.obj c ns Y) (.ref a)
 |exc0 {a:cZ} {c:Nat} {tb:Option cZ}:F a=Z (nN a (M c) S tb)->Dt K M F (.exc c [] []) (.ref a)
 |exc {a dx:cZ} {c:Nat} {tb:Option cZ} {ns:List Str} {vs:List V} {Y:List D}:F a=Z (nN a (M c) (Z dx) tb)->F dx=Z (.xd<|ns.zip vs)->ns.length=vs.length->Ü K M F Y vs->Dt K M F (.exc c ns Y) (.ref a)
 |kt {a:cZ} {vs:List V} {Y:List D}:HI K a vs->Ü K M F Y vs->Dt K M F (.kt Y) (.ref a)
 |cel {a:cZ} {Y:List D}:Dt K M F (.cel Y) (.ref a)
inductive Ü (K:cX)(M:Nat->cZ)(F:Hp):List D->List V->Prop
 |nil:Ü K M F [] []
 |cons {d:D} {v:V} {Y:List D} {vs:List V}:Dt K M F d v->Ü K M F Y vs->Ü K M F (d::Y) (v::vs)
end
variable {B B' F F' W' G' H G:Hp}{K:cX}{M:Nat->cZ}
theorem Ü.pr {vs:List V}(h:Ü K M F Y vs):Pr (Dt K M F) Y vs:=by
 induction Y generalizing vs with
 |nil=>cases h;exact .nil
 |cons d Y ih=>cases h with|cons h t=>exact .cons h<|ih t
theorem Ü.of {vs:List V}(h:Pr (Dt K M F) Y vs):Ü K M F Y vs:=by
 induction h with
 |nil=>exact .nil
 |cons h t ih=>exact .cons h ih
theorem Dt.mono (s:d9 F F'){v:V}(h:Dt K M F d v):Dt K M F' d v :=
 Dt.rec (motive_1:=λd v _=>Dt K M F' d v) (motive_2:=λd v _=>Ü K M F' d v) .non .bl .int .str (λh _ t=>.lst (s.seq h) t) (λh _ t=>.tup (s _ _ h) t) (λh l _ t=>.dK (s _ _ h) l t) (λh l _ t=>.dT (s.rd h) l t) (λh l _ t=>.obj (s _ _ h) l t) (λh=>.exc0<|s _ _ h) (λh h' l _ t=>.exc (s _ _ h) (s _ _ h') l t) (λh _ t=>.kt h t) .cel .nil (λ_ _ h t=>.cons h t) h
theorem Ü.mono (s:d9 F F'){vs:List V}(h:Ü K M F Y vs):Ü K M F' Y vs:=Ü.of<|h.pr.mono λ_ _ q=>q.mono s
def D.sc:D->Bool
 |.non=>Â|.bl _=>Â|.int _=>Â|.str _=>Â|_=>Ã
class inductive GU (K:cX)(M:Nat->cZ)(F W':Hp)(R:D->V->Prop):D->V->Prop
 |lst {a:cZ} {vs:List V} {Y:List D}:W' a=Z (.lst vs)->Pr R Y vs->GU K M F W' R (.lst Y) (.ref a)
 |tup {a:cZ} {vs:List V} {Y:List D}:F a=Z (.tup vs)->Pr R Y vs->GU K M F W' R (.tup Y) (.ref a)
 |dK {a:cZ} {ks:List kr} {vs:List V} {Y:List D}:W' a=Z (.dK<|ks.zip vs)->ks.length=vs.length->Pr R Y vs->GU K M F W' R (.dK ks Y) (.ref a)
 |dT {a:cZ} {ks:List (List kr)} {vs:List V} {Y:List D}:Rd W' a (.dT<|ks.zip vs)->ks.length=vs.length->Pr R Y vs->GU K M F W' R (.dT ks Y) (.ref a)
 |obj {a dx:cZ} {c:Nat} {ns:List Str} {vs:List V} {Y:List D}:W' a=Z (.ins (M c) dx<|ns.zip vs)->ns.length=vs.length->Pr R Y vs->GU K M F W' R (.obj c ns Y) (.ref a)
def Al (K:cX)(M:Nat->cZ)(F W':Hp):Nat->D->V->Prop
 |0,d,v=>Dt K M F d v
 |n+1,d,v=>Dt K M F d v\/GU K M F W' (Al K M F W' n) d v
class inductive iW (R:D->V->List cZ->Prop):List D->List V->List cZ->Prop
 |nil:iW R [] [] []
 |cons {d:D} {v:V} {Y:List D} {vs:List V} {f g:List cZ}:R d v f->iW R Y vs g->iW R (d::Y) (v::vs) (f++g)
def kE (K:cX)(M:Nat->cZ)(F H:Hp)(ns:List Str)(Y:List D)(vs:List V)(fb:List cZ):Prop:=match (ns.zip Y).lookup ("puts":Str)with
 |some (.cel es)=>∃b us,(ns.zip vs).lookup ("puts":Str)=Z (.ref b)/\fb=[b]/\F b=S/\H b=Z (.lst us)/\Pr (Dt K M F) es us
 |_=>fb=[]
class inductive Aj (K:cX)(M:Nat->cZ)(F H:Hp)(R:D->V->List cZ->Prop):D->V->List cZ->Prop
 |lst {a:cZ} {vs:List V} {Y:List D} {fp:List cZ}:F a=S->H a=Z (.lst vs)->iW R Y vs fp->Aj K M F H R (.lst Y) (.ref a) (a::fp)
 |tup {a:cZ} {vs:List V} {Y:List D} {fp:List cZ}:F a=Z (.tup vs)->iW R Y vs fp->Aj K M F H R (.tup Y) (.ref a) fp
 |dK {a:cZ} {ks:List kr} {vs:List V} {Y:List D} {fp:List cZ}:F a=S->H a=Z (.dK<|ks.zip vs)->ks.length=vs.length->iW R Y vs fp->Aj K M F H R (.dK ks Y) (.ref a) (a::fp)
 |dT {a:cZ} {ks:List (List kr)} {vs:List V} {Y:List D} {fp:List cZ}:F a=S->H a=Z (.dT<|ks.zip vs)->ks.length=vs.length->iW R Y vs fp->Aj K M F H R (.dT ks Y) (.ref a) (a::fp)
 |obj {a dx:cZ} {c:Nat} {ns:List Str} {vs:List V} {Y:List D} {fb fp:List cZ}:F a=S->H a=Z (.ins (M c) dx<|ns.zip vs)->ns.length=vs.length->kE K M F H ns Y vs fb->iW R Y vs fp->Aj K M F H R (.obj c ns Y) (.ref a) (a::(fb++fp))
def Ow (K:cX)(M:Nat->cZ)(F H:Hp):Nat->D->V->List cZ->Prop
 |0,d,v,fp=>Dt K M F d v/\fp=[]
 |n+1,d,v,fp=>(d.sc=Â/\Dt K M F d v/\fp=[])\/Aj K M F H (Ow K M F H n) d v fp
def mh (o:HO):Prop:=∀xs,o≠.tup xs
structure iJ (F H F' G:Hp):Prop where
 ff:d9 F F'
 hh:d9 H G
 fh:d9 F' G
 nf:∀a o,H a=Z o->mh o->F a=S->F' a=S
theorem iJ.refl (h:d9 F H):iJ F H F H:=⟨.refl _,.refl _,h,λ_ _ _ _ h=>h⟩
variable {F1 H1:Hp}
theorem iJ.trans {F2 H2:Hp}(a:iJ F H F1 H1)(b:iJ F1 H1 F2 H2):iJ F H F2 H2 :=
 ⟨a.ff.trans b.ff,a.hh.trans b.hh,b.fh,λc o h t n=>b.nf c o (a.hh _ _ h) t<|a.nf c o h t n⟩
theorem iJ.newO {p:cZ}(s:d9 F H)(h:H p=S)(o:HO):iJ F H F (upd H p o) :=
 ⟨.refl _,xl h o,s.trans<|xl h o,λ_ _ _ _ h=>h⟩
theorem iJ.newS {p:cZ}(s:d9 F H)(h:H p=S)(o:HO):iJ F H (upd F p o) (upd H p o) :=
  ⟨xl (s.free h) o,xl h o,λb u q=>by
    by_cases e:b=p
    · subst e;rw[zo]at q ⊢;exact q
    · rw[zn e]at q ⊢;exact s _ _ q,
   λb u q _ n=>by rw[zn<|zp q h];exact n⟩
variable {F0:Hp}{fb fp:List cZ}{ks:List kr}{n:Nat}{x:Str}
theorem Al.mono (sF:d9 F F')(sG:d9 W' G'):∀{d:D} {v:V},Al K M F W' n d v->Al K M F' G' n d v:=by
 induction n with
 |zero=>exactλh=>Dt.mono sF h
 |succ n ih=>
  intro d v h;rcases h with h|h
  ·exact .inl<|Dt.mono sF h
  ·cases h with
   |lst h p=>exact .inr<|.lst (sG _ _ h)<|p.mono λ_ _ q=>ih q
   |tup h p=>exact .inr<|.tup (sF _ _ h)<|p.mono λ_ _ q=>ih q
   |dK h l p=>exact .inr<|.dK (sG _ _ h) l<|p.mono λ_ _ q=>ih q
   |dT h l p=>exact .inr<|.dT (sG.rd h) l<|p.mono λ_ _ q=>ih q
   |obj h l p=>exact .inr<|.obj (sG _ _ h) l<|p.mono λ_ _ q=>ih q
theorem Al.of:∀{n:Nat} {d:D} {v:V},Dt K M F d v->Al K M F W' n d v
 |0,_,_,h=>h
 |_+1,_,_,h=>.inl h
theorem Al.up:∀{m:Nat} {d:D} {v:V},Al K M F W' n d v->n<=m->Al K M F W' m d v:=by
 induction n with
 |zero=>exactλh _=>Al.of h
 |succ n ih=>
  intro m d v h l;cases m with
  |zero=>exact absurd l (by lia)
  |succ m=>
   rcases h with h|h
   ·exact .inl h
   ·cases h with
    |lst h p=>exact .inr (.lst h<|p.mono λ_ _ q=>ih q (by lia))
    |tup h p=>exact .inr (.tup h<|p.mono λ_ _ q=>ih q (by lia))
    |dK h e p=>exact .inr (.dK h e<|p.mono λ_ _ q=>ih q (by lia))
    |dT h e p=>exact .inr (.dT h e<|p.mono λ_ _ q=>ih q (by lia))
    |obj h e p=>exact .inr (.obj h e<|p.mono λ_ _ q=>ih q (by lia))
theorem Dt.scal {v:V}(h:Dt K M F d v)(hs:d.sc=Â):Dt K M F' d v:=by
 cases h with
 |non=>exact .non
 |bl b=>exact .bl b
 |int i=>exact .int i
 |str x=>exact .str x
 |lst _ _=>cases hs
 |tup _ _=>cases hs
 |dK _ _ _=>cases hs
 |dT _ _ _=>cases hs
 |obj _ _ _=>cases hs
 |exc0 _=>cases hs
 |exc _ _ _ _=>cases hs
 |kt _ _=>cases hs
 |cel=>cases hs
theorem Al.scal {v:V}(h:Al K M F W' n d v)(hs:d.sc=Â):Dt K M F' d v:=by
 cases n with
 |zero=>exact Dt.scal h hs
 |succ n=>
  rcases h with h|h
  ·exact h.scal hs
  ·cases h<;>cases hs
theorem Al.int {i:Int}{v:V}(h:Al K M F W' n (.int i) v):v=.int i:=by have q:=Al.scal (F':=F) h rfl;cases q;rfl
theorem Al.bl {b:Bool}{v:V}(h:Al K M F W' n (.bl b) v):v=.bl b:=by have q:=Al.scal (F':=F) h rfl;cases q;rfl
theorem Al.str {v:V}(h:Al K M F W' n (.str x) v):v=.str x:=by have q:=Al.scal (F':=F) h rfl;cases q;rfl
theorem Al.non {v:V}(h:Al K M F W' n .non v):v=.non:=by have q:=Al.scal (F':=F) h rfl;cases q;rfl
theorem Al.lst {v:V}(h:Al K M F W' n (.lst Y) v)(s:d9 F W'):∃a vs,v=.ref a/\i6 K W' a vs/\Pr (Al K M F W'<|n-1) Y vs:=by
 cases n with
 |zero=>
  have h:Dt K M F (.lst Y) v:=h;cases h with
  |lst q t=>exact⟨_,_,rfl,s.seq q,t.pr⟩
 |succ n=>
  rcases h with h|h
  ·cases h with
   |lst q t=>exact⟨_,_,rfl,s.seq q,t.pr.mono λ_ _=>Al.of⟩
  ·cases h with
   |lst q t=>exact⟨_,_,rfl,i6.of q,t⟩
theorem Al.tup {v:V}(h:Al K M F W' n (.tup Y) v)(s:d9 F W'):∃a vs,v=.ref a/\W' a=Z (.tup vs)/\Pr (Al K M F W'<|n-1) Y vs:=by
 cases n with
 |zero=>
  have h:Dt K M F (.tup Y) v:=h;cases h with
  |tup q t=>exact⟨_,_,rfl,s _ _ q,t.pr⟩
 |succ n=>
  rcases h with h|h
  ·cases h with
   |tup q t=>exact⟨_,_,rfl,s _ _ q,t.pr.mono λ_ _=>Al.of⟩
  ·cases h with
   |tup q t=>exact⟨_,_,rfl,s _ _ q,t⟩
theorem Al.dK {v:V}(h:Al K M F W' n (.dK ks Y) v)(s:d9 F W'):∃a vs,v=.ref a/\W' a=Z (.dK<|ks.zip vs)/\ks.length=vs.length/\Pr (Al K M F W'<|n-1) Y vs:=by
 cases n with
 |zero=>
  have h:Dt K M F (.dK ks Y) v:=h;cases h with
  |dK q l t=>exact⟨_,_,rfl,s _ _ q,l,t.pr⟩
 |succ n=>
  rcases h with h|h
  ·cases h with
   |dK q l t=>exact⟨_,_,rfl,s _ _ q,l,t.pr.mono λ_ _=>Al.of⟩
  ·cases h with
   |dK q l t=>exact⟨_,_,rfl,q,l,t⟩
theorem Al.dT {ks:List (List kr)}{v:V}(h:Al K M F W' n (.dT ks Y) v)(s:d9 F W'):∃a vs,v=.ref a/\Rd W' a (.dT<|ks.zip vs)/\ks.length=vs.length/\Pr (Al K M F W'<|n-1) Y vs:=by
 cases n with
 |zero=>
  have h:Dt K M F (.dT ks Y) v:=h;cases h with
  |dT q l t=>exact⟨_,_,rfl,s.rd q,l,t.pr⟩
 |succ n=>
  rcases h with h|h
  ·cases h with
   |dT q l t=>exact⟨_,_,rfl,s.rd q,l,t.pr.mono λ_ _=>Al.of⟩
  ·cases h with
   |dT q l t=>exact⟨_,_,rfl,q,l,t⟩
theorem Al.obj {c:Nat}{ns:List Str}{v:V}(h:Al K M F W' n (.obj c ns Y) v)(s:d9 F W'):∃a dx vs,v=.ref a/\W' a=Z (.ins (M c) dx<|ns.zip vs)/\ns.length=vs.length/\Pr (Al K M F W'<|n-1) Y vs:=by
 cases n with
 |zero=>
  have h:Dt K M F (.obj c ns Y) v:=h;cases h with
  |obj q l t=>exact⟨_,_,_,rfl,s _ _ q,l,t.pr⟩
 |succ n=>
  rcases h with h|h
  ·cases h with
   |obj q l t=>exact⟨_,_,_,rfl,s _ _ q,l,t.pr.mono λ_ _=>Al.of⟩
  ·cases h with
   |obj q l t=>exact⟨_,_,_,rfl,q,l,t⟩
theorem Al.kt {v:V}(h:Al K M F W' n (.kt Y) v):∃a vs,v=.ref a/\HI K a vs/\Pr (Dt K M F) Y vs:=by
 have h:Dt K M F (.kt Y) v:=by
  cases n with
  |zero=>exact h
  |succ n=>
   rcases h with h|h
   ·exact h
   ·cases h
 cases h with
 |kt q t=>exact⟨_,_,rfl,q,t.pr⟩
theorem iW.mono {R R':D->V->List cZ->Prop}{vs:List V}(h:iW R Y vs fp):(∀d v f,(∀a∈f,a∈fp)->R d v f->R' d v f)->iW R' Y vs fp:=by
 induction h with
 |nil=>exactλ_=>.nil
 |cons h t ih=>exactλq=>.cons (q _ _ _ (λa z=>dc _ z) h)<|ih λd v f i r=>q d v f (λa z=>c8 _<|i a z) r
theorem iW.pr {R:D->V->List cZ->Prop}{R':D->V->Prop}{vs:List V}(h:iW R Y vs fp):(∀d v f,(∀a∈f,a∈fp)->R d v f->R' d v)->Pr R' Y vs:=by
 induction h with
 |nil=>exactλ_=>.nil
 |cons h t ih=>exactλq=>.cons (q _ _ _ (λa z=>dc _ z) h)<|ih λd v f i r=>q d v f (λa z=>c8 _<|i a z) r
theorem iW.ofPr {R:D->V->List cZ->Prop}{vs:List V}(h:Pr (λd v=>R d v []) Y vs):iW R Y vs []:=by
 induction h with
 |nil=>exact .nil
 |cons h t ih=>exact iW.cons (f:=[]) (g:=[]) h ih
theorem iW.append {R:D->V->List cZ->Prop}{es:List D}{vs:List V}{f g:List cZ}(h:iW R Y vs f)(s:iW R es us g):iW R (Y++es) (vs++us) (f++g):=by
 induction h with
 |nil=>exact s
 |cons h t ih=>rw[kQ];exact .cons h ih
theorem iW.length {R:D->V->List cZ->Prop}{vs:List V}(h:iW R Y vs fp):Y.length=vs.length:=by
 induction h with
 |nil=>rfl
 |cons _ t ih=>simp[ih]
theorem kE.nil {ns:List Str}{vs:List V}(h:∀es,(ns.zip Y).lookup ("puts":Str)≠Z (D.cel es)):kE K M F H ns Y vs []:=by
 unfold kE;split
 ·rename_i e;exact absurd e<|h _
 ·rfl
theorem kE.frame {ns:List Str}{vs:List V}(h:kE K M F H ns Y vs fb)(sF:d9 F F')(k:∀a∈fb,G a=H a/\F' a=S):kE K M F' G ns Y vs fb:=by
 unfold kE at h ⊢;split
 ·rename_i es e;rw[e]at h;obtain⟨b,us,h1,rfl,h3,h4,h5⟩:=h;obtain⟨k1,k2⟩:=k b cV;exact⟨b,us,h1,rfl,k2,k1.trans h4,h5.mono λ_ _ q=>q.mono sF⟩
 ·rename_i e;split at h
  ·rename_i es e';exact absurd e'<|e es
  ·exact h
theorem kE.cells {ns:List Str}{vs:List V}(h:kE K M F H ns Y vs fb):∀a∈fb,F a=S/\∃o,H a=Z o/\mh o:=by
 unfold kE at h;intro a z;split at h
 ·obtain⟨b,us,h1,rfl,h3,h4,h5⟩:=h;rw[dW]at z;subst z;exact⟨h3,_,h4,nofun⟩
 ·rw[h]at z;cases z
theorem Ow.frame (sF:d9 F F'):∀{d:D} {v:V} {fp:List cZ},Ow K M F H n d v fp->(∀a∈fp,G a=H a/\F' a=S)->Ow K M F' G n d v fp:=by
 induction n with
 |zero=>exactλh _=>⟨h.1.mono sF,h.2⟩
 |succ n ih=>
  intro d v fp h k;rcases h with h|h
  ·exact .inl ⟨h.1,h.2.1.mono sF,h.2.2⟩
  ·cases h with
   |lst hn h p=>exact .inr<|.lst (k _ cV).2 ((k _ cV).1.trans h)<|p.mono λ_ _ _ i q=>ih q λa z=>k a<|df _<|i a z
   |tup h p=>exact .inr<|.tup (sF _ _ h)<|p.mono λ_ _ _ i q=>ih q λa z=>k a<|i a z
   |dK hn h l p=>exact .inr<|.dK (k _ cV).2 ((k _ cV).1.trans h) l<|p.mono λ_ _ _ i q=>ih q λa z=>k a<|df _<|i a z
   |dT hn h l p=>exact .inr<|.dT (k _ cV).2 ((k _ cV).1.trans h) l<|p.mono λ_ _ _ i q=>ih q λa z=>k a<|df _<|i a z
   |obj hn h l c p=>exact .inr<|.obj (k _ cV).2 ((k _ cV).1.trans h) l (c.frame sF λa z=>k a<|df _<|dc _ z)<|p.mono λ_ _ _ i q=>ih q λa z=>k a<|df _<|c8 _<|i a z
theorem iW.cells0 {R:D->V->List cZ->Prop}(k:∀d v f,R d v f->∀a∈f,F a=S/\∃o,H a=Z o/\mh o){vs:List V}(h:iW R Y vs fp):∀a∈fp,F a=S/\∃o,H a=Z o/\mh o:=by
 induction h with
 |nil=>exactλa z=>by cases z
 |cons h t ih=>exactλa z=>(dD.mp z).elim (λz=>k _ _ _ h a z)<|ih a
theorem Ow.cells:∀{d:D} {v:V} {fp:List cZ},Ow K M F H n d v fp->∀a∈fp,F a=S/\∃o,H a=Z o/\mh o:=by
 induction n with
 |zero=>exactλh a z=>by rw[h.2]at z;cases z
 |succ n ih=>
  intro d v fp h a z;rcases h with h|h
  ·rw[h.2.2]at z;cases z
  ·cases h with
   |lst hn h p=>exact(dn.mp z).elim (λe=>by rw[e];exact⟨hn,_,h,nofun⟩)<|iW.cells0 (λd v f q=>ih q) p a
   |tup h p=>exact iW.cells0 (λd v f q=>ih q) p a z
   |dK hn h l p=>exact(dn.mp z).elim (λe=>by rw[e];exact⟨hn,_,h,nofun⟩)<|iW.cells0 (λd v f q=>ih q) p a
   |dT hn h l p=>exact(dn.mp z).elim (λe=>by rw[e];exact⟨hn,_,h,nofun⟩)<|iW.cells0 (λd v f q=>ih q) p a
   |obj hn h l c p=>exact(dn.mp z).elim (λe=>by rw[e];exact⟨hn,_,h,nofun⟩) λz=>(dD.mp z).elim (c.cells a)<|iW.cells0 (λd v f q=>ih q) p a
theorem Ow.ext {v:V}(h:Ow K M F H n d v fp)(e:iJ F H F' G):Ow K M F' G n d v fp :=
 h.frame e.ff λa z=>by obtain⟨hn,o,ho,nt⟩:=h.cells a z;exact⟨(e.hh _ _ ho).trans ho.symm,e.nf a o ho nt hn⟩
theorem Ow.al (s:d9 F H):∀{d:D} {v:V} {fp:List cZ},Ow K M F H n d v fp->Al K M F H n d v:=by
 induction n with
 |zero=>exactλh=>h.1
 |succ n ih=>
  intro d v fp h;rcases h with h|h
  ·exact .inl h.2.1
  ·cases h with
   |lst hn h p=>exact .inr<|.lst h<|p.pr λ_ _ _ _ q=>ih q
   |tup h p=>exact .inr<|.tup h<|p.pr λ_ _ _ _ q=>ih q
   |dK hn h l p=>exact .inr<|.dK h l<|p.pr λ_ _ _ _ q=>ih q
   |dT hn h l p=>exact .inr<|.dT (.inl h) l<|p.pr λ_ _ _ _ q=>ih q
   |obj hn h l c p=>exact .inr<|.obj h l<|p.pr λ_ _ _ _ q=>ih q
theorem Ow.dt (sF:d9 F F'):∀{d:D} {v:V} {fp:List cZ},Ow K M F H n d v fp->(∀a∈fp,F' a=H a)->Dt K M F' d v:=by
 induction n with
 |zero=>exactλh _=>h.1.mono sF
 |succ n ih=>
  intro d v fp h k;rcases h with h|h
  ·exact h.2.1.mono sF
  ·cases h with
   |lst hn h p=>exact .lst (i6.of<|(k _ cV).trans h)<|.of<|p.pr λ_ _ _ i q=>ih q λa z=>k a<|df _<|i a z
   |tup h p=>exact .tup (sF _ _ h)<|.of<|p.pr λ_ _ _ i q=>ih q λa z=>k a<|i a z
   |dK hn h l p=>exact .dK ((k _ cV).trans h) l<|.of<|p.pr λ_ _ _ i q=>ih q λa z=>k a<|df _<|i a z
   |dT hn h l p=>exact .dT (.inl<|(k _ cV).trans h) l<|.of<|p.pr λ_ _ _ i q=>ih q λa z=>k a<|df _<|i a z
   |obj hn h l c p=>exact .obj ((k _ cV).trans h) l<|.of<|p.pr λ_ _ _ i q=>ih q λa z=>k a<|df _<|c8 _<|i a z
def mr (F H:Hp)(fp:List cZ):Hp:=λa=>if a∈fp then H a else F a
theorem wd (s:d9 F H)(hf:∀a∈fp,F a=S):d9 F (mr F H fp)/\d9 (mr F H fp) H/\∀a∈fp,mr F H fp a=H a:=by
 refine⟨λa o h=>?_,λa o h=>?_,λa z=>if_pos z⟩
 ·have:¬a∈fp:=λz=>by rw[hf a z]at h;cases h
  unfold mr;rw[if_neg this];exact h
 ·unfold mr at h;by_cases z:a∈fp
  ·rw[if_pos z]at h;exact h
  ·rw[if_neg z]at h;exact s _ _ h
theorem Ow.freeze {v:V}{H0:Hp}(h:Ow K M F H n d v fp)(e:iJ F0 H0 F H)(hf:∀a∈fp,H0 a=S):∃F',iJ F0 H0 F' H/\Dt K M F' d v:=by
 obtain⟨w1,w2,w3⟩:=wd (fp:=fp) e.fh<|λa z=>(h.cells a z).1;refine⟨mr F H fp,⟨e.ff.trans w1,e.hh,w2,λa o ho nt hn=>?_⟩,h.dt w1 w3⟩;have:¬a∈fp:=λz=>by rw[hf a z]at ho;cases ho
 unfold mr;rw[if_neg this];exact e.nf a o ho nt hn
theorem Ow.zero {v:V}(h:Dt K M F d v):Ow K M F H 0 d v []:=⟨h,rfl⟩
theorem Ow.scal {v:V}(h:Dt K M F d v)(hs:d.sc=Â):Ow K M F H n d v []:=by
 cases n with
 |zero=>exact⟨h,rfl⟩
 |succ n=>exact .inl ⟨hs,h,rfl⟩
noncomputable abbrev Env:=List<|Option D
inductive Mo where
 |al (n:Nat)|ow (n:Nat)|px (v:V)|so (x:cZ)
noncomputable def Mo.lv:Mo->Nat
 |.al n=>n
 |.ow n=>n
 |.px _=>1
 |.so _=>1
section
variable (K:cX)(M:Nat->cZ)
class inductive SL (F B H:Hp):List Mo->Env->St->List cZ->Prop
 |nil:SL F B H [] [] [] []
 |no {m:Mo} {o:Option V} {L:List Mo} {O:Env} {U:St} {fp:List cZ}:SL F B H L O U fp->SL F B H (m::L) (S::O) (o::U) fp
 |al {n:Nat} {d:D} {v:V} {L:List Mo} {O:Env} {U:St} {fp:List cZ}:Al K M F B n d v->SL F B H L O U fp->SL F B H (.al n::L) (Z d::O) (Z v::U) fp
 |px {d:D} {v:V} {L:List Mo} {O:Env} {U:St} {fp:List cZ}:Al K M F B 1 d v->SL F B H L O U fp->SL F B H (.px v::L) (Z d::O) (Z v::U) fp
 |so {d:D} {x:cZ} {L:List Mo} {O:Env} {U:St} {f fp:List cZ}:Ow K M F H 1 d (.ref x) f->SL F B H L O U fp->SL F B H (.so x::L) (Z d::O) (Z (.ref x)::U) (f++fp)
 |ow {n:Nat} {d:D} {v:V} {L:List Mo} {O:Env} {U:St} {f fp:List cZ}:Ow K M F H n d v f->SL F B H L O U fp->SL F B H (.ow n::L) (Z d::O) (Z v::U) (f++fp)
structure RS (F0 B:Hp)(L:List Mo)(F H:Hp)(O:Env)(U:St):Prop where
 f0:d9 F0 F
 bh:d9 B H
 fh:d9 F H
 nf:∀a o,B a=Z o->mh o->F0 a=S->F a=S
 sl:∃fp,SL K M F B H L O U fp/\fp.Nodup/\∀a∈fp,B a=S
end
variable {k:Nat}{L:List Mo}{x0:cZ}{O:Env}{U:St}
theorem SL.cells (h:SL K M F B H L O U fp):∀a∈fp,F a=S/\∃o,H a=Z o/\mh o:=by
 induction h with
 |nil=>intro a z;cases z
 |no t ih=>exact ih
 |al _ t ih=>exact ih
 |px _ t ih=>exact ih
 |so h t ih=>exactλa z=>(dD.mp z).elim (h.cells a)<|ih a
 |ow h t ih=>exactλa z=>(dD.mp z).elim (h.cells a)<|ih a
theorem SL.frame (sF:d9 F F')(h:SL K M F B H L O U fp):(∀a∈fp,G a=H a/\F' a=S)->SL K M F' B G L O U fp:=by
 induction h with
 |nil=>exactλ_=>.nil
 |no t ih=>exactλk=>.no<|ih k
 |al h t ih=>exactλk=>.al (h.mono sF<|.refl _)<|ih k
 |px h t ih=>exactλk=>.px (h.mono sF<|.refl _)<|ih k
 |so h t ih=>exactλk=>.so (h.frame sF λa z=>k a<|dc _ z)<|ih λa z=>k a<|c8 _ z
 |ow h t ih=>exactλk=>.ow (h.frame sF λa z=>k a<|dc _ z)<|ih λa z=>k a<|c8 _ z
theorem RS.ext (r:RS K M F0 B L F H O U)(e:iJ F H F' G):RS K M F0 B L F' G O U:=by obtain⟨fp,s,nd,hb⟩:=r.sl;refine⟨r.f0.trans e.ff,r.bh.trans e.hh,e.fh,λa o h t n=>e.nf a o (r.bh _ _ h) t<|r.nf a o h t n,fp,s.frame e.ff λa z=>?_,nd,hb⟩;obtain⟨hn,o,ho,nt⟩:=s.cells a z;exact⟨(e.hh _ _ ho).trans ho.symm,e.nf a o ho nt hn⟩
theorem SL.get {m:Mo}(h:SL K M F B H L O U fp)(s:d9 F H)(s':d9 B H):L[i]?=Z m->O[i]?=Z (Z d)->∃v,U[i]?=Z (Z v)/\Al K M F H m.lv d v:=by
 induction h generalizing i with
 |nil=>intro e;simp at e
 |no t ih=>
  intro e e';cases i with
  |zero=>simp at e'
  |succ i=>simpa using ih (by simpa using e) (by simpa using e')
 |al h t ih=>
  intro e e';cases i with
  |zero=>simp at e e';subst e;subst e';exact⟨_,rfl,h.mono (.refl _) s'⟩
  |succ i=>simpa using ih (by simpa using e) (by simpa using e')
 |px h t ih=>
  intro e e';cases i with
  |zero=>simp at e e';subst e;subst e';exact⟨_,rfl,h.mono (.refl _) s'⟩
  |succ i=>simpa using ih (by simpa using e) (by simpa using e')
 |so h t ih=>
  intro e e';cases i with
  |zero=>simp at e e';subst e;subst e';exact⟨_,rfl,h.al s⟩
  |succ i=>simpa using ih (by simpa using e) (by simpa using e')
 |ow h t ih=>
  intro e e';cases i with
  |zero=>simp at e e';subst e;subst e';exact⟨_,rfl,h.al s⟩
  |succ i=>simpa using ih (by simpa using e) (by simpa using e')
theorem RS.get (r:RS K M F0 B L F H O U){m:Mo}(hm:L[i]?=Z m)(e:O[i]?=Z (Z d)):∃v,U[i]?=Z (Z v)/\Al K M F H m.lv d v:=by obtain⟨fp,s,_,_⟩:=r.sl;exact s.get r.fh r.bh hm e
theorem SL.put (h0:SL K M F B H L O U fp):L[i]?=Z (.ow k) ->
  ∃f1 fr:List cZ,(∀a∈f1,a∈fp)/\(∀a∈fr,a∈fp)/\(fp.Nodup->f1.Nodup/\fr.Nodup/\∀a∈f1,a∉fr)/\(∀d,O[i]?=Z (Z d)->∃v,U[i]?=Z (Z v)/\Ow K M F H k d v f1) /\
   ∀(F' G:Hp) (d':D) (v':V) (f':List cZ),d9 F F'->(∀a∈fr,G a=H a/\F' a=S)->Ow K M F' G k d' v' f' ->
    ∃iy,SL K M F' B G L (O.set i<|Z d') (U.set i<|Z v') iy/\(∀a∈iy,a∈f'\/a∈fr)/\(f'.Nodup->fr.Nodup->(∀a∈f',a∉fr)->iy.Nodup):=by
 induction h0 generalizing i with
 |nil=>intro e;simp at e
 |@no m0 o0 L O U fp t ih=>
  intro e;cases i with
  |zero=>simp at e;subst e;refine⟨[],fp,λa z=>(by cases z),λa z=>z,λn=>⟨d4,n,λa z=>(by cases z)⟩,λd q=>(by simp at q),λF' G d' v' f' s kf h=>⟨f'++fp,.ow h<|t.frame s kf,λa z=>dD.mp z,λn1 n2 dj=>?_⟩⟩;exact dm.mpr ⟨n1,n2,λa z b zb e=>dj a z<|e▸zb⟩
  |succ i=>obtain⟨f1,fr,h1,h2,h3,h4,h5⟩:=ih (i:=i) (by simpa using e);refine⟨f1,fr,h1,h2,h3,λd q=>by simpa using h4 d (by simpa using q),λF' G d' v' f' s kf h=>?_⟩;obtain⟨iy,q1,q2,q3⟩:=h5 F' G d' v' f' s kf h;exact⟨iy,.no q1,q2,q3⟩
 |@al n0 d0 v0 L O U fp h t ih=>
  intro e;cases i with
  |zero=>simp at e
  |succ i=>obtain⟨f1,fr,h1,h2,h3,h4,h5⟩:=ih (i:=i) (by simpa using e);refine⟨f1,fr,h1,h2,h3,λd q=>by simpa using h4 d (by simpa using q),λF' G d' v' f' s kf h'=>?_⟩;obtain⟨iy,q1,q2,q3⟩:=h5 F' G d' v' f' s kf h';exact⟨iy,.al (h.mono s<|.refl _) q1,q2,q3⟩
 |@px d0 v0 L O U fp h t ih=>
  intro e;cases i with
  |zero=>simp at e
  |succ i=>obtain⟨f1,fr,h1,h2,h3,h4,h5⟩:=ih (i:=i) (by simpa using e);refine⟨f1,fr,h1,h2,h3,λd q=>by simpa using h4 d (by simpa using q),λF' G d' v' f' s kf h'=>?_⟩;obtain⟨iy,q1,q2,q3⟩:=h5 F' G d' v' f' s kf h';exact⟨iy,.px (h.mono s<|.refl _) q1,q2,q3⟩
 |@so d0 x L O U f fp h t ih=>
  intro e;cases i with
  |zero=>simp at e
  |succ i=>
   obtain⟨f1,fr,h1,h2,h3,h4,h5⟩:=ih (i:=i) (by simpa using e);refine⟨f1,f++fr,λa z=>c8 _<|h1 a z,λa z=>(dD.mp z).elim (λz=>dc _ z) λz=>c8 _ (h2 a z),λn=>?_,λd q=>by simpa using h4 d (by simpa using q),λF' G d' v' f' s kf h'=>?_⟩
   ·obtain⟨n1,n2,n3⟩:=dm.mp n;obtain⟨m1,m2,m3⟩:=h3 n2;refine⟨m1,dm.mpr ⟨n1,m2,λa z b zb=>n3 a z b<|h2 b zb⟩,λa z zb=>?_⟩;rcases dD.mp zb with zb|zb
    ·exact n3 a zb a (h1 a z) rfl
    ·exact m3 a z zb
   ·obtain⟨iy,q1,q2,q3⟩:=h5 F' G d' v' f' s (λa z=>kf a<|c8 _ z) h';refine⟨f++iy,.so (h.frame s λa z=>kf a<|dc _ z) q1,λa z=>?_,λn1 n2 dj=>?_⟩
    ·rcases dD.mp z with z|z
     ·exact .inr<|dc _ z
     ·exact(q2 a z).imp id λz=>c8 _ z
    ·obtain⟨m1,m2,m3⟩:=dm.mp n2;refine dm.mpr ⟨m1,q3 n1 m2 λa z zb=>dj a z (c8 _ zb),λa z b zb e=>?_⟩;subst e;rcases q2 a zb with zb|zb
     ·exact dj a zb<|dc _ z
     ·exact m3 a z a zb rfl
 |@ow n0 d0 v0 L O U f fp h t ih=>
  intro e;cases i with
  |zero=>
   simp at e;subst e;refine⟨f,fp,λa z=>dc _ z,λa z=>c8 _ z,λn=>?_,λd q=>?_,λF' G d' v' f' s kf h=>⟨f'++fp,.ow h<|t.frame s kf,λa z=>dD.mp z,λn1 n2 dj=>?_⟩⟩
   ·obtain⟨n1,n2,n3⟩:=dm.mp n;exact⟨n1,n2,λa z zb=>n3 a z a zb rfl⟩
   ·simp at q;subst q;exact⟨_,rfl,h⟩
   ·exact dm.mpr ⟨n1,n2,λa z b zb e=>dj a z<|e▸zb⟩
  |succ i=>
   obtain⟨f1,fr,h1,h2,h3,h4,h5⟩:=ih (i:=i) (by simpa using e);refine⟨f1,f++fr,λa z=>c8 _<|h1 a z,λa z=>(dD.mp z).elim (λz=>dc _ z) λz=>c8 _ (h2 a z),λn=>?_,λd q=>by simpa using h4 d (by simpa using q),λF' G d' v' f' s kf h'=>?_⟩
   ·obtain⟨n1,n2,n3⟩:=dm.mp n;obtain⟨m1,m2,m3⟩:=h3 n2;refine⟨m1,dm.mpr ⟨n1,m2,λa z b zb=>n3 a z b<|h2 b zb⟩,λa z zb=>?_⟩;rcases dD.mp zb with zb|zb
    ·exact n3 a zb a (h1 a z) rfl
    ·exact m3 a z zb
   ·obtain⟨iy,q1,q2,q3⟩:=h5 F' G d' v' f' s (λa z=>kf a<|c8 _ z) h';refine⟨f++iy,.ow (h.frame s λa z=>kf a<|dc _ z) q1,λa z=>?_,λn1 n2 dj=>?_⟩
    ·rcases dD.mp z with z|z
     ·exact .inr<|dc _ z
     ·exact(q2 a z).imp id λz=>c8 _ z
    ·obtain⟨m1,m2,m3⟩:=dm.mp n2;refine dm.mpr ⟨m1,q3 n1 m2 λa z zb=>dj a z (c8 _ zb),λa z b zb e=>?_⟩;subst e;rcases q2 a zb with zb|zb
     ·exact dj a zb<|dc _ z
     ·exact m3 a z a zb rfl
theorem SL.putS {dd:D}(h0:SL K M F B H L O U fp):L[i]?=Z (.so x0)->O[i]?=Z (Z dd) ->
  ∃f1 fr:List cZ,(∀a∈f1,a∈fp)/\(∀a∈fr,a∈fp)/\(fp.Nodup->f1.Nodup/\fr.Nodup/\∀a∈f1,a∉fr)/\(U[i]?=Z (Z<|.ref x0)/\Ow K M F H 1 dd (.ref x0) f1) /\
   ∀(F' G:Hp) (d':D) (f':List cZ),d9 F F'->(∀a∈fr,G a=H a/\F' a=S)->Ow K M F' G 1 d' (.ref x0) f' ->
    ∃iy,SL K M F' B G L (O.set i<|Z d') U iy/\(∀a∈iy,a∈f'\/a∈fr)/\(f'.Nodup->fr.Nodup->(∀a∈f',a∉fr)->iy.Nodup):=by
 induction h0 generalizing i with
 |nil=>intro e e2;simp at e
 |@no m0 o0 L O U fp t ih=>
  intro e e2;cases i with
  |zero=>simp at e2
  |succ i=>obtain⟨f1,fr,h1,h2,h3,h4,h5⟩:=ih (i:=i) (by simpa using e) (by simpa using e2);refine⟨f1,fr,h1,h2,h3,by simpa using h4,λF' G d' f' s kf h=>?_⟩;obtain⟨iy,q1,q2,q3⟩:=h5 F' G d' f' s kf h;exact⟨iy,.no q1,q2,q3⟩
 |@al n0 d0 v0 L O U fp h t ih=>
  intro e e2;cases i with
  |zero=>simp at e
  |succ i=>obtain⟨f1,fr,h1,h2,h3,h4,h5⟩:=ih (i:=i) (by simpa using e) (by simpa using e2);refine⟨f1,fr,h1,h2,h3,by simpa using h4,λF' G d' f' s kf h'=>?_⟩;obtain⟨iy,q1,q2,q3⟩:=h5 F' G d' f' s kf h';exact⟨iy,.al (h.mono s<|.refl _) q1,q2,q3⟩
 |@px d0 v0 L O U fp h t ih=>
  intro e e2;cases i with
  |zero=>simp at e
  |succ i=>obtain⟨f1,fr,h1,h2,h3,h4,h5⟩:=ih (i:=i) (by simpa using e) (by simpa using e2);refine⟨f1,fr,h1,h2,h3,by simpa using h4,λF' G d' f' s kf h'=>?_⟩;obtain⟨iy,q1,q2,q3⟩:=h5 F' G d' f' s kf h';exact⟨iy,.px (h.mono s<|.refl _) q1,q2,q3⟩
 |@so d0 x L O U f fp h t ih=>
  intro e e2;cases i with
  |zero=>
   simp at e e2;subst e;subst e2;refine⟨f,fp,λa z=>dc _ z,λa z=>c8 _ z,λn=>?_,⟨rfl,h⟩,λF' G d' f' s kf h=>⟨f'++fp,.so h<|t.frame s kf,λa z=>dD.mp z,λn1 n2 dj=>?_⟩⟩
   ·obtain⟨n1,n2,n3⟩:=dm.mp n;exact⟨n1,n2,λa z zb=>n3 a z a zb rfl⟩
   ·exact dm.mpr ⟨n1,n2,λa z b zb e=>dj a z<|e▸zb⟩
  |succ i=>
   obtain⟨f1,fr,h1,h2,h3,h4,h5⟩:=ih (i:=i) (by simpa using e) (by simpa using e2);refine⟨f1,f++fr,λa z=>c8 _<|h1 a z,λa z=>(dD.mp z).elim (λz=>dc _ z) λz=>c8 _ (h2 a z),λn=>?_,by simpa using h4,λF' G d' f' s kf h'=>?_⟩
   ·obtain⟨n1,n2,n3⟩:=dm.mp n;obtain⟨m1,m2,m3⟩:=h3 n2;refine⟨m1,dm.mpr ⟨n1,m2,λa z b zb=>n3 a z b<|h2 b zb⟩,λa z zb=>?_⟩;rcases dD.mp zb with zb|zb
    ·exact n3 a zb a (h1 a z) rfl
    ·exact m3 a z zb
   ·obtain⟨iy,q1,q2,q3⟩:=h5 F' G d' f' s (λa z=>kf a<|c8 _ z) h';refine⟨f++iy,.so (h.frame s λa z=>kf a<|dc _ z) q1,λa z=>?_,λn1 n2 dj=>?_⟩
    ·rcases dD.mp z with z|z
     ·exact .inr<|dc _ z
     ·exact(q2 a z).imp id λz=>c8 _ z
    ·obtain⟨m1,m2,m3⟩:=dm.mp n2;refine dm.mpr ⟨m1,q3 n1 m2 λa z zb=>dj a z (c8 _ zb),λa z b zb e=>?_⟩;subst e;rcases q2 a zb with zb|zb
     ·exact dj a zb<|dc _ z
     ·exact m3 a z a zb rfl
 |@ow n0 d0 v0 L O U f fp h t ih=>
  intro e e2;cases i with
  |zero=>simp at e
  |succ i=>
   obtain⟨f1,fr,h1,h2,h3,h4,h5⟩:=ih (i:=i) (by simpa using e) (by simpa using e2);refine⟨f1,f++fr,λa z=>c8 _<|h1 a z,λa z=>(dD.mp z).elim (λz=>dc _ z) λz=>c8 _ (h2 a z),λn=>?_,by simpa using h4,λF' G d' f' s kf h'=>?_⟩
   ·obtain⟨n1,n2,n3⟩:=dm.mp n;obtain⟨m1,m2,m3⟩:=h3 n2;refine⟨m1,dm.mpr ⟨n1,m2,λa z b zb=>n3 a z b<|h2 b zb⟩,λa z zb=>?_⟩;rcases dD.mp zb with zb|zb
    ·exact n3 a zb a (h1 a z) rfl
    ·exact m3 a z zb
   ·obtain⟨iy,q1,q2,q3⟩:=h5 F' G d' f' s (λa z=>kf a<|c8 _ z) h';refine⟨f++iy,.ow (h.frame s λa z=>kf a<|dc _ z) q1,λa z=>?_,λn1 n2 dj=>?_⟩
    ·rcases dD.mp z with z|z
     ·exact .inr<|dc _ z
     ·exact(q2 a z).imp id λz=>c8 _ z
    ·obtain⟨m1,m2,m3⟩:=dm.mp n2;refine dm.mpr ⟨m1,q3 n1 m2 λa z zb=>dj a z (c8 _ zb),λa z b zb e=>?_⟩;subst e;rcases q2 a zb with zb|zb
     ·exact dj a zb<|dc _ z
     ·exact m3 a z a zb rfl
theorem RS.pin (rs:RS K M F0 B L F H O U)(hm:L[i]?=Z (.so x0))(hd:O[i]?=Z (Z d)):∃f,U[i]?=Z (Z<|.ref x0)/\Ow K M F H 1 d (.ref x0) f/\f.Nodup/\(∀a∈f,B a=S) /\
  ∀(F' G:Hp) (d':D) (f':List cZ),d9 F F'->(∀a o,H a=Z o->a∉f->G a=Z o)->d9 F' G->(∀a o,H a=Z o->a∉f->mh o->F a=S->F' a=S)->(∀a o,B a=Z o->mh o->F0 a=S->F' a=S)->Ow K M F' G 1 d' (.ref x0) f'->f'.Nodup->(∀a∈f',a∈f\/H a=S)->RS K M F0 B L F' G (O.set i<|Z d') U:=by
 obtain⟨fp,sl,nd,hb⟩:=rs.sl;obtain⟨f,fr,g1,g2,g3,⟨g4,g5⟩,g6⟩:=sl.putS hm hd;obtain⟨n1,n2,dj⟩:=g3 nd;have fB:∀a∈f,B a=S:=λa z=>hb a<|g1 a z;refine⟨f,g4,g5,n1,fB,λF' G d' f' s1 kH s3 kF nf o' D6 DV=>?_⟩;have wH:∀a∈f',a∉fr:=λa z zb=>(DV a z).elim (λz=>dj a z zb) λe=>by obtain⟨_,o,ho,_⟩:=sl.cells a<|g2 a zb;rw[e]at ho;cases ho
 obtain⟨iy,q1,q2,q3⟩:=g6 F' G d' f' s1 (λa z=>by obtain⟨hn,o,ho,nt⟩:=sl.cells a<|g2 a z;have na:a∉f:=λzf=>dj a zf z;exact⟨(kH a o ho na).trans ho.symm,kF a o ho na nt hn⟩) o';refine⟨rs.f0.trans s1,λa o h=>kH a o (rs.bh _ _ h) (λz=>by rw[fB a z]at h;cases h),s3,nf,iy,q1,q3 D6 n2 wH,λa z=>?_⟩;rcases q2 a z with z|z
 ·rcases DV a z with z|z
  ·exact fB a z
  ·exact rs.bh.free z
 ·exact hb a<|g2 a z
abbrev EF:=Env->Option D
class inductive nh (K:cX)(M:Nat->cZ)(F W':Hp):List Nat->List D->List V->Prop
 |nil:nh K M F W' [] [] []
 |cons {n:Nat} {d:D} {v:V} {ns:List Nat} {Y:List D} {vs:List V}:Al K M F W' n d v->nh K M F W' ns Y vs->nh K M F W' (n::ns) (d::Y) (v::vs)
variable {ns:List Nat}
theorem nh.mono (sF:d9 F F')(sG:d9 W' G'){vs:List V}(h:nh K M F W' ns Y vs):nh K M F' G' ns Y vs:=by
 induction h with
 |nil=>exact .nil
 |cons h t ih=>exact .cons (h.mono sF sG) ih
theorem nh.length {vs:List V}(h:nh K M F W' ns Y vs):vs.length=ns.length:=by
 induction h with
 |nil=>rfl
 |cons h t ih=>rw[dw,dw,ih]
theorem nh.length' {vs:List V}(h:nh K M F W' ns Y vs):Y.length=vs.length:=by
 induction h with
 |nil=>rfl
 |cons h t ih=>rw[dw,dw,ih]
theorem nh.append {wN:List Nat}{rZ:List D}{Hm:List V}(q:nh K M F W' wN rZ Hm){vs:List V}(h:nh K M F W' ns Y vs):nh K M F W' (ns++wN) (Y++rZ) (vs++Hm):=by
 induction h with
 |nil=>exact q
 |cons h t ih=>exact .cons h ih
section
variable (X:Cx)(M:Nat->cZ)(L:List Mo)
def XE (n:Nat)(e:Expr)(f:EF):Prop:=∃t,PE X e t/\∀(F0 B F H:Hp) (O:Env) (U:St) (d:D) (Q:VK),RS X.K M F0 B L F H O U->f O=Z d ->
 (∀v F' G,iJ F H F' G->Al X.K M F' G n d v->Q v G)->t U H Q
def XO (k:Nat)(e:Expr)(f:EF):Prop:=∃t,PE X e t/\∀(F0 B F H:Hp) (O:Env) (U:St) (d:D) (Q:VK),RS X.K M F0 B L F H O U->f O=Z d ->
 (∀v F' G fp,iJ F H F' G->Ow X.K M F' G k d v fp->fp.Nodup->(∀a∈fp,H a=S)->Q v G)->t U H Q
def XT (e:Expr)(f:Env->Option Bool):Prop:=∃t,PT X e t/\∀(F0 B F H:Hp) (O:Env) (U:St) (b:Bool) (Q:Bool->Hp->Prop),RS X.K M F0 B L F H O U->f O=Z b ->
 (∀F' G,iJ F H F' G->Q b G)->t U H Q
def XW (e:Expr)(f:Env->Option Bool):Prop:=∃t,PW X e t/\∀(F0 B F H:Hp) (O:Env) (U:St) (b:Bool) (Q:Bool->Hp->Prop),RS X.K M F0 B L F H O U->f O=Z b ->
 (∀F' G,iJ F H F' G->Q b G)->t U H Q
def XA (es:List Expr)(ns:List Nat)(f:Env->Option (List D)):Prop:=∃t,PA X es t/\(∀O Y,f O=Z Y->Y.length=es.length)/\∀(F0 B F H:Hp) (O:Env) (U:St) (Y:List D) (Q:List V->Hp->Prop),RS X.K M F0 B L F H O U->f O=Z Y ->
 (∀vs F' G,iJ F H F' G->nh X.K M F' G ns Y vs->Q vs G)->t U H Q
end
def e2 (op:D->D->Option D)(f g:EF):EF:=λO=>(f O).bind λx=>(g O).bind λy=>op x y
def e1 (op:D->Option D)(f:EF):EF:=λO=>(f O).bind op
def eN (op:List D->Option D)(f:Env->Option (List D)):EF:=λO=>(f O).bind op
def eC (d:D):EF:=λ_=>Z d
def J (i:Nat):EF:=λO=>(O[i]?).join
def Å:Env->Option (List D):=λ_=>Z []
def Ä (f:EF)(g:Env->Option (List D)):Env->Option (List D):=λO=>(f O).bind λx=>(g O).bind λxs=>Z (x::xs)
variable {α β:Type}
theorem fE {γ:Type}{o:Option α}{p:Option β}{op:α->β->Option γ}{r:γ}(h:(o.bind λx=>p.bind λy=>op x y)=Z r):∃x y,o=Z x/\p=Z y/\op x y=Z r:=by
 cases o with
 |none=>cases h
 |some x=>
  cases p with
  |none=>cases h
  |some y=>exact⟨x,y,rfl,rfl,h⟩
theorem dh {o:Option α}{op:α->Option β}{r:β}(h:o.bind op=Z r):∃x,o=Z x/\op x=Z r:=by
 cases o with
 |none=>cases h
 |some x=>exact⟨x,rfl,h⟩
theorem zq {o:Option (Option α)}{x:α}(h:o.join=Z x):o=Z (Z x):=by
 cases o with
 |none=>cases h
 |some y=>exact congrArg Z h
def sK (K:cX)(M:Nat->cZ)(n m k:Nat)(r:R2)(op:D->D->Option D):Prop :=
 ∀(F H:Hp) (x y:V) (d1 d2 d:D) (Q:VK),d9 F H->Al K M F H n d1 x->Al K M F H m d2 y->op d1 d2=Z d->(∀v F' G,iJ F H F' G->Al K M F' G k d v->Q v G)->r x y H Q
def HK (K:cX)(M:Nat->cZ)(n m k:Nat)(r:R2)(op:D->D->Option D):Prop :=
 ∀(F H:Hp) (x y:V) (d1 d2 d:D) (Q:VK),d9 F H->Al K M F H n d1 x->Al K M F H m d2 y->op d1 d2=Z d ->
  (∀v F' G fp,iJ F H F' G->Ow K M F' G k d v fp->fp.Nodup->(∀a∈fp,H a=S)->Q v G)->r x y H Q
def Dh (K:cX)(M:Nat->cZ)(ns:List Nat)(k:Nat)(r:List V->Hp->VK->Prop)(op:List D->Option D):Prop :=
 ∀(F H:Hp) (vs:List V) (Y:List D) (d:D) (Q:VK),d9 F H->nh K M F H ns Y vs->op Y=Z d->(∀v F' G,iJ F H F' G->Al K M F' G k d v->Q v G)->r vs H Q
def DE (K:cX)(M:Nat->cZ)(ns:List Nat)(k:Nat)(r:List V->Hp->VK->Prop)(op:List D->Option D):Prop :=
 ∀(F H:Hp) (vs:List V) (Y:List D) (d:D) (Q:VK),d9 F H->nh K M F H ns Y vs->op Y=Z d ->
  (∀v F' G fp,iJ F H F' G->Ow K M F' G k d v fp->fp.Nodup->(∀a∈fp,H a=S)->Q v G)->r vs H Q
variable {X:Cx}{a b c e:Expr}{es:List Expr}{f g h:EF}{fs:Env->Option (List D)}{m:Nat}{op:qZ}{pos:my}{r:R2}
theorem XE.up (he:XE X M L n e f)(hk:n<=k):XE X M L k e f:=by obtain⟨t,p,q⟩:=he;exact⟨t,p,λF0 B F H O U d Q r e w=>q F0 B F H O U d Q r e λv F' G x l=>w v F' G x<|l.up hk⟩
theorem XO.sh (he:XO X M L k e f):XE X M L n e f:=by obtain⟨t,p,q⟩:=he;refine⟨t,p,λF0 B F H O U d Q r e w=>q F0 B F H O U d Q r e λv F' G fp x o nd hf=>?_⟩;obtain⟨F2,x2,h2⟩:=o.freeze x hf;exact w v F2 G x2<|Al.of h2
theorem XE.ow (he:XE X M L 0 e f):XO X M L 0 e f:=by obtain⟨t,p,q⟩:=he;exact⟨t,p,λF0 B F H O U d Q r e w=>q F0 B F H O U d Q r e λv F' G x l=>w v F' G [] x ⟨l,rfl⟩ d4 λa z=>(by cases z)⟩
theorem zt (i n:Nat){m:Mo}(hm:L[i]?=Z m:=by rfl)(hl:m.lv=n:=by rfl)(hN:X.N[i]?=Z x:=by rfl)(hv:pN X.env.scope x:=by walk_at "v1")(hd:iM x:=by decide)
  (iY:qD x:=by decide):XE X M L n (.Name x pos) (J i):=by
 subst hl;refine⟨_,yb hN hv hd iY,λF0 B F H O U d Q r e w=>?_⟩;obtain⟨v,hv,l⟩:=r.get hm<|zq e;exact⟨v,hv,w v F H (.refl r.fh) l⟩
theorem ŧ {i:Int}{j}:XE X M L n (.Constant (.int i) j pos) (eC<|.int i):=⟨_,Κ,λF0 B F H O U d Q r e w=>by cases e;exact w _ F H (.refl r.fh)<|Al.of<|.int i⟩
theorem xo {i:Bool}{j}:XE X M L n (.Constant (.bool i) j pos) (eC<|.bl i):=⟨_,ŝ,λF0 B F H O U d Q r e w=>by cases e;exact w _ F H (.refl r.fh)<|Al.of<|.bl i⟩
theorem zh {i:Str}{j}:XE X M L n (.Constant (.str i) j pos) (eC<|.str i):=⟨_,Θ,λF0 B F H O U d Q r e w=>by cases e;exact w _ F H (.refl r.fh)<|Al.of<|.str i⟩
theorem Ŧ {j}:XE X M L n (.Constant .none j pos) (eC .non):=⟨_,Ι,λF0 B F H O U d Q r e w=>by cases e;exact w _ F H (.refl r.fh)<|Al.of .non⟩
theorem XE.bin (ha:XE X M L n a f)(hb:XE X M L m b g):∃ta tb,PE X a ta/\PE X b tb/\∀(F0 B F H:Hp) (O:Env) (U:St) (d1 d2:D) (R:V->V->Hp->Prop),RS X.K M F0 B L F H O U->f O=Z d1->g O=Z d2 ->
  (∀x y F' G,iJ F H F' G->Al X.K M F' G n d1 x->Al X.K M F' G m d2 y->R x y G)->ta U H λx H1=>tb U H1 λy H2=>R x y H2:=by
 obtain⟨ta,pa,qa⟩:=ha;obtain⟨tb,pb,qb⟩:=hb;refine⟨ta,tb,pa,pb,λF0 B F H O U d1 d2 R r e1 e2 w=>qa F0 B F H O U d1 _ r e1 λx F1 H1 x1 l1=>?_⟩;exact qb F0 B F1 H1 O U d2 _ (r.ext x1) e2 λy F2 H2 x2 l2=>w x y F2 H2 (x1.trans x2) (l1.mono x2.ff x2.hh) l2
theorem Ex {o:D->D->Option D}(ho:lI X (iu op) r)(hs:sK X.K M n m k r o)(ha:XE X M L n a f)(hb:XE X M L m b g):XE X M L k (.BinOp a op b pos) (e2 o f g):=by obtain⟨ta,tb,pa,pb,q⟩:=ha.bin hb;refine⟨_,O4 ho pa pb,λF0 B F H O U d Q rs e w=>?_⟩;obtain⟨d1,d2,h1,h2,h3⟩:=fE e;exact q F0 B F H O U d1 d2 _ rs h1 h2 λx y F' G x1 l1 l2=>hs F' G x y d1 d2 d Q x1.fh l1 l2 h3 λv F2 H2 x2 l=>w v F2 H2 (x1.trans x2) l
theorem Dy {o:D->D->Option D}(ho:lI X (iu op) r)(hs:HK X.K M n m k r o)(ha:XE X M L n a f)(hb:XE X M L m b g):XO X M L k (.BinOp a op b pos) (e2 o f g):=by obtain⟨ta,tb,pa,pb,q⟩:=ha.bin hb;refine⟨_,O4 ho pa pb,λF0 B F H O U d Q rs e w=>?_⟩;obtain⟨d1,d2,h1,h2,h3⟩:=fE e;exact q F0 B F H O U d1 d2 _ rs h1 h2 λx y F' G x1 l1 l2=>hs F' G x y d1 d2 d Q x1.fh l1 l2 h3 λv F2 H2 fp x2 l nd hf=>w v F2 H2 fp (x1.trans x2) l nd λz hz=>x1.hh.free<|hf z hz
theorem Ht {op:Bq}{o:D->D->Option D}(ho:lI X (e9 op) r)(hs:sK X.K M n m k r o)(ha:XE X M L n a f)(hb:XE X M L m b g)(hm:gh op b=Ã):XE X M L k (.Compare a [op] [b] pos) (e2 o f g):=by obtain⟨ta,tb,pa,pb,q⟩:=ha.bin hb;refine⟨_,R0 ho pa pb hm,λF0 B F H O U d Q rs e w=>?_⟩;obtain⟨d1,d2,h1,h2,h3⟩:=fE e;exact q F0 B F H O U d1 d2 _ rs h1 h2 λx y F' G x1 l1 l2=>hs F' G x y d1 d2 d Q x1.fh l1 l2 h3 λv F2 H2 x2 l=>w v F2 H2 (x1.trans x2) l
theorem Lx {o:D->D->Option D}(hr:Dg X r)(hs:sK X.K M n m k r o)(ha:XE X M L n a f)(hb:XE X M L m b g)(hp:qE b):XE X M L k (.Subscript a b pos) (e2 o f g):=by obtain⟨ta,tb,pa,pb,q⟩:=ha.bin hb;refine⟨_,Tn hr pa pb hp,λF0 B F H O U d Q rs e w=>?_⟩;obtain⟨d1,d2,h1,h2,h3⟩:=fE e;exact q F0 B F H O U d1 d2 _ rs h1 h2 λx y F' G x1 l1 l2=>hs F' G x y d1 d2 d Q x1.fh l1 l2 h3 λv F2 H2 x2 l=>w v F2 H2 (x1.trans x2) l
theorem ń {op:UnaryOp}{r:V->Hp->VK->Prop}{o:D->Option D}(ho:JT X (unaryOp op) r)
  (hs:∀(F H:Hp) (x:V) (d1 d:D) (Q:VK),d9 F H->Al X.K M F H n d1 x->o d1=Z d->(∀v F' G,iJ F H F' G->Al X.K M F' G k d v->Q v G)->r x H Q) (ha:XE X M L n a f):XE X M L k (.UnaryOp op a pos) (e1 o f):=by
 obtain⟨ta,pa,qa⟩:=ha;refine⟨_,ś ho pa,λF0 B F H O U d Q rs e w=>?_⟩;obtain⟨d1,h1,h2⟩:=dh e;exact qa F0 B F H O U d1 _ rs h1 λx F' G x1 l1=>hs F' G x d1 d Q x1.fh l1 h2 λv F2 H2 x2 l=>w v F2 H2 (x1.trans x2) l
theorem zj:XA X M L [] [] Å:=⟨_,yz,λO Y e=>(by cases e;rfl),λF0 B F H O U Y Q r e w=>by cases e;exact w [] F H (.refl r.fh) .nil⟩
theorem zc (ha:XE X M L n a f)(hr:XA X M L es ns fs)(hs:SE X a es:=by rfl):XA X M L (a::es) (n::ns) (Ä f fs):=by obtain⟨ta,pa,qa⟩:=ha;obtain⟨tb,pb,lb,qb⟩:=hr;refine⟨_,ya pa pb hs,λO Y e=>(by obtain⟨x,xs,h1,h2,h3⟩:=fE e;cases h3;rw[dw,dw,lb _ _ h2]),λF0 B F H O U Y Q r e w=>?_⟩;obtain⟨x,xs,h1,h2,h3⟩:=fE e;cases h3;refine qa F0 B F H O U x _ r h1 λv F1 H1 x1 l1=>?_;exact qb F0 B F1 H1 O U xs _ (r.ext x1) h2 λvs F2 H2 x2 l2=>w (v::vs) F2 H2 (x1.trans x2)<|.cons (l1.mono x2.ff x2.hh) l2
def HP (X:Cx)(M:Nat->cZ)(L:List Mo)(k:Nat)(es:List Expr)(f:Env->Option (List D)):Prop:=∃t,PA X es t/\(∀O Y,f O=Z Y->Y.length=es.length)/\∀(F0 B F H:Hp) (O:Env) (U:St) (Y:List D) (Q:List V->Hp->Prop),RS X.K M F0 B L F H O U->f O=Z Y ->
 (∀vs F' G fp,iJ F H F' G->iW (Ow X.K M F' G k) Y vs fp->fp.Nodup->(∀a∈fp,H a=S)->Q vs G)->t U H Q
theorem zl:HP X M L k [] Å:=⟨_,yz,λO Y e=>(by cases e;rfl),λF0 B F H O U Y Q r e w=>by cases e;exact w [] F H [] (.refl r.fh) .nil d4 λa z=>(by cases z)⟩
theorem za (ha:XO X M L k a f)(hr:HP X M L k es fs)(hs:SE X a es:=by rfl):HP X M L k (a::es) (Ä f fs):=by
 obtain⟨ta,pa,qa⟩:=ha;obtain⟨tb,pb,lb,qb⟩:=hr;refine⟨_,ya pa pb hs,λO Y e=>(by obtain⟨x,xs,h1,h2,h3⟩:=fE e;cases h3;rw[dw,dw,lb _ _ h2]),λF0 B F H O U Y Q r e w=>?_⟩;obtain⟨x,xs,h1,h2,h3⟩:=fE e;cases h3;refine qa F0 B F H O U x _ r h1 λv F1 H1 f1 x1 l1 n1 a1=>?_;refine qb F0 B F1 H1 O U xs _ (r.ext x1) h2 λvs F2 H2 f2 x2 l2 n2 a2=>w (v::vs) F2 H2 (f1++f2) (x1.trans x2) (.cons (l1.ext x2) l2) (dm.mpr ⟨n1,n2,λz hz y hy e=>?_⟩) λz hz=>?_
 ·subst e;obtain⟨_,o,ho,_⟩:=l1.cells z hz;rw[a2 z hy]at ho;cases ho
 ·rcases dD.mp hz with hz|hz
  ·exact a1 z hz
  ·exact x1.hh.free<|a2 z hz
def DM:D->Option Bool
 |.bl b=>Z b
 |_=>S
theorem wy {b:Bool}(h:DM d=Z b):d=.bl b:=by cases d<;>simp[DM]at h;subst h;rfl
abbrev BF:=Env->Option Bool
def tb (f:EF):BF:=λO=>(f O).bind DM
def Ô (f:BF):BF:=λO=>(f O).bind λb=>Z<|!b
def Ù (f g:BF):BF:=λO=>(f O).bind λb=>if b=Â then g O else Z Ã
def ä (f g:BF):BF:=λO=>(f O).bind λb=>if b=Â then Z Â else g O
def eB (f:BF):EF:=λO=>(f O).bind λb=>Z<|.bl b
def ø (c:BF)(f g:EF):EF:=λO=>(c O).bind λb=>if b=Â then f O else g O
variable {fG pp:my}{c0 kk rk:Nat}{cs nd pm:List Nat}{lY:List D}{sd:List cU}{i9:List V}{fa:cZ}{mf:List D->Option D}{o:Expr}{p q:BF}{pl:Cd Bool}{ps:List Str}
section
theorem y0 (he:XE X M L n e f)(hi:∀whole,vC e X.env whole=(do let v ← whole;ij e.pos;fH [v] (truthy v)):=by intro _;rfl):XT X M L e (tb f):=by obtain⟨t,pt,qt⟩:=he;refine⟨_,ON pt hi,λF0 B F H O U b Q r e w=>?_⟩;obtain⟨d,h1,h2⟩:=dh e;rw[wy h2]at h1;exact qt F0 B F H O U _ _ r h1 λv F' G x l=>⟨b,l.bl,w F' G x⟩
theorem we {op:Bq}{o:D->D->Option D}(ho:lI X (e9 op) r)(hs:sK X.K M n m k r o)(ha:XE X M L n a f)(hb:XE X M L m b g)(hm:gh op b=Ã):XT X M L (.Compare a [op] [b] pos) (tb<|e2 o f g):=by obtain⟨ta,tb,pa,pb,q⟩:=ha.bin hb;refine⟨_,R1 ho pa pb hm,λF0 B F H O U b Q rs e w=>?_⟩;obtain⟨d,h0,h4⟩:=dh e;rw[wy h4]at h0;obtain⟨d1,d2,h1,h2,h3⟩:=fE h0;exact q F0 B F H O U d1 d2 _ rs h1 h2 λx y F' G x1 l1 l2=>hs F' G x y d1 d2 _ _ x1.fh l1 l2 h3 λv F2 H2 x2 l=>⟨b,l.bl,w F2 H2<|x1.trans x2⟩
theorem XW.t (h:XW X M L e p):XT X M L e p:=by obtain⟨t,pt,qt⟩:=h;exact⟨t,pt.pt,qt⟩
theorem OD (ha:XT X M L a p):XW X M L (.BoolOp .And [a] pos) p:=by obtain⟨t,pt,qt⟩:=ha;exact⟨t,zqr pt,qt⟩
theorem ub (ha:XT X M L a p):XW X M L (.BoolOp .Or [a] pos) p:=by obtain⟨t,pt,qt⟩:=ha;exact⟨t,SX pt,qt⟩
theorem OO {Ê:List Expr}(ha:XT X M L a p)(hb:XW X M L (.BoolOp .And (b::Ê) pos) q):XW X M L (.BoolOp .And (a::b::Ê) pos) (Ù p q):=by
 obtain⟨t,pt,qt⟩:=ha;obtain⟨u,pu,qu⟩:=hb;refine⟨_,Η pt pu,λF0 B F H O U r Q rs e w=>?_⟩;obtain⟨x,h1,h2⟩:=dh e;refine qt F0 B F H O U x _ rs h1 λF1 H1 x1=>?_;cases x with
 |true=>rw[if_pos rfl];exact qu F0 B F1 H1 O U r _ (rs.ext x1) h2 λF2 H2 x2=>w F2 H2<|x1.trans x2
 |false=>cases h2;rw[if_neg di];exact w F1 H1 x1
theorem jt {Ê:List Expr}(ha:XT X M L a p)(hb:XW X M L (.BoolOp .Or (b::Ê) pos) q):XW X M L (.BoolOp .Or (a::b::Ê) pos) (ä p q):=by
 obtain⟨t,pt,qt⟩:=ha;obtain⟨u,pu,qu⟩:=hb;refine⟨_,To pt pu,λF0 B F H O U r Q rs e w=>?_⟩;obtain⟨x,h1,h2⟩:=dh e;refine qt F0 B F H O U x _ rs h1 λF1 H1 x1=>?_;cases x with
 |true=>cases h2;rw[if_pos rfl];exact w F1 H1 x1
 |false=>rw[if_neg di];exact qu F0 B F1 H1 O U r _ (rs.ext x1) h2 λF2 H2 x2=>w F2 H2<|x1.trans x2
theorem wg (ha:XT X M L a p):XT X M L (.UnaryOp .Not a pos) (Ô p):=by obtain⟨t,pt,qt⟩:=ha;refine⟨_,SY pt,λF0 B F H O U r Q rs e w=>?_⟩;obtain⟨x,h1,h2⟩:=dh e;cases h2;exact qt F0 B F H O U x _ rs h1 λF1 H1 x1=>w F1 H1 x1
theorem uc {op}(ha:XE X M L n a f):XE X M L k (.BoolOp op [a] pos) (eB<|tb f):=by obtain⟨t,pt,qt⟩:=ha;refine⟨_,S0 pt,λF0 B F H O U r Q rs e w=>?_⟩;obtain⟨y,h3,h4⟩:=dh e;obtain⟨z,h5,h6⟩:=dh h3;cases h4;rw[wy h6]at h5;exact qt F0 B F H O U _ _ rs h5 λv F1 H1 x1 l=>w _ F1 H1 x1 (by rw[l.bl];exact Al.of<|.bl _)
theorem um {Ê:List Expr}(ha:XE X M L n a f)(hb:XE X M L k (.BoolOp .And (b::Ê) pos)<|eB q):XE X M L k (.BoolOp .And (a::b::Ê) pos) (eB<|Ù (tb f) q):=by
 obtain⟨t,pt,qt⟩:=ha;obtain⟨u,pu,qu⟩:=hb;refine⟨_,S1 pt pu,λF0 B F H O U r Q rs e w=>?_⟩;obtain⟨y,h3,h4⟩:=dh e;obtain⟨x,h1,h2⟩:=dh h3;obtain⟨z,h5,h6⟩:=dh h1;cases h4;rw[wy h6]at h5;refine qt F0 B F H O U _ _ rs h5 λv F1 H1 x1 l=>⟨x,l.bl,?_⟩;cases x with
 |true=>rw[if_pos rfl];exact qu F0 B F1 H1 O U _ _ (rs.ext x1) (show(q O).bind _=_ by rw[if_pos rfl]at h2;rw[h2];rfl) λv F2 H2 x2 l=>w v F2 H2 (x1.trans x2) l
 |false=>rw[if_neg di]at h2 ⊢;cases h2;exact w _ F1 H1 x1<|Al.of<|.bl _
theorem O5 {Ê:List Expr}(ha:XE X M L n a f)(hb:XE X M L k (.BoolOp .Or (b::Ê) pos)<|eB q):XE X M L k (.BoolOp .Or (a::b::Ê) pos) (eB<|ä (tb f) q):=by
 obtain⟨t,pt,qt⟩:=ha;obtain⟨u,pu,qu⟩:=hb;refine⟨_,Ŝ pt pu,λF0 B F H O U r Q rs e w=>?_⟩;obtain⟨y,h3,h4⟩:=dh e;obtain⟨x,h1,h2⟩:=dh h3;obtain⟨z,h5,h6⟩:=dh h1;cases h4;rw[wy h6]at h5;refine qt F0 B F H O U _ _ rs h5 λv F1 H1 x1 l=>⟨x,l.bl,?_⟩;cases x with
 |true=>rw[if_pos rfl]at h2 ⊢;cases h2;exact w _ F1 H1 x1<|Al.of<|.bl _
 |false=>rw[if_neg di];exact qu F0 B F1 H1 O U _ _ (rs.ext x1) (show(q O).bind _=_ by rw[if_neg di]at h2;rw[h2];rfl) λv F2 H2 x2 l=>w v F2 H2 (x1.trans x2) l
theorem GQ (hc:XT X M L c p)(ha:XE X M L k a f)(hb:XE X M L k b g):XE X M L k (.IfExp c a b pos) (ø p f g):=by
 obtain⟨s,ps,qs⟩:=hc;obtain⟨t,pt,qt⟩:=ha;obtain⟨u,pu,qu⟩:=hb;refine⟨_,ZE ps pt pu,λF0 B F H O U r Q rs e w=>?_⟩;obtain⟨x,h1,h2⟩:=dh e;refine qs F0 B F H O U x _ rs h1 λF1 H1 x1=>?_;cases x with
 |true=>rw[if_pos rfl]at h2 ⊢;exact qt F0 B F1 H1 O U _ _ (rs.ext x1) h2 λv F2 H2 x2 l=>w v F2 H2 (x1.trans x2) l
 |false=>rw[if_neg di]at h2 ⊢;exact qu F0 B F1 H1 O U _ _ (rs.ext x1) h2 λv F2 H2 x2 l=>w v F2 H2 (x1.trans x2) l
theorem zu {x1}(h:HP X M L k es fs)(hl:es.length<=1000:=by decide):XO X M L (k+1) (.Tuple es x1 pos) (λO=>(fs O).bind λY=>Z<|.tup Y):=by
 obtain⟨t,pt,lt,qt⟩:=h;refine⟨_,SO pt,λF0 B F H O U r Q rs e w=>?_⟩;obtain⟨Y,h1,h2⟩:=dh e;cases h2;refine qt F0 B F H O U Y _ rs h1 λvs F1 H1 fp x1 l nd hf=>⟨?_,λp hp=>?_⟩
 ·rw[←l.length,lt _ _ h1];exact ò hl
 ·have x2:=iJ.newS x1.fh hp<|.tup vs;exact w _ _ _ fp (x1.trans x2) (.inr<|.tup zo<|l.mono λ_ _ _ _ o=>o.ext x2) nd hf
theorem iW.cellsOf {vs:List V}(l:iW (Ow K M F H k) Y vs fp):∀a∈fp,F a=S/\∃o,H a=Z o/\mh o:=iW.cells0 (λd v f q=>Ow.cells q) l
theorem R6 {vs:List V}{p:cZ}(s:d9 F H)(l:iW (Ow K M F H k) Y vs fp)(hp:H p=S):Ow K M F (upd H p<|.lst vs) (k+1) (.lst Y) (.ref p) (p::fp)/\(fp.Nodup->(p::fp).Nodup) :=
 ⟨.inr<|.lst (s.free hp) zo<|l.mono λ_ _ _ _ o=>o.ext<|iJ.newO s hp _,λnd=>eJ.mpr ⟨λz=>(by obtain⟨_,o,ho,_⟩:=iW.cellsOf l p z;rw[hp]at ho;cases ho),nd⟩⟩
theorem zw (h:HP X M L k es fs)(hl:es.length<=1000:=by decide):XO X M L (k+1) (.List es pos) (λO=>(fs O).bind λY=>Z<|.lst Y):=by
 obtain⟨t,pt,lt,qt⟩:=h;refine⟨_,ώ pt,λF0 B F H O U r Q rs e w=>?_⟩;obtain⟨Y,h1,h2⟩:=dh e;cases h2;refine qt F0 B F H O U Y _ rs h1 λvs F1 H1 fp x1 l nd hf=>⟨?_,λp hp=>?_⟩
 ·rw[←l.length,lt _ _ h1];exact ò hl
 ·obtain⟨o,n2⟩:=R6 x1.fh l hp;refine w _ _ _ (p::fp) (x1.trans<|iJ.newO x1.fh hp _) o (n2 nd) λz hz=>?_;rcases dn.mp hz with rfl|hz
  ·exact x1.hh.free hp
  ·exact hf z hz
theorem KP:XO X M L (k+1) (.Dict [] [] pos) (eC<|.dK [] []):=by refine⟨_,Zt,λF0 B F H O U r Q rs e w p hp=>?_⟩;cases e;refine w _ F _ [p] (iJ.newO rs.fh hp _) (.inr<|Aj.dK (vs:=[]) (rs.fh.free hp) zo rfl .nil) (by simp) λz hz=>?_;rw[dW]at hz;subst hz;exact hp
theorem Z4:XO X M L (k+1) (.Dict [] [] pos) (eC<|.dT [] []):=by refine⟨_,Zu,λF0 B F H O U r Q rs e w p hp=>?_⟩;cases e;refine w _ F _ [p] (iJ.newO rs.fh hp _) (.inr<|Aj.dT (vs:=[]) (rs.fh.free hp) zo rfl .nil) (by simp) λz hz=>?_;rw[dW]at hz;subst hz;exact hp
def iP (K:cX)(M:Nat->cZ)(pm:List Nat)(rk:Nat)(m:List D->Option D):Sp:=λvs H Q _=>∃(F:Hp) (Y:List D) (d:D),d9 F H/\nh K M F H pm Y vs/\m Y=Z d /\
 ∀v F' G fp,iJ F H F' G->Ow K M F' G rk d v fp->fp.Nodup->(∀a∈fp,H a=S)->Q v G
theorem iP.len {m:List D->Option D}(h:pm.length=ps.length):∀vs H Q E,iP K M pm rk m vs H Q E->vs.length=ps.length:=by rintro vs H Q E ⟨F,Y,d,_,l,_⟩;rw[l.length,h]
variable {fd:c9}
theorem R7 (Fn:dR X.prog X.w X.K X.mg X.base fL kk fa fd ps<|iP X.K M (ns++nd) rk mf)(hr:fw kk X.A)(hg:Gl X x)(hm:X.mg x=Z (.ref fa))(hk:dQ X.K (.ref fa)=Â)
  (hb:fK X.K fd ps sd) (hd:eh i9 sd) (Cu:∀F W',nh X.K M F W' nd lY i9) (ha:XA X M L (e::es) ns fs)
  (jS:iM x:=by decide) (he:SE X e es:=by rfl) (iD:lV X pos es:=by rfl) :
  XO X M L rk (.Call (.Name x pp) (e::es) [] pos) (λO=>(fs O).bind λY=>mf<|Y++lY):=by
 obtain⟨t,pt,_,qt⟩:=ha;refine⟨_,Oy Fn hr hg hm hk hb hd oF pt jS he iD,λF0 B F H O U r Q rs e w=>?_⟩;obtain⟨Y,h1,h2⟩:=dh e;refine qt F0 B F H O U Y _ rs h1 λvs F1 H1 x1 l=>⟨F1,Y++lY,r,x1.fh,nh.append (Cu F1 H1) l,h2,λv F2 H2 fp x2 o nd hf=>?_⟩;exact w v F2 H2 fp (x1.trans x2) o nd λz hz=>x1.hh.free<|hf z hz
theorem xq {id:String}{r:List V->Hp->VK->Prop}{op:List D->Option D}(hc:iL X (.builtin id) r)(hs:Dh X.K M ns k r op)(hg:Gl X x)(hm:X.mg x=S)(hv:eM x=Z (.builtin id))(ha:XA X M L (e::es) ns fs)
  (hn:x≠"__name__":=by decide) (jS:iM x:=by decide) (he:SE X e es:=by rfl) (iD:lV X pos es:=by rfl) :
  XE X M L k (.Call (.Name x pp) (e::es) [] pos) (eN op fs):=by
 obtain⟨t,pt,_,qt⟩:=ha;refine⟨_,u5 hc hg hm hv pt hn jS he iD,λF0 B F H O U r Q rs e w=>?_⟩;obtain⟨Y,h1,h2⟩:=dh e;exact qt F0 B F H O U Y _ rs h1 λvs F1 H1 x1 l=>hs F1 H1 vs Y r Q x1.fh l h2 λv F2 H2 x2 l2=>w v F2 H2 (x1.trans x2) l2
theorem Z5 {id:String}{r:List V->Hp->VK->Prop}{op:List D->Option D}(hc:iL X (.builtin id) r)(hs:DE X.K M ns k r op)(hg:Gl X x)(hm:X.mg x=S)(hv:eM x=Z (.builtin id))(ha:XA X M L (e::es) ns fs)
  (hn:x≠"__name__":=by decide) (jS:iM x:=by decide) (he:SE X e es:=by rfl) (iD:lV X pos es:=by rfl) :
  XO X M L k (.Call (.Name x pp) (e::es) [] pos) (eN op fs):=by
 obtain⟨t,pt,_,qt⟩:=ha;refine⟨_,u5 hc hg hm hv pt hn jS he iD,λF0 B F H O U r Q rs e w=>?_⟩;obtain⟨Y,h1,h2⟩:=dh e;exact qt F0 B F H O U Y _ rs h1 λvs F1 H1 x1 l=>hs F1 H1 vs Y r Q x1.fh l h2 λv F2 H2 fp x2 l2 nd hf=>w v F2 H2 fp (x1.trans x2) l2 nd λz hz=>x1.hh.free<|hf z hz
theorem z4 {id:String}{r:List V->Hp->VK->Prop}{op:List D->Option D}(hc:iL X (.type id) r)(hs:Dh X.K M ns k r op)(hg:Gl X x)(hm:X.mg x=S)(hv:eM x=Z (.type id))(ha:XA X M L (e::es) ns fs)
  (hn:x≠"__name__":=by decide) (jS:iM x:=by decide) (he:SE X e es:=by rfl) (iD:lV X pos es:=by rfl) :
  XE X M L k (.Call (.Name x pp) (e::es) [] pos) (eN op fs):=by
 obtain⟨t,pt,_,qt⟩:=ha;refine⟨_,N6 hc hg hm hv pt hn jS he iD,λF0 B F H O U r Q rs e w=>?_⟩;obtain⟨Y,h1,h2⟩:=dh e;exact qt F0 B F H O U Y _ rs h1 λvs F1 H1 x1 l=>hs F1 H1 vs Y r Q x1.fh l h2 λv F2 H2 x2 l2=>w v F2 H2 (x1.trans x2) l2
theorem j8 {id:String}{r:List V->Hp->VK->Prop}{op:List D->Option D}(hc:iL X (.type id) r)(hs:DE X.K M ns k r op)(hg:Gl X x)(hm:X.mg x=S)(hv:eM x=Z (.type id))(ha:XA X M L (e::es) ns fs)
  (hn:x≠"__name__":=by decide) (jS:iM x:=by decide) (he:SE X e es:=by rfl) (iD:lV X pos es:=by rfl) :
  XO X M L k (.Call (.Name x pp) (e::es) [] pos) (eN op fs):=by
 obtain⟨t,pt,_,qt⟩:=ha;refine⟨_,N6 hc hg hm hv pt hn jS he iD,λF0 B F H O U r Q rs e w=>?_⟩;obtain⟨Y,h1,h2⟩:=dh e;exact qt F0 B F H O U Y _ rs h1 λvs F1 H1 x1 l=>hs F1 H1 vs Y r Q x1.fh l h2 λv F2 H2 fp x2 l2 nd hf=>w v F2 H2 fp (x1.trans x2) l2 nd λz hz=>x1.hh.free<|hf z hz
theorem PE.or {t u:TE}(h1:PE X e t)(h2:PE X e u):PE X e (λU H Q=>t U H Q\/u U H Q):=λcW s U H Q I h=>h.elim (h1 cW s U H Q I)<|h2 cW s U H Q I
theorem C4 (ha:XO X M L k e f)(hb:XO X M L k e g):XO X M L k e (λO=>(f O).or<|g O):=by
 obtain⟨t,pt,qt⟩:=ha;obtain⟨u,pu,qu⟩:=hb;refine⟨_,PE.or pt pu,λF0 B F H O U r Q rs e w=>?_⟩;dsimp only at e ⊢;cases h:f O with
 |some d=>rw[h]at e;cases e;exact .inl<|qt F0 B F H O U _ Q rs h w
 |none=>rw[h]at e;exact .inr<|qu F0 B F H O U r Q rs e w
def eE (cs:List Nat)(x:Str):D->Option D
 |.obj c ns Y=>if cs.contains c=Â then(ns.zip Y).lookup x else S
 |_=>S
theorem vo {R:D->V->Prop}{x:Str}{d:D}:∀{ns:List Str} {Y:List D} {vs:List V},Pr R Y vs->(ns.zip Y).lookup x=Z d->∃v,(ns.zip vs).lookup x=Z v/\R d v
 |[],_,_,_,e=>by simp at e
 |_::_,_,_,.nil,e=>by simp at e
 |y::ns,_,_,.cons h t,e=>by
  rw[ez,dC]at e;rw[ez,dC];cases q:x==y with
  |true=>rw[q]at e;cases e;exact⟨_,rfl,h⟩
  |false=>rw[q]at e;exact vo t e
theorem j9 {vs:List V}{x:Str}:∀{ns:List Str} {vs:List V},ns.contains x=Ã->(ns.zip vs).lookup x=S
 |[],_,_=>by simp
 |_::_,[],_=>by simp
 |y::ns,_::vs,h=>by rw[hW,oV]at h;rw[ez,dC,h.1];exact j9 (vs:=vs) h.2
theorem wj (he:XE X M L n e f)(hc:∀c∈cs,mQ X.K (M c)/\gk X.K (M c) x)(hb:Af X e x):XE X M L (n-1) (.Attribute e x pos) (e1 (eE cs x) f):=by
 obtain⟨t,pt,qt⟩:=he;refine⟨_,OQ pt hb,λF0 B F H O U r Q rs e w=>?_⟩;obtain⟨o,h1,h2⟩:=dh e;refine qt F0 B F H O U o _ rs h1 λv F1 H1 x1 l=>?_;cases o with
 |obj c ns Y=>
  obtain⟨a,dx,vs,rfl,ha,hl,Dl⟩:=l.obj x1.fh;unfold eE at h2;dsimp only at h2;by_cases yA:cs.contains c=Â
  ·rw[if_pos yA]at h2;obtain⟨u,hu,du⟩:=vo Dl h2;have hh:=hc c (by simpa using yA);exact⟨a,_,dx,_,u,rfl,ha,hh.1,hh.2,hu,w u F1 H1 x1 du⟩
  ·rw[if_neg yA]at h2;cases h2
 |_=>cases h2
def lF (c0:Nat)(m:Str)(mf:List D->Option D)(o:D)(Y:List D):Option D:=match o with
 |.obj c ns _=>if c=c0/\ns.contains m=Ã then mf (o::Y)else S
 |_=>S
theorem yx (ho:XE X M L n o f)(c:mQ X.K<|M c0)(hm:qC X.K (M c0) x fa)(Fn:dR X.prog X.w X.K X.mg X.base fL kk fa fd ps<|iP X.K M (n::(ns++nd)) rk mf)(hr:fw kk X.A)
  (hb:fK X.K fd ps sd) (hd:eh i9 sd) (Cu:∀F W',nh X.K M F W' nd lY i9) (ha:XA X M L (e::es) ns fs)
  (jH:SE X e es:=by rfl) (iD:lV X pos es:=by rfl)
  (ht:eP (.Call (.Attribute o x fG) (e::es) [] pos) X.env=(do
   let ov ← eP o X.env
   ij fG.atName
   let(f,first) ← fH [ov] (iU ov x pl)
   jK pos f first (gR pos<|dM (e::es) X.env) (ir pos<|fO [] X.env)):=by rfl) :
  XO X M L rk (.Call (.Attribute o x fG) (e::es) [] pos) (λO=>(f O).bind λo=>(fs O).bind λY=>lF c0 x mf o<|Y++lY):=by
 obtain⟨u,pu,qu⟩:=ho;obtain⟨t,pt,_,qt⟩:=ha;refine⟨_,R9 pu c hm Fn hr hb hd oF pt jH iD ht,λF0 B F H O U r Q rs e w=>?_⟩;obtain⟨o,Y,h1,h2,h3⟩:=fE e;refine qu F0 B F H O U o _ rs h1 λv F1 H1 x1 l=>?_;cases o with
 |obj c1 wN rZ=>
  unfold lF at h3;dsimp only at h3;split at h3
  ·rename_i hc;obtain⟨rfl,xL⟩:=hc;obtain⟨a,dx,vs,rfl,ha,hl,Dl⟩:=l.obj x1.fh;refine⟨a,dx,_,rfl,ha,j9 (vs:=vs) xL,?_⟩;refine qt F0 B F1 H1 O U Y _ (rs.ext x1) h2 λus F2 H2 x2 l2=>⟨F2,_,r,x2.fh,.cons (l.mono x2.ff x2.hh)<|nh.append (Cu F2 H2) l2,h3,λv F3 H3 fp x3 o nd hf=>?_⟩;exact w v F3 H3 fp ((x1.trans x2).trans x3) o nd λz hz=>(x1.trans x2).hh.free<|hf z hz
  ·cases h3
 |_=>cases h3
theorem KQ (ho:XE X M L n o f)(c:mQ X.K<|M c0)(hm:qC X.K (M c0) x fa)(Fn:dR X.prog X.w X.K X.mg X.base fL kk fa fd ps<|iP X.K M (n::nd) rk mf)(hr:fw kk X.A)
  (hb:fK X.K fd ps sd) (hd:eh i9 sd) (Cu:∀F W',nh X.K M F W' nd lY i9)
  (ht:eP (.Call (.Attribute o x fG) [] [] pos) X.env=(do
   let ov ← eP o X.env
   ij fG.atName
   let(f,first) ← fH [ov] (iU ov x pl)
   jK pos f first (gR pos<|dM [] X.env) (ir pos<|fO [] X.env)):=by rfl) :
  XO X M L rk (.Call (.Attribute o x fG) [] [] pos) (λO=>(f O).bind λo=>lF c0 x mf o lY):=by
 obtain⟨u,pu,qu⟩:=ho;refine⟨_,ZI pu c hm Fn hr hb hd oF ht,λF0 B F H O U r Q rs e w=>?_⟩;obtain⟨o,h1,h3⟩:=dh e;refine qu F0 B F H O U o _ rs h1 λv F1 H1 x1 l=>?_;cases o with
 |obj c1 wN rZ=>
  unfold lF at h3;dsimp only at h3;split at h3
  ·rename_i hc;obtain⟨rfl,xL⟩:=hc;obtain⟨a,dx,vs,rfl,ha,hl,Dl⟩:=l.obj x1.fh;refine⟨a,dx,_,rfl,ha,j9 (vs:=vs) xL,F1,_,r,x1.fh,.cons l<|Cu F1 H1,h3,λv F3 H3 fp x3 o nd hf=>?_⟩;exact w v F3 H3 fp (x1.trans x3) o nd λz hz=>x1.hh.free<|hf z hz
  ·cases h3
 |_=>cases h3
end
inductive é where
 |nx (O:Env)|rt (d:D)|bk (O:Env)|ct (O:Env)
abbrev SF:=Env->Option é
def nD (K:cX)(cl:Nat->cZ)(F0 B:Hp)(L:List Mo)(rk:Nat)(E:lO):é->Prop
 |.nx O=>∀U F H,RS K cl F0 B L F H O U->E.nx U H
 |.bk O=>∀U F H,RS K cl F0 B L F H O U->E.bk U H
 |.ct O=>∀U F H,RS K cl F0 B L F H O U->E.ct U H
 |.rt d=>∀v F H fp,d9 F0 F->d9 B H->d9 F H->(∀a o,B a=Z o->mh o->F0 a=S->F a=S)->Ow K cl F H rk d v fp->fp.Nodup->(∀a∈fp,B a=S)->E.rt v H
section
variable (X:Cx)(M:Nat->cZ)(L:List Mo)(rk:Nat)
def XS (st:et)(f:SF):Prop:=∃t,PS X st t/\∀(F0 B F H:Hp) (O:Env) (U:St) (o:é) (E:lO),RS X.K M F0 B L F H O U->f O=Z o->nD X.K M F0 B L rk E o->t E U H
def tH (st:List et)(f:SF):Prop:=∃t,tG X st t/\∀(F0 B F H:Hp) (O:Env) (U:St) (o:é) (E:lO),RS X.K M F0 B L F H O U->f O=Z o->nD X.K M F0 B L rk E o->t E U H
end
def Ë:SF:=λO=>Z<|.nx O
def Æ (f g:SF):SF:=λO=>(f O).bind λo=>match o with
 |.nx ρ'=>g ρ'
 |o=>Z o
def Ó (c:BF)(f g:SF):SF:=λO=>(c O).bind λb=>if b=Â then f O else g O
def È (i:Nat)(f:EF):SF:=λO=>(f O).bind λd=>Z<|.nx<|O.set i<|Z d
def É (f:EF):SF:=λO=>(f O).bind λd=>Z<|.rt d
def õ:SF:=λ_=>Z<|.rt .non
def ç (f:EF):SF:=λO=>(f O).bind λ_=>Z<|.nx O
def Ø:SF:=λ_=>S
noncomputable def DC:Nat:=2 ^ 9000
def uE (c:BF)(b:SF):Nat->SF
 |0,_=>S
 |n+1,O=>(c O).bind λt=>if t=Â then(b O).bind λo=>match o with
   |.nx ρ'=>uE c b n ρ'
   |.ct ρ'=>uE c b n ρ'
   |.bk ρ'=>Z<|.nx ρ'
   |.rt d=>Z<|.rt d
  else Z (.nx O)
def uC (c:BF)(b:SF):SF:=uE c b DC
def pQ (g:D->Env->Option Env)(b:SF):List D->SF
 |[],O=>Z<|.nx O
 |d::Y,O=>(g d O).bind λρ1=>(b ρ1).bind λo=>match o with
   |.nx ρ'=>pQ g b Y ρ'
   |.ct ρ'=>pQ g b Y ρ'
   |.bk ρ'=>Z<|.nx ρ'
   |.rt d=>Z<|.rt d
def Õ (f:Env->Option (List D))(g:D->Env->Option Env)(b:SF):SF:=λO=>(f O).bind λY=>pQ g b Y O
variable {N:List Str}{P:eI}{base:dz}{bf u w:SF}{fi:Env->Option (List D)}{gg:D->Env->Option Env}{gs:List D->Env->Option Env}{iter tg:Expr}{j:Nat}{mg:Str->Option cU}{pos':my}{qual:Str}{Ê Hi CY Gr:List et}{st:et}{pG:List Expr}{ρ':Env}
theorem yq:tH X M L rk [] Ë:=⟨_,zqs,λF0 B F H O U o E rs e w=>by cases e;exact w U F H rs⟩
theorem ze (h1:XS X M L rk st u)(h2:tH X M L rk Ê w):tH X M L rk (st::Ê) (Æ u w):=by
 obtain⟨t,pt,qt⟩:=h1;obtain⟨t2,sR,sX⟩:=h2;refine⟨_,wx pt sR,λF0 B F H O U o E rs e z=>?_⟩;obtain⟨o1,e1,e2⟩:=dh e;refine qt F0 B F H O U o1 _ rs e1 ?_;cases o1 with
 |nx ρ'=>exactλσ' F' G Gp=>sX F0 B F' G ρ' σ' o E Gp e2 z
 |rt d=>cases e2;exact z
 |bk ρ'=>cases e2;exact z
 |ct ρ'=>cases e2;exact z
theorem zm (h1:XS X M L rk st u):tH X M L rk [st] u:=by obtain⟨t,pt,qt⟩:=h1;exact⟨_,vw pt,qt⟩
theorem zrp:XS X M L rk (.Pass pos) Ë:=⟨_,zqt,λF0 B F H O U o E rs e w=>by cases e;exact w U F H rs⟩
theorem Ry:XS X M L rk st Ø:=⟨_,ZF,λF0 B F H O U o E rs e w=>by cases e⟩
theorem qd:tH X M L rk Gr Ø:=⟨_,YQ,λF0 B F H O U o E rs e w=>by cases e⟩
theorem zrq (he:XE X M L n e f)(hs:gc e S pos.line X.env=pure Ã:=by rfl):XS X M L rk (.Expr e pos) (ç f):=by obtain⟨t,pt,qt⟩:=he;refine⟨_,w9 pt hs,λF0 B F H O U o E rs e w=>?_⟩;obtain⟨d,h1,h2⟩:=dh e;cases h2;exact qt F0 B F H O U d _ rs h1 λv F' G x l=>w U F' G<|rs.ext x
theorem yf (he:XO X M L rk e f):XS X M L rk (.Return (Z e) pos) (É f):=by obtain⟨t,pt,qt⟩:=he;refine⟨_,GO pt,λF0 B F H O U o E rs e w=>?_⟩;obtain⟨d,h1,h2⟩:=dh e;cases h2;refine qt F0 B F H O U d _ rs h1 λv F' G fp x l nd hf=>?_;have r:=rs.ext x;exact w v F' G fp r.f0 r.bh r.fh r.nf l nd λz hz=>rs.bh.free<|hf z hz
theorem Fy (hc:XT X M L c p)(h1:tH X M L rk Hi u)(h2:tH X M L rk CY w):XS X M L rk (.If c Hi CY pos) (Ó p u w):=by
 obtain⟨t,pt,qt⟩:=hc;obtain⟨t1,yL,yO⟩:=h1;obtain⟨t2,sR,sX⟩:=h2;refine⟨_,O3 pt yL sR,λF0 B F H O U o E rs e z=>?_⟩;obtain⟨x,h1,h2⟩:=dh e;refine qt F0 B F H O U x _ rs h1 λF1 H1 x1=>?_;cases x with
 |true=>rw[if_pos rfl]at h2 ⊢;exact yO F0 B F1 H1 O U o E (rs.ext x1) h2 z
 |false=>rw[if_neg di]at h2 ⊢;exact sX F0 B F1 H1 O U o E (rs.ext x1) h2 z
theorem RS.put {F' G:Hp}(rs:RS K M F0 B L F H O U)(hm:L[i]?=Z (.ow k)) :
  ∃f1 fr:List cZ,f1.Nodup/\(∀a∈f1,B a=S)/\(∀a∈f1,a∉fr)/\(∀d,O[i]?=Z (Z d)->∃v,U[i]?=Z (Z v)/\Ow K M F H k d v f1)/\(∀a∈fr,F a=S/\∃o,H a=Z o/\mh o) /\
   ∀(F' G:Hp) (d':D) (v':V) (f':List cZ),d9 F F'->d9 B G->d9 F' G->(∀a o,B a=Z o->mh o->F0 a=S->F' a=S)->(∀a∈fr,G a=H a/\F' a=S)->Ow K M F' G k d' v' f'->f'.Nodup->(∀a∈f',a∉fr)->(∀a∈f',B a=S) ->
    RS K M F0 B L F' G (O.set i<|Z d') (U.set i<|Z v'):=by
 obtain⟨fp,sl,nd,hb⟩:=rs.sl;obtain⟨f1,fr,i1,i2,i3,i4,i5⟩:=sl.put hm;obtain⟨n1,n2,n3⟩:=i3 nd;refine⟨f1,fr,n1,λa z=>hb a<|i1 a z,n3,i4,λa z=>sl.cells a<|i2 a z,λF' G d' v' f' s1 s2 s3 s4 kf o Vw dj UT=>?_⟩;obtain⟨iy,q1,q2,q3⟩:=i5 F' G d' v' f' s1 kf o;exact⟨rs.f0.trans s1,s2,s3,s4,iy,q1,q3 Vw n2 dj,λa z=>(q2 a z).elim (UT a) λz=>hb a<|i2 a z⟩
theorem RS.set {v:V}(rs:RS K M F0 B L F H O U)(hm:L[i]?=Z (.ow k))(x:iJ F H F' G)(o:Ow K M F' G k d v fp)(nd:fp.Nodup)(hf:∀a∈fp,H a=S) :
  RS K M F0 B L F' G (O.set i<|Z d) (U.set i<|Z v):=by
 have r:=rs.ext x;obtain⟨f1,fr,n1,b1,n3,i4,cf,put⟩:=rs.put (F':=F') (G:=G) hm;refine put F' G d v fp x.ff r.bh x.fh r.nf (λa z=>?_) o nd (λa z zb=>?_) λa z=>rs.bh.free<|hf a z
 ·obtain⟨hn,o,ho,nt⟩:=cf a z;exact⟨(x.hh _ _ ho).trans ho.symm,x.nf a o ho nt hn⟩
 ·obtain⟨hn,o,ho,nt⟩:=cf a zb;rw[hf a z]at ho;cases ho
theorem ť (hm:L[i]?=Z (.ow k))(hN:X.N.Nodup)(hi:X.N[i]?=Z x)(hx:ë X.env.scope x)(he:XO X M L k e f)(hs:G0 X e x pos' pos:=by rfl)
  (hf:xE X x:=by walk_at "v2"):XS X M L rk (.Assign [.Name x pos'] e pos) (È i f):=by
 obtain⟨t,pt,qt⟩:=he;refine⟨_,OM hN hi hx pt hs hf,λF0 B F H O U o E rs e w=>?_⟩;obtain⟨d,h1,h2⟩:=dh e;cases h2;exact qt F0 B F H O U d _ rs h1 λv F' G fp x l nd hf=>w _ F' G<|rs.set hm x l nd hf
theorem Z6 (hc:XT X M L c p)(hb:tH X M L rk Ê u)(hp:gE (dq X.prog X.w) X.A X.env X.xe):XS X M L rk (.While c Ê [] pos) (uC p u):=by
 obtain⟨t,pt,qt⟩:=hc;obtain⟨t1,yL,yO⟩:=hb;refine⟨_,RA hp pt yL,λF0 B F H O U o E rs e z=>?_⟩;refine⟨λm U H=>∃F O,RS X.K M F0 B L F H O U/\uE p u m O=Z o,⟨DC,F,O,rs,e⟩,?_⟩;rintro m U H ⟨F,O,rs,e⟩;cases m with
 |zero=>cases e
 |succ m=>
  obtain⟨x,h1,h2⟩:=dh e;refine qt F0 B F H O U x _ rs h1 λF1 H1 x1=>?_;cases x with
  |true=>
   rw[if_pos rfl]at h2 ⊢;obtain⟨o1,h3,h4⟩:=dh h2;refine⟨λU H=>∃F O,RS X.K M F0 B L F H O U/\uE p u m O=Z o,λσ' G h=>⟨m,jX m,h⟩,?_⟩;refine yO F0 B F1 H1 O U o1 _ (rs.ext x1) h3 ?_;cases o1 with
   |nx ρ'=>exactλσ' F' G r=>⟨F',ρ',r,h4⟩
   |ct ρ'=>exactλσ' F' G r=>⟨F',ρ',r,h4⟩
   |bk ρ'=>cases h4;exact z
   |rt d=>cases h4;exact z
  |false=>rw[if_neg di]at h2 ⊢;cases h2;exact z U F1 H1<|rs.ext x1
theorem RS.re (r:RS K M F0 B L F H O U):RS K M F B L F H O U:=⟨.refl _,r.bh,r.fh,λ_ _ _ _ h=>h,r.sl⟩
theorem RS.back {σ':St}(r:RS K M F0 B L F H O U)(q:RS K M F B L F' G ρ' σ'):RS K M F0 B L F' G ρ' σ' :=
 ⟨r.f0.trans q.f0,q.bh,q.fh,λa o h t n=>q.nf a o h t<|r.nf a o h t n,q.sl⟩
theorem nD.re {E:lO}{o:é}(r:RS K M F0 B L F H O U)(z:nD K M F0 B L rk E o):nD K M F B L rk E o:=by
 cases o with
 |nx O=>exactλσ' F' G q=>z σ' F' G<|r.back q
 |bk O=>exactλσ' F' G q=>z σ' F' G<|r.back q
 |ct O=>exactλσ' F' G q=>z σ' F' G<|r.back q
 |rt d=>exactλv F' G fp s1 s2 s3 s4=>z v F' G fp (r.f0.trans s1) s2 s3 λa o h t n=>s4 a o h t<|r.nf a o h t n
def Bx (K:cX)(M:Nat->cZ)(F B:Hp)(n:Nat)(L':It)(Y:List D):Prop :=
 ∀(i:Nat) (F' G:Hp),d9 F F'->d9 B G->d9 F' G->(∀d,Y[i]?=Z d->L'.go i G/\∀x H2,L'.yld i G x H2->∃F2,iJ F' G F2 H2/\Al K M F2 B n d x)/\(Y.length<=i->L'.stop i G)
def XI (X:Cx)(M:Nat->cZ)(L:List Mo)(n:Nat)(tg iter:Expr)(f:Env->Option (List D)):Prop:=∃wi,PI X tg iter wi/\∀(F0 B F H:Hp) (O:Env) (U:St) (Y:List D) (R:It->Hp->Prop),RS X.K M F0 B L F H O U->f O=Z Y ->
 (∀L' F' G,iJ F H F' G->Bx X.K M F' B n L' Y->R L' G)->wi U H R
def DG (X:Cx)(c:Prop)(M:Nat->cZ)(L:List Mo)(n:Nat)(tg iter:Expr)(f:Env->Option (List D)):Prop:=∃wi,GY X c tg iter wi/\∀(F0 B F H:Hp) (O:Env) (U:St) (Y:List D) (R:It->Hp->Prop),RS X.K M F0 B L F H O U->f O=Z Y ->
 (∀L' F' G,iJ F H F' G->Bx X.K M F' G n L' Y->R L' G)->wi U H R
abbrev å (X:Cx):=DG X<|X.calm=Â
def XG (X:Cx)(M:Nat->cZ)(L:List Mo)(n:Nat)(tg:Expr)(g:D->Env->Option Env):Prop:=∃t,PG X tg t/\∀(F0 B F H:Hp) (O ρ':Env) (U:St) (d:D) (v:V) (Q:St->Hp->Prop),RS X.K M F0 B L F H O U->Al X.K M F B n d v->g d O=Z ρ' ->
 (∀σ',RS X.K M F0 B L F H ρ' σ'->Q σ' H)->t v U H Q
theorem Ť (hi:XI X M L n tg iter fi)(hg:XG X M L n tg gg)(hb:tH X M L rk Ê u)(hp:gE (dq X.prog X.w) X.A X.env X.xe)(hc:X.calm=Â)
  (hs:B4 X iter:=by intro _;rfl):XS X M L rk (.For tg iter Ê [] pos) (Õ fi gg u):=by
 obtain⟨wi,pi,qi⟩:=hi;obtain⟨NS,pg,qg⟩:=hg;obtain⟨t1,yL,yO⟩:=hb;refine⟨_,SK hp hc pi pg yL hs,λF0 B F H O U o E rs e z=>?_⟩;obtain⟨Y,h1,h2⟩:=dh e;refine qi F0 B F H O U Y _ rs h1 λL' F1 H1 x1 ok=>?_;refine⟨λi m U H=>m=Y.length-i/\i<=Y.length/\∃F O,d9 F1 F/\RS X.K M F0 B L F H O U/\pQ gg u (Y.drop i) O=Z o,⟨Y.length,rfl,gQ _,F1,O,.refl _,rs.ext x1,h2⟩,?_⟩;rintro i m U H ⟨rfl,PQ,F,O,s1,rs,e⟩;obtain⟨k1,k2⟩:=ok i F H s1 rs.bh rs.fh;by_cases vI:i<Y.length
 ·right;have hd:Y[i]?=Z Y[i]:=by simp[vI]
  obtain⟨go,yl⟩:=k1 _ hd;rw[jV vI]at e;obtain⟨ρ1,h3,h4⟩:=dh e;obtain⟨o1,h5,h6⟩:=dh h4;refine⟨go,λU H=>i+1<=Y.length/\∃F O,d9 F1 F/\RS X.K M F0 B L F H O U/\pQ gg u (Y.drop<|i+1) O=Z o,λσ' G h=>⟨Y.length-(i+1),by lia,rfl,h⟩,λx H2 y=>?_⟩;obtain⟨F2,x2,l⟩:=yl x H2 y;refine qg F0 B F2 H2 O ρ1 U _ x _ (rs.ext x2) l h3 λσ' r=>?_;have s2:=s1.trans x2.ff;refine yO F2 B F2 H2 ρ1 σ' o1 _ r.re h5 ?_;cases o1 with
  |nx ρ'=>exactλσ' F' G q=>⟨vI,F',ρ',s2.trans q.f0,r.back q,h6⟩
  |ct ρ'=>exactλσ' F' G q=>⟨vI,F',ρ',s2.trans q.f0,r.back q,h6⟩
  |bk ρ'=>cases h6;exactλσ' F' G q=>z σ' F' G<|r.back q
  |rt d=>cases h6;exact nD.re (o:=.rt d) r z
 ·left;refine⟨k2<|by lia,?_⟩
  have:Y.drop i=[]:=nP (by lia);rw[this]at e;cases e;exact z U F H rs
def gV (i:Nat):D->Env->Option Env:=λd O=>Z<|O.set i<|Z d
theorem ϻ (hm:L[i]?=Z (.ow 0))(hN:X.N.Nodup)(hi:X.N[i]?=Z x)(hx:ë X.env.scope x)
  (hf:xE X x:=by walk_at "v2"):XG X M L 0 (.Name x pos) (gV i):=by
 refine⟨_,RY hN hi hx hf,λF0 B F H O ρ' U d v Q rs l e w=>?_⟩;cases e;exact w _ (rs.set hm (.refl rs.fh) (Ow.zero l) d4 λa z=>(by cases z))
def HQ (X:Cx)(M:Nat->cZ)(L:List Mo)(n:Nat)(pG:List Expr)(g:List D->Env->Option Env):Prop:=∃t,FD X pG t/\(∀Y O ρ',g Y O=Z ρ'->Y.length=pG.length)/\∀(F0 B F H:Hp) (O ρ':Env) (U:St) (Y:List D) (vs:List V) (Q:St->Hp->Prop),RS X.K M F0 B L F H O U->Pr (Al X.K M F B n) Y vs->g Y O=Z ρ' ->
 (∀σ',RS X.K M F0 B L F H ρ' σ'->Q σ' H)->t vs U H Q
def Ò:List D->Env->Option Env:=λY O=>match Y with
 |[]=>Z O
 |_=>S
def Í (g:D->Env->Option Env)(gs:List D->Env->Option Env):List D->Env->Option Env:=λY O=>match Y with
 |d::Y=>(g d O).bind λρ'=>gs Y ρ'
 |[]=>S
theorem uo:HQ X M L n [] Ò:=by
 refine⟨_,RZ,λY O ρ' e=>?_,λF0 B F H O ρ' U Y vs Q rs l e w=>?_⟩
 ·cases Y with
  |nil=>rfl
  |cons d Y=>cases e
 ·cases l with
  |nil=>cases e;exact⟨rfl,w U rs⟩
  |cons _ _=>cases e
theorem yj (h1:XG X M L n tg gg)(h2:HQ X M L n pG gs)
  (hs:(eY (tg::pG) X.env).map (·.2)=kU tg X.env::(eY pG X.env).map (·.2):=by rfl):HQ X M L n (tg::pG) (Í gg gs):=by
 obtain⟨t,pt,qt⟩:=h1;obtain⟨t2,sR,Ng,sX⟩:=h2;refine⟨_,Rz pt sR hs,λY O ρ' e=>?_,λF0 B F H O ρ' U Y vs Q rs l e w=>?_⟩
 ·cases Y with
  |nil=>cases e
  |cons d Y=>obtain⟨ρ1,h3,h4⟩:=dh e;rw[dw,dw,Ng _ _ _ h4]
 ·cases l with
  |nil=>cases e
  |cons h t=>obtain⟨ρ1,h3,h4⟩:=dh e;exact⟨_,_,rfl,qt F0 B F H O ρ1 U _ _ _ rs h h3 λσ1 r1=>sX F0 B F H ρ1 ρ' σ1 _ _ _ r1 t h4 w⟩
def gT (gs:List D->Env->Option Env):D->Env->Option Env:=λd O=>match d with
 |.tup Y=>gs Y O
 |_=>S
theorem GM (hc:X.calm=Â)(h:HQ X M L (n-1) pG gs)(hl:(eY pG X.env).length=pG.length:=by rfl)(jH:(eY pG X.env).findIdx? (·.1)=S:=by rfl):XG X M L n (.Tuple pG j pos) (gT gs):=by
 obtain⟨t,pt,lt,qt⟩:=h;refine⟨_,S2 (n:=pG.length) hc pt hl jH,λF0 B F H O ρ' U d v Q rs l e w=>?_⟩;cases d with
 |tup Y=>
  have l':Al X.K M F H n (.tup Y) v:=l.mono (.refl _) rs.bh;have:∃a vs,v=.ref a/\oP X.K H a vs/\Pr (Al X.K M F B<|n-1) Y vs:=by
   cases n with
   |zero=>
    have l:Dt X.K M F (.tup Y) v:=l;cases l with
    |tup q t=>exact⟨_,_,rfl,oP.of<|rs.fh _ _ q,t.pr⟩
   |succ n=>
    rcases l with l|l
    ·cases l with
     |tup q t=>exact⟨_,_,rfl,oP.of<|rs.fh _ _ q,t.pr.mono λ_ _=>Al.of⟩
    ·cases l with
     |tup q t=>exact⟨_,_,rfl,oP.of<|rs.fh _ _ q,t⟩
  obtain⟨a,vs,rfl,ha,hp⟩:=this;exact⟨a,vs,rfl,ha,hp.length.symm.trans<|lt _ _ _ e,qt F0 B F H O ρ' U Y vs Q rs hp e w⟩
 |_=>cases e
def Î (N:List Str)(Y:List D):Env:=Y.map Z++dg (N.length-Y.length) S
def Ñ (N:List Str)(b:SF)(Y:List D):Option D:=(b<|Î N Y).bind λo=>match o with
 |.rt d=>Z d
 |.nx _=>Z .non
 |_=>S
theorem SL.start {K:cX}{F B H:Hp}:∀{pm:List Nat} {Y:List D} {vs:List V} {L:List Mo} (j:Nat),nh K M F B pm Y vs->(∀(i n:Nat),pm[i]?=Z n->L[i]?=Z (Mo.al n)\/(n=0/\L[i]?=Z (Mo.ow 0)))->L.length=pm.length+j ->
  SL K M F B H L (Y.map Z++dg j S) (vs.map Z++dg j S) []
 |_,_,_,L,j,.nil,_,hl=>by
  have:∀(j:Nat) (L:List Mo),L.length=j->SL K M F B H L (dg j S) (dg j S) []:=by
   intro j;induction j with
   |zero=>intro L h;cases L with
    |nil=>exact .nil
    |cons _ _=>simp at h
   |succ j ih=>intro L h;cases L with
    |nil=>simp at h
    |cons m L=>exact .no (ih L<|by simpa using h)
  simpa using this j L (by simpa using hl)
 |_,_,_,[],j,.cons h t,_,hl=>by simp at hl;lia
 |_,_,_,m::L,j,.cons (n:=n) h t,hm,hl=>by
  have ih:=SL.start (L:=L) (H:=H) j t (λi n e=>by simpa using hm (i+1) n (by simpa using e)) (by simp at hl;lia);rcases hm 0 n rfl with e|⟨rfl,e⟩
  ·simp at e;subst e;exact .al h ih
  ·simp at e;subst e;exact SL.ow (f:=[]) (Ow.zero h) ih
structure Þ (K:cX)(x qual:Str)(st:et)(f:cZ)(fd:c9):Prop where
 ex:∃(oc:cU) (od:Option cZ) (dV kV doc pm:cU) (an:Option cZ) (gH M:cU) (Bc:Array<|Option cU),
  fd=kC x qual (lP st) (gz st) (dH st) dV kV doc pm an gH M/\K.lookup f=Z ⟨oc,od,.func fd,Bc⟩/\n6 K gH qual=Â
 kp:dQ K (.ref f)=Â
theorem Þ.ok {w:d5}{f:cZ}{fd:c9}{sp:Sp}(F:Þ K x qual st f fd)(S':eK N ps<|dH st)(len:∀vs H Q E,sp vs H Q E->vs.length=ps.length)
    (xZ:∀(gH:cU) (A:dO) (outer:List PySem.Env) (s:de) (H:Hp) (vs:List V) (Q:VK) (E:XK),fw k (A.deeper<|envOfC qual (dH st) s.heap.objs.size f gH)->sp vs H Q E ->
      ∃t,tG (nj fL P w K mg base N qual (dH st) f gH A outer s H E).nox (gz st) t/\t { nx:=λ_ G=>Q .non G,rt:=Q } (L2.start N vs) H):dR P w K mg base fL (k+1) f fd ps sp:=by
  obtain⟨oc,od,dV,kV,doc,pm,an,gH,M,Bc,rfl,lk,iY⟩:=F.ex;refine O1 lk iY S' len λA outer s H vs Q E hr CD=>?_;obtain⟨t,h,q⟩:=xZ gH A outer s H vs Q E hr CD;exact⟨t,h.nox,q⟩
theorem ĩ {w:d5}{fd:c9}(Fn:Þ K x qual st fa fd)(S':eK N ps<|dH st)(Au:pm.length=ps.length)(CB:L.length=N.length)(rG:ps.length<=N.length)
  (CA:∀(i n:Nat),pm[i]?=Z n->L[i]?=Z (Mo.al n)\/(n=0/\L[i]?=Z (Mo.ow 0)))
  (body:∀(gH:cU) (A:dO) (outer:List PySem.Env) (s:de) (H:Hp) (E:XK),fw kk (A.deeper<|envOfC qual (dH st) s.heap.objs.size fa gH)->tH (nj fL P w K mg base N qual (dH st) fa gH A outer s H E).nox M L rk (gz st) bf) :
  dR P w K mg base fL (kk+1) fa fd ps (iP K M pm rk<|Ñ N bf):=by
 refine Fn.ok S' (iP.len Au) λgH A outer s H vs Q E hr h=>?_;obtain⟨F,Y,d,sF,l,hm,q⟩:=h;obtain⟨t,pt,qt⟩:=body gH A outer s H E hr;refine⟨t,pt,?_⟩;obtain⟨o,h1,h2⟩:=dh hm;have Vj:vs.length=pm.length:=l.length;have hdl:Y.length=vs.length:=l.length';refine qt F H F H (Î N Y) (L2.start N vs) o _ ⟨.refl _,.refl _,sF,λ_ _ _ _ h=>h,[],?_,d4,λa z=>(by cases z)⟩ h1 ?_
 ·unfold Î L2.start;rw[hdl];exact SL.start _ l CA (by lia)
 ·cases o with
  |nx O=>cases h2;exactλU F' G r=>q .non F' G [] ⟨r.f0,r.bh,r.fh,r.nf⟩ (Ow.scal .non rfl) d4 λa z=>(by cases z)
  |rt d'=>cases h2;exactλv F' G fp s1 s2 s3 s4 o nd hf=>q v F' G fp ⟨s1,s2,s3,s4⟩ o nd hf
  |bk O=>cases h2
  |ct O=>cases h2
theorem lI.or {f:cU->cU->Cd cU}{r':R2}(h:lI X f r)(h':lI X f r'):lI X f (λx y H Q=>r x y H Q\/r' x y H Q) :=
 λcW s U H x y v u Q I rx ry q=>q.elim (h cW s U H x y v u Q I rx ry)<|h' cW s U H x y v u Q I rx ry
variable {gv:Int->Int->V}{neg:Bool}
def i2 (g:Int->Int->D):D->D->Option D
 |.int i,.int j=>Z<|g i j
 |_,_=>S
def CG (C:Int->Int->Prop)[∀i j,Decidable<|C i j](g:Int->Int->D):D->D->Option D
 |.int i,.int j=>if C i j then Z (g i j)else S
 |_,_=>S
theorem Ly {g:Int->Int->D}(hg:∀i j F,Dt K M F (g i j)<|gv i j):sK K M n m k (zT gv) (i2 g):=by
 intro F H x y d1 d2 d Q s l1 l2 e w;cases d1 with
 |int i=>
  cases d2 with
  |int j=>cases e;exact⟨i,j,l1.int,l2.int,w _ F H (.refl s)<|Al.of<|hg i j F⟩
  |_=>cases e
 |_=>cases e
theorem OP {C C':Int->Int->Prop}[∀i j,Decidable<|C i j]{g:Int->Int->D}(hC:∀i j,C i j->C' i j)(hg:∀i j F,Dt K M F (g i j)<|gv i j):sK K M n m k (rI C' gv) (CG C g):=by
 intro F H x y d1 d2 d Q s l1 l2 e w;cases d1 with
 |int i=>
  cases d2 with
  |int j=>
   unfold CG at e;dsimp only at e;by_cases h:C i j
   ·rw[if_pos h]at e;cases e;exact⟨i,j,l1.int,l2.int,hC i j h,w _ F H (.refl s)<|Al.of<|hg i j F⟩
   ·rw[if_neg h]at e;cases e
  |_=>cases e
 |_=>cases e
noncomputable def Pb:Nat:=2 ^ 9000
noncomputable def HF:Nat:=2 ^ 100000
def wX:D->D->Option D:=i2 λi j=>.int<|i-j
theorem Ϻ:sK K M n m k (zT λi j=>.int<|i-j) wX:=Ly λ_ _ _=>.int _
def sv (i j:Int):Prop:=(-18446744073709551616<i/\i<18446744073709551616)\/(-18446744073709551616<j/\j<18446744073709551616)\/(i.natAbs<HF/\j.natAbs<HF)
instance (i j:Int):Decidable (sv i j):=by unfold sv;infer_instance
def ki:D->D->Option D:=CG sv λi j=>.int<|i*j
theorem sv.ok {i j:Int}(h:sv i j):vD i j:=by
 rcases h with h|h|h
 ·exact .inl (.inl ⟨by have:=h.1;lia,by have:=h.2;lia⟩)
 ·exact .inl (.inr ⟨by have:=h.1;lia,by have:=h.2;lia⟩)
 ·exact .inr h
theorem Ϲ:sK K M n m k (rI vD λi j=>.int<|i*j) ki:=OP (λ_ _=>sv.ok) λ_ _ _=>.int _
def D.v:D->V
 |.bl b=>.bl b
 |.int i=>.int i
 |.str x=>.str x
 |_=>.non
theorem Dt.v {v:V}(h:Dt K M F d v)(hs:d.sc=Â):v=d.v:=by cases h<;>first|rfl|cases hs
theorem Al.v {v:V}(h:Al K M F W' n d v)(hs:d.sc=Â):v=d.v:=Dt.v (Al.scal (F':=F) h hs) hs
theorem D.flat (hs:d.sc=Â):mS d.v=Â:=by cases d<;>first|rfl|cases hs
theorem Pr.vs {F W':Hp}:∀{Y:List D} {vs:List V},Pr (Al K M F W' n) Y vs->Y.all D.sc=Â->vs=Y.map D.v
 |_,_,.nil,_=>rfl
 |d::Y,v::vs,.cons h t,e=>by rw[hG,dP]at e;rw[dJ,Al.v h e.1,Pr.vs t e.2]
def nF:D->D->Option D
 |.int i,.int j=>if 0<j/\j<4611686018427387904 then Z (.int<|i/j)else if j≠0/\j.natAbs<Pb then Z (.int<|i.fdiv j)else S
 |_,_=>S
theorem Z7:sK K M n m k (rI (λ_ j=>j≠0/\Sz 9000 j) λi j=>.int<|i.fdiv j) nF:=by
 intro F H x y d1 d2 d Q s l1 l2 e w;cases d1 with
 |int i=>
  cases d2 with
  |int j=>
   unfold nF at e;dsimp only at e;by_cases h:0<j/\j<4611686018427387904
   ·rw[if_pos h]at e;cases e;refine⟨i,j,l1.int,l2.int,⟨by lia,?_⟩,?_⟩
    ·have:Sz 62 j:=by unfold Sz;lia
     exact this.mono (by decide)
    ·show Q (.int<|i.fdiv j) H;rw[vB i<|by lia];exact w _ F H (.refl s)<|Al.of<|.int _
   ·rw[if_neg h]at e;by_cases h:j≠0/\j.natAbs<Pb
    ·rw[if_pos h]at e;cases e;exact⟨i,j,l1.int,l2.int,h,w _ F H (.refl s)<|Al.of<|.int _⟩
    ·rw[if_neg h]at e;cases e
  |_=>cases e
 |_=>cases e
def lR:D->D->Option D
 |.int i,.int j=>if 0<j then Z (.int<|i%j)else if j≠0 then Z (.int<|i.fmod j)else S
 |_,_=>S
theorem ϸ:sK K M n m k (rI (λ_ j=>j≠0) λi j=>.int<|i.fmod j) lR:=by
 intro F H x y d1 d2 d Q s l1 l2 e w;cases d1 with
 |int i=>
  cases d2 with
  |int j=>
   unfold lR at e;dsimp only at e;by_cases h:0<j
   ·rw[if_pos h]at e;cases e;refine⟨i,j,l1.int,l2.int,by lia,?_⟩;show Q (.int<|i.fmod j) H;rw[Int.fmod_eq_emod_of_nonneg i<|by lia];exact w _ F H (.refl s)<|Al.of<|.int _
   ·rw[if_neg h]at e;by_cases h:j≠0
    ·rw[if_pos h]at e;cases e;exact⟨i,j,l1.int,l2.int,h,w _ F H (.refl s)<|Al.of<|.int _⟩
    ·rw[if_neg h]at e;cases e
  |_=>cases e
 |_=>cases e
def vM (i j:Int):Prop:=0<=j/\j<=1000000/\i.natAbs<18446744073709551616
instance (i j:Int):Decidable (vM i j):=by unfold vM;infer_instance
def Jc:D->D->Option D:=CG vM λi j=>.int<|i ^ j.toNat
def Ej:D->D->Option D:=CG vM λi j=>.int<|i*2 ^ j.toNat
theorem Ϸ:sK K M n m k (rI HD λi j=>.int<|i*2 ^ j.toNat) Ej:=OP (λ_ _ h=>⟨h.1,h.2.1,by have:=h.2.2;lia⟩) λ_ _ _=>.int _
def BS:D->D->Option D:=CG (λ_ j=>0<=j) λi j=>.int<|i/2 ^ j.toNat
theorem R8:sK K M n m k (rI (λ_ j=>0<=j) λi j=>.int<|i/2 ^ j.toNat) BS:=OP (λ_ _ h=>h) λ_ _ _=>.int _
def BI:D->D->Option D:=i2 λi j=>.bl<|decide<|i<j
def EQ:D->D->Option D:=i2 λi j=>.bl<|decide<|j<i
def G6:D->D->Option D:=i2 λi j=>.bl<|decide<|j<=i
theorem Lg:sK K M n m k (zT λi j=>.bl<|decide<|i<j) BI:=Ly λ_ _ _=>.bl _
theorem SS:sK K M n m k (zT λi j=>.bl<|decide<|j<i) EQ:=Ly λ_ _ _=>.bl _
theorem SU:sK K M n m k (zT λi j=>.bl<|decide<|j<=i) G6:=Ly λ_ _ _=>.bl _
def Gk:R2:=λx y H Q=>∃i j,x=.str i/\y=.str j/\Q (.bl<|!(decide<|j.cps.toList<i.cps.toList)) H
theorem ţ:lI X (e9 .LtE) Gk:=by intro cW s U H x y v u Q I rx ry h;obtain⟨i,j,rfl,rfl,q⟩:=h;obtain⟨t,rfl⟩:=rx;obtain⟨t',rfl⟩:=ry;exact PySem.P.le_str ⟨.bl _,H,I,rfl,q⟩
def BH:D->D->Option D
 |.int i,.int j=>Z<|.bl<|decide<|i<=j
 |.str i,.str j=>Z<|.bl<|!(decide<|j.cps.toList<i.cps.toList)
 |_,_=>S
theorem ϶:sK K M n m k (λx y H Q=>zT (λi j=>.bl<|decide<|i<=j) x y H Q\/Gk x y H Q) BH:=by
 intro F H x y d1 d2 d Q s l1 l2 e w;cases d1 with
 |int i=>
  cases d2 with
  |int j=>cases e;exact .inl ⟨i,j,l1.int,l2.int,w _ F H (.refl s)<|Al.of<|.bl _⟩
  |_=>cases e
 |str i=>
  cases d2 with
  |str j=>cases e;exact .inr ⟨i,j,l1.str,l2.str,w _ F H (.refl s)<|Al.of<|.bl _⟩
  |_=>cases e
 |_=>cases e
theorem Ţ:lI X (e9 .LtE) (λx y H Q=>zT (λi j=>.bl<|decide<|i<=j) x y H Q\/Gk x y H Q):=lI.or Ś ţ
def D.isN:D->Bool
 |.non=>Â
 |_=>Ã
def D.isB (b:Bool):D->Bool
 |.bl c=>c==b
 |_=>Ã
def uV (neg:Bool):D->D->Option D
 |d,.non=>Z<|.bl<|if neg then !d.isN else d.isN
 |d,.bl b=>Z<|.bl<|if neg then !d.isB b else d.isB b
 |_,_=>S
theorem Al.ref {v:V}(h:Al K M F W' n d v)(hs:d.sc=Ã):∃a,v=.ref a:=by
 cases n with
 |zero=>cases(show Dt K M F d v from h)<;>first|cases hs;done|exact⟨_,rfl⟩
 |succ n=>rcases h with h|h<;>cases h<;>first|cases hs;done|exact⟨_,rfl⟩
theorem Al.isn {v:V}(h:Al K M F W' n d v):decide (v=.non)=d.isN:=by
 cases hs:d.sc with
 |true=>have:=Al.v h hs;subst this;cases d<;>first|rfl|cases hs
 |false=>obtain⟨a,rfl⟩:=h.ref hs;cases d<;>first|rfl|cases hs
theorem Al.isb {v:V}{b:Bool}(h:Al K M F W' n d v):decide (v=.bl b)=d.isB b:=by
 cases hs:d.sc with
 |true=>have:=Al.v h hs;subst this;cases d<;>first|rfl|(cases hs;done)|(rename_i c;cases b<;>cases c<;>rfl)
 |false=>obtain⟨a,rfl⟩:=h.ref hs;cases d<;>first|rfl|cases hs
def Qf:R2:=λx y H Q=>(y=.non/\Q (.bl<|decide<|x=.non) H)\/∃b,y=.bl b/\Q (.bl<|decide<|x=.bl b) H
def CU:R2:=λx y H Q=>(y=.non/\Q (.bl<|!decide (x=.non)) H)\/∃b,y=.bl b/\Q (.bl<|!decide (x=.bl b)) H
theorem Ń:lI X (e9 .Is) Qf:=lI.or ϐ ů
theorem Z8:lI X (e9 .IsNot) CU:=lI.or zqy Y6
theorem š:sK K M n m k Qf (uV Ã):=by
 intro F H x y d1 d2 d Q s l1 l2 e w;cases d2 with
 |non=>cases e;refine .inl ⟨l2.non,?_⟩;rw[l1.isn];exact w _ F H (.refl s)<|Al.of<|.bl _
 |bl b=>cases e;refine .inr ⟨b,l2.bl,?_⟩;rw[l1.isb];exact w _ F H (.refl s)<|Al.of<|.bl _
 |_=>cases e
theorem YU:sK K M n m k CU (uV Â):=by
 intro F H x y d1 d2 d Q s l1 l2 e w;cases d2 with
 |non=>cases e;refine .inl ⟨l2.non,?_⟩;rw[l1.isn];exact w _ F H (.refl s)<|Al.of<|.bl _
 |bl b=>cases e;refine .inr ⟨b,l2.bl,?_⟩;rw[l1.isb];exact w _ F H (.refl s)<|Al.of<|.bl _
 |_=>cases e
mutual
def D.py:D->Option dX
 |.non=>Z .none
 |.bl b=>Z<|.bool b
 |.int i=>Z<|.int i
 |.str x=>Z<|.str x
 |.lst xs=>(D.pys xs).bind λys=>Z<|.list ys
 |.tup xs=>(D.pys xs).bind λys=>Z<|.tuple ys
 |_=>S
def D.pys:List D->Option (List dX)
 |[]=>Z []
 |d::Y=>(D.py d).bind λx=>(D.pys Y).bind λxs=>Z (x::xs)
end
theorem Dt.toPy (s:d9 F H){v:V}{e:dX}(h:Dt K M F d v)(q:d.py=Z e):L2.Dt K H v e:=by
 refine Dt.rec (motive_1:=λd v _=>∀e,d.py=Z e->L2.Dt K H v e) (motive_2:=λY vs _=>∀es,D.pys Y=Z es->L2.Ü K H vs es) ?_ ?_ ?_ ?_ ?_ ?_ ?_ ?_ ?_ ?_ ?_ ?_ ?_ ?_ ?_ h e q
 ·intro e h;rw[D.py]at h;cases h;exact .non
 ·intro b e h;rw[D.py]at h;cases h;exact .bl b
 ·intro b e h;rw[D.py]at h;cases h;exact .int b
 ·intro b e h;rw[D.py]at h;cases h;exact .str b
 ·intro _ _ _ q _ t e h;rw[D.py]at h;obtain⟨ys,h1,h2⟩:=dh h;cases h2;exact .lst (s.seq q)<|t _ h1
 ·intro _ _ _ q _ t e h;rw[D.py]at h;obtain⟨ys,h1,h2⟩:=dh h;cases h2;exact .tup (oP.of<|s _ _ q)<|t _ h1
 ·intro _ _ _ _ _ _ _ _ e h;simp only[D.py]at h;cases h
 ·intro _ _ _ _ _ _ _ _ e h;simp only[D.py]at h;cases h
 ·intro _ _ _ _ _ _ _ _ _ _ e h;simp only[D.py]at h;cases h
 ·intro _ _ _ _ e h;simp only[D.py]at h;cases h
 ·intro _ _ _ _ _ _ _ _ _ _ _ _ e h;simp only[D.py]at h;cases h
 ·intro _ _ _ _ _ _ e h;simp only[D.py]at h;cases h
 ·intro _ _ e h;simp only[D.py]at h;cases h
 ·intro e h;rw[D.pys]at h;cases h;exact .nil
 ·intro _ _ _ _ _ _ p t e h;rw[D.pys]at h;obtain⟨y,ys,h1,h2,h3⟩:=fE h;cases h3;exact .cons (p _ h1)<|t _ h2
theorem Pr.toPy (f:∀d v e,R d v->d.py=Z e->L2.Dt K H v e){vs:List V}{es:List dX}(h:Pr R Y vs)(e:D.pys Y=Z es):L2.Ü K H vs es:=by
 induction h generalizing es with
 |nil=>rw[D.pys]at e;cases e;exact .nil
 |cons h t ih=>rw[D.pys]at e;obtain⟨y,ys,h1,h2,h3⟩:=fE e;cases h3;exact .cons (f _ _ _ h h1)<|ih h2
theorem Al.toPy (s:d9 F H){v:V}{e:dX}(h:Al K M F H n d v)(q:d.py=Z e):L2.Dt K H v e:=by
 induction n generalizing d v e with
 |zero=>exact Dt.toPy s h q
 |succ n ih=>
  cases h with
  |inl h=>exact Dt.toPy s h q
  |inr h=>
   cases h with
   |lst h t=>rw[D.py]at q;obtain⟨ys,h1,h2⟩:=dh q;cases h2;exact .lst (i6.of h)<|Pr.toPy (λ_ _ _=>ih) t h1
   |tup h t=>rw[D.py]at q;obtain⟨ys,h1,h2⟩:=dh q;cases h2;exact .tup (oP.of<|s _ _ h)<|Pr.toPy (λ_ _ _=>ih) t h1
   |_=>simp only[D.py]at q;cases q
noncomputable def sS (a:dX):Bool:=a.canLay0&&decide (a.depth<=60)
def jQ (neg:Bool)(x y:D):Option D:=x.py.bind λa=>y.py.bind λb=>if sS a=Â/\sS b=Â then Z (.bl<|if neg then !dX.eqv a b else dX.eqv a b)else S
theorem ud:sK K M n m k (Gi K neg) (jQ neg):=by
 intro F H x y d1 d2 d Q s l1 l2 e w;obtain⟨a,b,h1,h2,h3⟩:=fE e;by_cases h:sS a=Â/\sS b=Â
 ·rw[if_pos h]at h3;cases h3;have o1:=h.1;have o2:=h.2;unfold sS at o1 o2;rw[dP,decide_eq_true_iff]at o1 o2;exact⟨a,b,Al.toPy s l1 h1,Al.toPy s l2 h2,o1.1,o2.1,fk (Nat.min_le_left _ _) o1.2,w _ F H (.refl s)<|Al.of<|.bl _⟩
 ·rw[if_neg h]at h3;cases h3
variable {κ:Type}{fP:my}
theorem Pr.atI {vs:List V}{i:Int}(h:Pr R Y vs)(e:atI Y i=Z d):∃v,atI vs i=Z v/\R d v:=by unfold L2.atI at e ⊢;rw[←h.length];obtain⟨j,h1,h2⟩:=dh e;obtain⟨v,h3,h4⟩:=h.get' h2;exact⟨v,by rw[h1];exact h3,h4⟩
def D2:D->Option kr
 |.int i=>Z<|.inl i
 |.str x=>Z<|.inr x
 |_=>S
def yE:List D->Option (List kr)
 |[]=>Z []
 |d::Y=>(D2 d).bind λk=>(yE Y).bind λks=>Z (k::ks)
noncomputable def qK [DecidableEq κ](ks:List κ)(Y:List D)(k:κ):Option D:=((ks.zip Y).find? λp=>decide<|p.1=k).map (·.2)
def RO (R:D->V->Prop):Option D->Option V->Prop
 |some d,Z u=>R d u
 |none,S=>True
 |_,_=>False
theorem RO.some_of {q:Option V}(h:RO R (Z d) q):∃u,q=Z u/\R d u:=by
 cases q with
 |none=>exact h.elim
 |some u=>exact⟨u,rfl,h⟩
theorem RO.none_of {q:Option V}(h:RO R S q):q=S:=by
 cases q with
 |none=>rfl
 |some u=>exact h.elim
theorem Ol {κ:Type}[DecidableEq κ]{R:D->V->Prop}{k:κ}:∀{ks:List κ} {Y:List D} {vs:List V},Pr R Y vs->RO R (qK ks Y k) (nw (ks.zip vs) k)
 |[],_,_,_=>by simp[qK,nw,RO]
 |_::_,_,_,.nil=>by simp[qK,nw,RO]
 |y::ks,d::Y,v::vs,.cons h t=>by
  by_cases e:y=k
  ·have h1:qK (y::ks) (d::Y) k=Z d:=by simp[qK,fJ,e]
   have h2:nw ((y::ks).zip (v::vs)) k=Z v:=by simp[nw,fJ,e]
   rw[h1,h2];exact h
  ·have h1:qK (y::ks) (d::Y) k=qK ks Y k:=by simp[qK,fJ,e]
   have h2:nw ((y::ks).zip (v::vs)) k=nw (ks.zip vs) k:=by simp[nw,fJ,e]
   rw[h1,h2];exact Ol t
theorem Lh {v:V}{k:kr}(e:D2 d=Z k)(h:Al K M F W' n d v):v=kV k:=by
 cases d with
 |int i=>cases e;exact h.int
 |str i=>cases e;exact h.str
 |_=>cases e
theorem OE {vs:List V}(e:yE Y=Z ks)(h:Pr (Al K M F W' n) Y vs):vs=ks.map kV:=by
 induction h generalizing ks with
 |nil=>cases e;rfl
 |cons h t ih=>unfold yE at e;obtain⟨k,ks,h1,h2,h3⟩:=fE e;cases h3;rw[Lh h1 h,ih h2];rfl
def lZ (o y:D):Option (Option D):=match o with
 |.dK ks Y=>(D2 y).bind λk=>Z<|qK ks Y k
 |.dT ks Y=>(match y with|.tup ys=>(yE ys).bind λk=>Z (qK ks Y k)|_=>S)
 |_=>S
theorem JB {o y:D}{x v:V}(s:d9 F W')(l1:Al K M F W' n o x)(l2:Al K M F W' m y v){r:Option D}(e:lZ o y=Z r) :
  ∃a q,x=.ref a/\pK W' a v q/\GV W' a/\RO (Al K M F W'<|n-1) r q:=by
 cases o with
 |dK ks Y=>obtain⟨a,vs,rfl,ha,hl,hp⟩:=l1.dK s;obtain⟨k,h1,h2⟩:=dh e;cases h2;have hv:=Lh h1 l2;subst hv;exact⟨a,_,rfl,pK.k ha,.inl ⟨_,.inl ha⟩,Ol hp⟩
 |dT ks Y=>
  obtain⟨a,vs,rfl,ha,hl,hp⟩:=l1.dT s;cases y with
  |tup ys=>obtain⟨k,h1,h2⟩:=dh e;cases h2;obtain⟨b,us,rfl,hb,Iz⟩:=l2.tup s;have hv:=OE h1 Iz;subst hv;exact⟨a,_,rfl,.inr ⟨_,_,_,ha,rfl,hb,rfl⟩,.inr ⟨_,ha⟩,Ol hp⟩
  |_=>cases e
 |_=>cases e
def gK:D->D->Option D
 |.lst Y,.int i=>atI Y i
 |.tup Y,.int i=>atI Y i
 |.kt Y,.int i=>atI Y i
 |.str x,.int i=>if x.length<=16777216 then(atI x.cps.toList i).bind λc=>Z (.str ⟨#[c]⟩)else S
 |_,_=>S
theorem Lm:sK K M n m (n-1) (Qg K) gK:=by
 intro F H x y d1 d2 d Q s l1 l2 e w;cases d1 with
 |lst Y=>
  cases d2 with
  |int i=>obtain⟨a,vs,rfl,ha,hp⟩:=l1.lst s;obtain⟨v,h1,h2⟩:=hp.atI e;exact .inl ⟨a,vs,i,v,rfl,l2.int,ha,h1,w v F H (.refl s) h2⟩
  |_=>cases e
 |tup Y=>
  cases d2 with
  |int i=>obtain⟨a,vs,rfl,ha,hp⟩:=l1.tup s;obtain⟨v,h1,h2⟩:=hp.atI e;exact .inr<|.inl ⟨a,vs,i,v,rfl,l2.int,oP.of ha,h1,w v F H (.refl s) h2⟩
  |_=>cases e
 |kt Y=>
  cases d2 with
  |int i=>obtain⟨a,vs,rfl,ha,hp⟩:=l1.kt;obtain⟨v,h1,h2⟩:=hp.atI e;exact .inr<|.inl ⟨a,vs,i,v,rfl,l2.int,.inr ha,h1,w v F H (.refl s)<|Al.of h2⟩
  |_=>cases e
 |str z=>
  cases d2 with
  |int i=>
   unfold gK at e;dsimp only at e;by_cases h:z.length<=16777216
   ·rw[if_pos h]at e;obtain⟨c,h1,h2⟩:=dh e;cases h2;exact .inr (.inr ⟨z,i,c,l1.str,l2.int,by rw[eD];exact h,h1,w _ F H (.refl s)<|Al.of<|.str _⟩)
   ·rw[if_neg h]at e;cases e
  |_=>cases e
 |_=>cases e
theorem JM (hu:X.A.units+1<i8)(ha:XE X M L n a f)(hb:XE X M L m b g)(hs:vY b):XE X M L (n-1) (.Subscript a b pos) (λO=>(f O).bind λx=>(g O).bind λy=>(lZ x y).join):=by obtain⟨ta,tb,pa,pb,q⟩:=ha.bin hb;refine⟨_,zrc hu pa pb hs,λF0 B F H O U d Q rs e w=>?_⟩;obtain⟨d1,d2,h1,h2,h3⟩:=fE e;refine q F0 B F H O U d1 d2 _ rs h1 h2 λx y F' G x1 l1 l2=>?_;obtain⟨a,o,rfl,g,_,h⟩:=JB (r:=some d) x1.fh l1 l2<|zq h3;obtain⟨u,rfl,D0⟩:=h.some_of;exact⟨a,u,rfl,g,w u F' G x1 D0⟩
theorem ϵ (hu:X.A.units+1<i8)(ho:XE X M L n o f)(he:XE X M L m e g)(h1:M1 X o "get" fG e fP):XE X M L (n-1) (.Call (.Attribute o "get" fG) [e] [] fP) (λO=>(f O).bind λx=>(g O).bind λy=>(lZ x y).bind λr=>Z<|r.getD .non):=by
 obtain⟨ta,pa,qa⟩:=ho;obtain⟨tb,pb,qb⟩:=he;refine⟨_,Zv hu pa pb h1,λF0 B F H O U d Q rs e w=>?_⟩;obtain⟨d1,d2,e1,e2,e3⟩:=fE e;obtain⟨r,e4,e5⟩:=dh e3;cases e5;refine qa F0 B F H O U d1 _ rs e1 λx F1 H1 x1 l1=>?_;have:∃a,x=.ref a/\GV H1 a:=by
  cases d1 with
  |dK ks Y=>obtain⟨a,vs,rfl,ha,_⟩:=l1.dK x1.fh;exact⟨a,rfl,.inl ⟨_,.inl ha⟩⟩
  |dT ks Y=>obtain⟨a,vs,rfl,ha,_⟩:=l1.dT x1.fh;exact⟨a,rfl,.inr ⟨_,ha⟩⟩
  |_=>cases e4
 obtain⟨a,rfl,M5⟩:=this;refine⟨a,rfl,M5,qb F0 B F1 H1 O U d2 _ (rs.ext x1) e2 λy F2 H2 x2 l2=>?_⟩;obtain⟨a',o,ea,gg,_,h⟩:=JB (r:=r) x2.fh (l1.mono x2.ff x2.hh) l2 e4;cases ea;refine⟨o,gg,?_⟩;cases r with
 |none=>rw[h.none_of];exact w _ F2 H2 (x1.trans x2)<|Al.of .non
 |some d=>obtain⟨u,rfl,D0⟩:=h.some_of;exact w _ F2 H2 (x1.trans x2) D0
theorem ϴ {z:Expr}(hu:X.A.units+1<i8)(ho:XE X M L n o f)(he:XE X M L m e g)(hz:XE X M L (n-1) z h)(h1:M2 X o "get" fG e z fP):XE X M L (n-1) (.Call (.Attribute o "get" fG) [e,z] [] fP) (λO=>(f O).bind λx=>(g O).bind λy=>(h O).bind λz=>(lZ x y).bind λr=>Z<|r.getD z):=by
 obtain⟨ta,pa,qa⟩:=ho;obtain⟨tb,pb,qb⟩:=he;obtain⟨tc,pc,qc⟩:=hz;refine⟨_,Zw hu pa pb pc h1,λF0 B F H O U d Q rs e w=>?_⟩;obtain⟨d1,d2,e1,e2,e3⟩:=fE e;obtain⟨d3,e6,e7⟩:=dh e3;obtain⟨r,e4,e5⟩:=dh e7;cases e5;refine qa F0 B F H O U d1 _ rs e1 λx F1 H1 x1 l1=>?_;have:∃a,x=.ref a/\GV H1 a:=by
  cases d1 with
  |dK ks Y=>obtain⟨a,vs,rfl,ha,_⟩:=l1.dK x1.fh;exact⟨a,rfl,.inl ⟨_,.inl ha⟩⟩
  |dT ks Y=>obtain⟨a,vs,rfl,ha,_⟩:=l1.dT x1.fh;exact⟨a,rfl,.inr ⟨_,ha⟩⟩
  |_=>cases e4
 obtain⟨a,rfl,M5⟩:=this;refine⟨a,rfl,M5,qb F0 B F1 H1 O U d2 _ (rs.ext x1) e2 λy F2 H2 x2 l2=>?_⟩;refine qc F0 B F2 H2 O U d3 _ (rs.ext<|x1.trans x2) e6 λz F3 H3 x3 l3=>?_;have pf:=x2.trans x3;obtain⟨a',o,ea,gg,_,h⟩:=JB (r:=r) pf.fh (l1.mono pf.ff pf.hh) (l2.mono x3.ff x3.hh) e4;cases ea;refine⟨o,gg,?_⟩;cases r with
 |none=>rw[h.none_of];exact w _ F3 H3 (x1.trans pf) l3
 |some d=>obtain⟨u,rfl,D0⟩:=h.some_of;exact w _ F3 H3 (x1.trans pf) D0
def Dk:D->D->Bool
 |.non,.non=>Â
 |.bl a,.bl b=>a==b
 |.bl a,.int b=>(if a then 1 else 0)==b
 |.int a,.bl b=>a==(if b then 1 else 0)
 |.int a,.int b=>a==b
 |.str a,.str b=>a==b
 |_,_=>Ã
theorem Tt {x y:D}(hx:x.sc=Â)(hy:y.sc=Â):BC x.v y.v=Dk x y:=by cases x<;>first|cases hx;done|(cases y<;>first|cases hy;done|rfl)
def Dv (x:D)(Y:List D):Bool:=Y.any λy=>Dk y x
theorem Lz {x:D}(hx:x.sc=Â):∀{Y:List D},Y.all D.sc=Â->Kt x.v (Y.map D.v)=Dv x Y
 |[],_=>rfl
 |d::Y,h=>by rw[hG,dP]at h;have ih:=Lz hx h.2;unfold Kt Dv at ih ⊢;rw[dJ,iZ,iZ,ih,Tt h.1 hx]
theorem qf:∀{Y:List D},Y.all D.sc=Â->(Y.map D.v).all mS=Â
 |[],_=>rfl
 |d::Y,h=>by rw[hG,dP]at h;rw[dJ,hG,D.flat h.1,qf h.2];rfl
def ê (neg:Bool)(x y:D):Option D:=match y with
 |.lst Y=>if x.sc=Â/\Y.all D.sc=Â then Z (.bl<|if neg then !Dv x Y else Dv x Y)else S
 |.tup Y=>if x.sc=Â/\Y.all D.sc=Â then Z (.bl<|if neg then !Dv x Y else Dv x Y)else S
 |.kt Y=>if x.sc=Â/\Y.all D.sc=Â then Z (.bl<|if neg then !Dv x Y else Dv x Y)else S
 |_=>S
theorem Hu:sK K M n m k (Nz K neg) (ê neg):=by
 intro F H x y d1 d2 d Q s l1 l2 e w;cases d2 with
 |lst Y=>
  unfold ê at e;dsimp only at e;by_cases h:d1.sc=Â/\Y.all D.sc=Â
  ·rw[if_pos h]at e;cases e;obtain⟨a,vs,rfl,ha,hp⟩:=l2.lst s;have hv:=hp.vs h.2;subst hv;have hx:=Al.v l1 h.1;subst hx;refine⟨a,_,rfl,.inl ha,D.flat h.1,qf h.2,?_⟩;rw[Lz h.1 h.2];exact w _ F H (.refl s)<|Al.of<|.bl _
  ·rw[if_neg h]at e;cases e
 |tup Y=>
  unfold ê at e;dsimp only at e;by_cases h:d1.sc=Â/\Y.all D.sc=Â
  ·rw[if_pos h]at e;cases e;obtain⟨a,vs,rfl,ha,hp⟩:=l2.tup s;have hv:=hp.vs h.2;subst hv;have hx:=Al.v l1 h.1;subst hx;refine⟨a,_,rfl,.inr<|oP.of ha,D.flat h.1,qf h.2,?_⟩;rw[Lz h.1 h.2];exact w _ F H (.refl s)<|Al.of<|.bl _
  ·rw[if_neg h]at e;cases e
 |kt Y=>
  unfold ê at e;dsimp only at e;by_cases h:d1.sc=Â/\Y.all D.sc=Â
  ·rw[if_pos h]at e;cases e;obtain⟨a,vs,rfl,ha,hp⟩:=l2.kt;have hv:=Pr.vs (n:=0) (F:=F) (W':=H) (hp.mono λ_ _ q=>q) h.2;subst hv;have hx:=Al.v l1 h.1;subst hx;refine⟨a,_,rfl,.inr<|.inr ha,D.flat h.1,qf h.2,?_⟩;rw[Lz h.1 h.2];exact w _ F H (.refl s)<|Al.of<|.bl _
  ·rw[if_neg h]at e;cases e
 |_=>cases e
def iE:List D->Option D
 |[.lst Y]=>Z<|.int Y.length
 |[.tup Y]=>Z<|.int Y.length
 |[.kt Y]=>Z<|.int Y.length
 |[.dK ks _]=>Z<|.int ks.length
 |[.str x]=>if x.length<=16777216 then Z (.int x.length)else S
 |_=>S
def Ji (K:cX):List V->Hp->VK->Prop:=λxs H Q=>(∃p ys,xs=[.ref p]/\(i6 K H p ys\/oP K H p ys)/\Q (.int ys.length) H)\/(∃z,xs=[.str z]/\z.length<=sizeLine/\Q (.int z.length) H)\/∃a fF,xs=[V.ref a]/\H a=Z (.dK fF)/\Q (.int fF.length) H
theorem Ze:iL X (.builtin "len") (Ji X.K):=WY.or<|WZ.or Y5
theorem ϳ:Dh K M [n] k (Ji K) iE:=by
 intro F H vs Y d Q s l e w;cases l with
 |cons h t=>
  cases t;rename_i d1 v;cases d1 with
  |lst xs=>cases e;obtain⟨a,us,rfl,ha,hp⟩:=h.lst s;refine .inl ⟨a,us,rfl,.inl ha,?_⟩;rw[←hp.length];exact w _ F H (.refl s)<|Al.of<|.int _
  |tup xs=>cases e;obtain⟨a,us,rfl,ha,hp⟩:=h.tup s;refine .inl ⟨a,us,rfl,.inr<|oP.of ha,?_⟩;rw[←hp.length];exact w _ F H (.refl s)<|Al.of<|.int _
  |kt xs=>cases e;obtain⟨a,us,rfl,ha,hp⟩:=h.kt;refine .inl ⟨a,us,rfl,.inr<|.inr ha,?_⟩;rw[←hp.length];exact w _ F H (.refl s)<|Al.of<|.int _
  |str x=>
   unfold iE at e;dsimp only at e;by_cases hz:x.length<=16777216
   ·rw[if_pos hz]at e;cases e;exact .inr (.inl ⟨x,by rw[h.str],by rw[eD];exact hz,w _ F H (.refl s)<|Al.of<|.int _⟩)
   ·rw[if_neg hz]at e;cases e
  |dK ks xs=>cases e;obtain⟨a,us,rfl,ha,hl,hp⟩:=h.dK s;refine .inr<|.inr ⟨a,_,rfl,ha,?_⟩;rw[gx,←hl,iB];exact w _ F H (.refl s)<|Al.of<|.int _
  |_=>cases e
variable {ι:Type}{cap:List Nat}{pA:Expr}{ifs:List Expr}{om:List Mo}{scope:pI}
theorem ł {Xs:ι->Cx}(hK:∀i,(Xs i).K=K)(h:∀i,XO (Xs i) M L n e f):∃t,(∀i,PE (Xs i) e t)/\∀(F0 B F H:Hp) (O:Env) (U:St) (d:D) (Q:VK),RS K M F0 B L F H O U->f O=Z d ->
  (∀v F' G fp,iJ F H F' G->Ow K M F' G n d v fp->fp.Nodup->(∀a∈fp,H a=S)->Q v G)->t U H Q:=by
 refine⟨λU H Q=>∀i,(h i).choose U H Q,λi cW s U H Q I q=>(h i).choose_spec.1 cW s U H Q I<|q i,λF0 B F H O U d Q rs e w i=>?_⟩;exact(h i).choose_spec.2 F0 B F H O U d Q (by rw[hK i];exact rs) e λv F' G fp x l=>w v F' G fp x (by rw[←hK i];exact l)
def DI (X:Cx)(M:Nat->cZ)(L:List Mo)(ifs:List Expr)(f:BF):Prop:=∃t,EI X ifs t/\∀(F0 B F H:Hp) (O:Env) (U:St) (b:Bool) (Q:Bool->Hp->Prop),RS X.K M F0 B L F H O U->f O=Z b->(∀F' G,iJ F H F' G->Q b G)->t U H Q
def gY:BF:=λ_=>Z Â
theorem yh:DI X M L [] gY:=⟨_,zre,λF0 B F H O U b Q rs e w=>by cases e;exact w F H<|.refl rs.fh⟩
theorem Ho (h:XT X M L c p):DI X M L [c] p:=by obtain⟨t,pt,qt⟩:=h;exact⟨t,zrf pt,qt⟩
theorem Ł {Xs:ι->Cx}{f:BF}(hK:∀i,(Xs i).K=K)(h:∀i,DI (Xs i) M L ifs f):∃t,(∀i,EI (Xs i) ifs t)/\∀(F0 B F H:Hp) (O:Env) (U:St) (b:Bool) (Q:Bool->Hp->Prop),RS K M F0 B L F H O U->f O=Z b ->
  (∀F' G,iJ F H F' G->Q b G)->t U H Q:=by
 refine⟨λU H Q=>∀i,(h i).choose U H Q,λi cW s U H Q I q=>(h i).choose_spec.1 cW s U H Q I<|q i,λF0 B F H O U d Q rs e w i=>?_⟩;exact(h i).choose_spec.2 F0 B F H O U d Q (by rw[hK i];exact rs) e w
def E4 (g:α->St->Hp->(St->Hp->Prop)->Prop):Prop:=∀v U H Q Q',(∀σ' G,Q σ' G->Q' σ' G)->g v U H Q->g v U H Q'
def Cm (X:Cx)(M:Nat->cZ)(L:List Mo)(own n:Nat)(tg:Expr)(g:D->Env->Option Env):Prop:=∃t,PG X tg t/\kY own t/\E4 t/\∀(F0 B F H:Hp) (O ρ':Env) (U:St) (d:D) (v:V) (Q:St->Hp->Prop),RS X.K M F0 B L F H O U->Al X.K M F B n d v->g d O=Z ρ' ->
 (∀σ',RS X.K M F0 B L F H ρ' σ'->Q σ' H)->t v U H Q
theorem ŀ {Xs:ι->Cx}{own:Nat}{g:D->Env->Option Env}(hK:∀i,(Xs i).K=K)(h:∀i,Cm (Xs i) M L own n tg g):∃t,(∀i,PG (Xs i) tg t)/\kY own t/\∀(F0 B F H:Hp) (O ρ':Env) (U:St) (d:D) (v:V) (Q:St->Hp->Prop),RS K M F0 B L F H O U->Al K M F B n d v->g d O=Z ρ' ->
  (∀σ',RS K M F0 B L F H ρ' σ'->Q σ' H)->t v U H Q:=by
 refine⟨λv U H Q=>∀i,(h i).choose v U H Q,λi cW s U H v u Q I r q=>(h i).choose_spec.1 cW s U H v u Q I r<|q i,λv U H Q q i=>(h i).choose_spec.2.1 v U H Q<|q i,λF0 B F H O ρ' U d v Q rs l e w i=>?_⟩;exact(h i).choose_spec.2.2.2 F0 B F H O ρ' U d v Q (by rw[hK i];exact rs) (by rw[hK i];exact l) e λσ' r=>w σ' (by rw[←hK i];exact r)
theorem Z9 {own:Nat}(ho:i<own)(hm:L[i]?=Z (.ow 0))(hN:X.N.Nodup)(hi:X.N[i]?=Z x)(hx:ë X.env.scope x)
  (hf:xE X x:=by walk_at "v2"):Cm X M L own 0 (.Name x pos) (gV i):=by
 refine⟨_,RY hN hi hx hf,Yp i own ho,λv U H Q Q' m q=>m _ _ q,λF0 B F H O ρ' U d v Q rs l e w=>?_⟩;cases e;exact w _ (rs.set hm (.refl rs.fh) (Ow.zero l) d4 λa z=>(by cases z))
def F8 (own:Nat)(g:Di):Prop:=∀v U H Q,g v U H Q->g v U H λσ' G=>Q σ' G/\σ'.length = U.length/\∀i,own<=i->σ'[i]? = U[i]?
def DF (X:Cx)(M:Nat->cZ)(L:List Mo)(own n:Nat)(pG:List Expr)(g:List D->Env->Option Env):Prop:=∃t,FD X pG t/\F8 own t/\E4 t/\(∀Y O ρ',g Y O=Z ρ'->Y.length=pG.length)/\∀(F0 B F H:Hp) (O ρ':Env) (U:St) (Y:List D) (vs:List V) (Q:St->Hp->Prop),RS X.K M F0 B L F H O U->Pr (Al X.K M F B n) Y vs->g Y O=Z ρ' ->
 (∀σ',RS X.K M F0 B L F H ρ' σ'->Q σ' H)->t vs U H Q
theorem ja {own:Nat}:DF X M L own n [] Ò:=by
 refine⟨_,RZ,λv U H Q q=>⟨q.1,q.2,rfl,λ_ _=>rfl⟩,λv U H Q Q' m q=>⟨q.1,m _ _ q.2⟩,λY O ρ' e=>?_,λF0 B F H O ρ' U Y vs Q rs l e w=>?_⟩
 ·cases Y with
  |nil=>rfl
  |cons d Y=>cases e
 ·cases l with
  |nil=>cases e;exact⟨rfl,w U rs⟩
  |cons _ _=>cases e
theorem yr {own:Nat}(h1:Cm X M L own n tg gg)(h2:DF X M L own n pG gs)
  (hs:(eY (tg::pG) X.env).map (·.2)=kU tg X.env::(eY pG X.env).map (·.2):=by rfl):DF X M L own n (tg::pG) (Í gg gs):=by
 obtain⟨t,pt,kt,mt,qt⟩:=h1;obtain⟨t2,sR,Vs,P4,Ng,sX⟩:=h2;refine⟨_,Rz pt sR hs,λvs U H Q q=>?_,λvs U H Q Q' m q=>?_,λY O ρ' e=>?_,λF0 B F H O ρ' U Y vs Q rs l e w=>?_⟩
 ·obtain⟨v,r,e,q⟩:=q;refine⟨v,r,e,mt _ _ _ _ _ (λσ' G z=>?_)<|kt v U H _ q⟩;obtain⟨z1,z2,z3⟩:=z;refine P4 _ _ _ _ _ (λσ2 H2 y=>?_)<|Vs r σ' G Q z1;exact⟨y.1,y.2.1.trans z2,λi hi=>(y.2.2 i hi).trans<|z3 i hi⟩
 ·obtain⟨v,r,e,q⟩:=q;exact⟨v,r,e,mt _ _ _ _ _ (λσ' G z=>P4 _ _ _ _ _ m z) q⟩
 ·cases Y with
  |nil=>cases e
  |cons d Y=>obtain⟨ρ1,h3,h4⟩:=dh e;rw[dw,dw,Ng _ _ _ h4]
 ·cases l with
  |nil=>cases e
  |cons h t'=>obtain⟨ρ1,h3,h4⟩:=dh e;exact⟨_,_,rfl,qt F0 B F H O ρ1 U _ _ _ rs h h3 λσ1 r1=>sX F0 B F H ρ1 ρ' σ1 _ _ _ r1 t' h4 w⟩
theorem Hq {own:Nat}(hc:X.calm=Â)(h:DF X M L own (n-1) pG gs)(hl:(eY pG X.env).length=pG.length:=by rfl)(jH:(eY pG X.env).findIdx? (·.1)=S:=by rfl):Cm X M L own n (.Tuple pG j pos) (gT gs):=by
 obtain⟨t,pt,kt,mt,lt,qt⟩:=h;refine⟨_,S2 (n:=pG.length) hc pt hl jH,λv U H Q q=>?_,λv U H Q Q' m q=>?_,λF0 B F H O ρ' U d v Q rs l e w=>?_⟩
 ·obtain⟨a,xs,e,h1,h2,q⟩:=q;exact⟨a,xs,e,h1,h2,kt _ _ _ _ q⟩
 ·obtain⟨a,xs,e,h1,h2,q⟩:=q;exact⟨a,xs,e,h1,h2,mt _ _ _ _ _ m q⟩
 cases d with
 |tup Y=>
  have:∃a vs,v=.ref a/\oP X.K H a vs/\Pr (Al X.K M F B<|n-1) Y vs:=by
   cases n with
   |zero=>
    have l:Dt X.K M F (.tup Y) v:=l;cases l with
    |tup q t=>exact⟨_,_,rfl,oP.of<|rs.fh _ _ q,t.pr⟩
   |succ n=>
    rcases l with l|l
    ·cases l with
     |tup q t=>exact⟨_,_,rfl,oP.of<|rs.fh _ _ q,t.pr.mono λ_ _=>Al.of⟩
    ·cases l with
     |tup q t=>exact⟨_,_,rfl,oP.of<|rs.fh _ _ q,t⟩
  obtain⟨a,vs,rfl,ha,hp⟩:=this;exact⟨a,vs,rfl,ha,hp.length.symm.trans<|lt _ _ _ e,qt F0 B F H O ρ' U Y vs Q rs hp e w⟩
 |_=>cases e
def rY (O:Env)(cap:List Nat):Env:=cap.map λi=>(O[i]?).join
def jZ (L:List Mo)(cap:List Nat):List Mo:=cap.map λi=>.al<|((L[i]?).map Mo.lv).getD 0
def pz (g:D->Env->Option Env)(p:BF)(f:EF)(ρ0:Env):List D->Option (List D)
 |[]=>Z []
 |d::Y=>(g d ρ0).bind λρ1=>(p ρ1).bind λb=>if b=Â then(f ρ1).bind λy=>(pz g p f ρ0 Y).bind λys=>Z (y::ys)else pz g p f ρ0 Y
def fY (fi:Env->Option (List D))(own:Nat)(cap:List Nat)(g:D->Env->Option Env)(p:BF)(f:EF):EF:=λO=>(fi O).bind λY=>if Y.length<=16777216 then(pz g p f (dg own S++rY O cap) Y).bind λys=>Z (.lst ys)else S
theorem SL.caps {F B H:Hp}{L:List Mo}{O:Env}{U:St}(rs:RS K M F0 B L F H O U):∀{cap:List Nat},(∀i∈cap,i<L.length)->SL K M F H H (jZ L cap) (rY O cap) (lX U cap) []
 |[],_=>.nil
 |i::cap,h=>by
  have ih:=SL.caps rs (cap:=cap) λj hj=>h j<|df _ hj;have hi:i<L.length:=h i cV;have hm:L[i]?=Z L[i]:=by simp[hi]
  show SL K M F H H (.al (((L[i]?).map Mo.lv).getD 0)::jZ L cap) ((O[i]?).join::rY O cap) ((U[i]?).join::lX U cap) [];cases e:(O[i]?).join with
  |none=>exact .no ih
  |some d=>obtain⟨v,hv,l⟩:=rs.get hm<|zq e;rw[hv,hm];exact .al l ih
theorem SL.nones {F B H:Hp}{L Nj:List Mo}{O:Env}{U:St}{fp:List cZ}(t:SL K M F B H L O U fp):∀{om:List Mo},SL K M F B H (om++L) (dg om.length S ++ O) (dg om.length S ++ U) fp
 |[]=>t
 |m::om=>.no<|SL.nones (Nj:=Nj) t
theorem RE {pos:my}{own:Nat}{c:Prop}
  (B:og X scope N own cap) (hc:c) (ho:om.length=own) (qL:∀i∈cap,i<L.length) (hi:DG X c M L n tg iter fi)
  (hg:∀cl C fp s₀ H₀,Cm (m8 X scope cl N C fp s₀ H₀) M (om++jZ L cap) own n tg gg) (ht:∀cl C fp s₀ H₀,DI (m8 X scope cl N C fp s₀ H₀) M (om++jZ L cap) ifs p) (he:∀cl C fp s₀ H₀,XO (m8 X scope cl N C fp s₀ H₀) M (om++jZ L cap) k pA f)
  :
  ∃wi g tt te,GY X c tg iter wi/\kY own g/\(∀cl C fp s₀ H₀,PG (m8 X scope cl N C fp s₀ H₀) tg g)/\(∀cl C fp s₀ H₀,EI (m8 X scope cl N C fp s₀ H₀) ifs tt)/\(∀cl C fp s₀ H₀,PE (m8 X scope cl N C fp s₀ H₀) pA te) /\
   ∀(F0 B F H:Hp) (O:Env) (U:St) (d:D) (Q:VK),RS X.K M F0 B L F H O U->fY fi own cap gg p f O=Z d->(∀v F' G fp,iJ F H F' G->Ow X.K M F' G (k+1) d v fp->fp.Nodup->(∀a∈fp,H a=S)->Q v G)->Bj wi own cap g tt te U H Q:=by
 obtain⟨wi,pi,qi⟩:=hi;obtain⟨NS,pg,kg,qg⟩:=ŀ (K:=X.K) (Xs:=λz:List (Str×cZ)×cZ×List cZ×de×Hp=>m8 X scope z.1 N z.2.1 z.2.2.1 z.2.2.2.1 z.2.2.2.2) (λ_=>rfl)<|λz=>hg z.1 z.2.1 z.2.2.1 z.2.2.2.1 z.2.2.2.2;obtain⟨tt,pt,qt⟩:=Ł (K:=X.K) (Xs:=λz:List (Str×cZ)×cZ×List cZ×de×Hp=>m8 X scope z.1 N z.2.1 z.2.2.1 z.2.2.2.1 z.2.2.2.2) (λ_=>rfl)<|λz=>ht z.1 z.2.1 z.2.2.1 z.2.2.2.1 z.2.2.2.2;obtain⟨te,pe,qe⟩:=ł (K:=X.K) (Xs:=λz:List (Str×cZ)×cZ×List cZ×de×Hp=>m8 X scope z.1 N z.2.1 z.2.2.1 z.2.2.2.1 z.2.2.2.2) (λ_=>rfl)<|λz=>he z.1 z.2.1 z.2.2.1 z.2.2.2.1 z.2.2.2.2;refine⟨wi,NS,tt,te,pi,kg,(λcl C fp s₀ H₀=>pg (cl,C,fp,s₀,H₀)),(λcl C fp s₀ H₀=>pt (cl,C,fp,s₀,H₀)),(λcl C fp s₀ H₀=>pe (cl,C,fp,s₀,H₀)),λF0 B F H O U r Q rs e w=>?_⟩;obtain⟨Y,h1,h2⟩:=dh e;by_cases hz:Y.length<=16777216
 case neg=>rw[if_neg hz]at h2;cases h2
 rw[if_pos hz]at h2;obtain⟨ys,h3,h4⟩:=dh h2;cases h4;refine qi F0 B F H O U Y _ rs h1 λL' F1 H1 x1 ok A hA=>?_;have m9:=rs.ext x1;refine⟨λi m us H2=>m=Y.length-i/\i<=Y.length/\us.length<=i/\H2 A=Z (.lst us)/\∃F2 yd zd fp,iJ F1 H1 F2 H2/\F2 A=S/\iW (Ow X.K M F2 H2 k) yd us fp/\fp.Nodup/\(∀a∈fp,H1 a=S/\a≠A)/\pz gg p f (dg own S++rY O cap) (Y.drop i)=Z zd/\yd++zd=ys,
  ⟨Y.length,rfl,gQ _,dE _,zo,F1,[],ys,[],iJ.newO x1.fh hA _,x1.fh.free hA,.nil,d4,λa z=>(by cases z),h3,rfl⟩,?_⟩
 rintro i m us H2 ⟨rfl,PQ,MU,J8,F2,yd,zd,fp,x2,fA,ol,nd,hf,iY,Kq⟩;refine⟨J8,?_⟩;have VJ:=m9.ext x2;obtain⟨k1,k2⟩:=ok i F2 H2 x2.ff x2.hh x2.fh;by_cases vI:i<Y.length
 ·right;have hd:Y[i]?=Z Y[i]:=by simp[vI]
  obtain⟨go,yl⟩:=k1 _ hd;rw[jV vI]at iY;obtain⟨ρ1,h5,h6⟩:=dh iY;obtain⟨b,h7,h8⟩:=dh h6;refine⟨go,by rw[eD];lia,λx H3 y=>?_⟩;obtain⟨F3,x3,l⟩:=yl x H3 y;have VL:=VJ.ext x3;have sl:=SL.nones (Nj:=[]) (SL.caps VL qL) (om:=om);rw[ho]at sl;have VM:RS X.K M F3 H3 (om++jZ L cap) F3 H3 (dg own S++rY O cap) (dg own S++lX U cap):=⟨.refl _,.refl _,x3.fh,λ_ _ _ _ h=>h,[],sl,d4,λa z=>(by cases z)⟩;have A3:H3 A=Z (.lst us):=x3.hh _ _ J8;have Pl:F3 A=S:=x3.nf A _ J8 nofun fA;refine qg F3 H3 F3 H3 _ ρ1 _ _ x _ VM (l.mono (.refl _) (x2.trans x3).hh) h5 λσ1 r1=>?_;refine qt F3 H3 F3 H3 ρ1 σ1 b _ r1 h7 λF4 H4 x4=>?_;cases b with
  |false=>rw[if_neg di]at h8 ⊢;have Qq:=x3.trans x4;refine⟨Y.length-(i+1),by lia,rfl,vI,by lia,x4.hh _ _ A3,F4,yd,zd,fp,x2.trans Qq,x4.nf A _ A3 nofun Pl,ol.mono λ_ _ _ _ o=>o.ext Qq,nd,hf,h8,Kq⟩
  |true=>
   rw[if_pos rfl]at h8 ⊢;obtain⟨yv,h9,UH⟩:=dh h8;obtain⟨zs,UI,UJ⟩:=dh UH;cases UJ;refine qe F3 H3 F4 H4 ρ1 σ1 yv _ (r1.ext x4) h9 λv F5 H5 f5 x5 o5 n5 MD=>?_;have NV:=(x3.trans x4).trans x5;have Qr:=x4.trans x5;have A5:H5 A=Z (.lst us):=Qr.hh _ _ A3;have Pm:F5 A=S:=Qr.nf A _ A3 nofun Pl;have A4:H4 A=Z (.lst us):=x4.hh _ _ A3;have Po:∀a∈f5,a≠A:=λa z e=>by rw[e]at z;rw[MD A z]at A4;cases A4
   refine⟨A5,Y.length-(i+1),by lia,rfl,vI,by rw[d7,yY];lia,zo,F5,yd++[yv],zs,fp++(f5++[]),?_,Pm,?_,?_,?_,UI,by rw[kQ];exact Kq⟩
   ·have KN:=x2.trans NV;refine⟨KN.ff,λa o h=>?_,λa o h=>?_,KN.nf⟩
    ·rw[zn<|zp h hA];exact KN.hh _ _ h
    ·rw[zn<|λz=>by rw[z]at h;rw[Pm]at h;cases h];exact KN.fh _ _ h
   ·refine(ol.mono λ_ _ f UZ o=>?_).append<|.cons ?_ .nil
    ·refine(o.ext NV).frame (.refl _) λa z=>⟨zn (hf a<|UZ a z).2,((o.ext NV).cells a z).1⟩
    ·exact o5.frame (.refl _) λa z=>⟨zn<|Po a z,(o5.cells a z).1⟩
   ·rw[d6];refine dm.mpr ⟨nd,n5,λa z c hc e=>?_⟩;subst e;have:∃o,H2 a=Z o:=let⟨o,h,_⟩:=(iW.cellsOf ol a z).2;⟨o,h⟩;obtain⟨o,ho⟩:=this;have:=x4.hh _ _<|x3.hh _ _ ho;rw[MD a hc]at this;cases this
   ·intro a z;rw[d6]at z;rcases dD.mp z with z|z
    ·exact hf a z
    ·refine⟨?_,Po a z⟩;have V8:=x2.trans<|x3.trans x4;exact V8.hh.free<|MD a z
 ·left;refine⟨k2<|by lia,?_⟩
  have:Y.drop i=[]:=nP (by lia);rw[this]at iY;cases iY;rw[d6]at Kq;subst Kq;refine w _ F2 H2 (A::fp) (x1.trans x2) (.inr<|.lst fA J8 ol) (eJ.mpr ⟨λz=>(hf A z).2 rfl,nd⟩) λa z=>?_;rcases dn.mp z with rfl|z
  ·exact x1.hh.free hA
  ·exact x1.hh.free (hf a z).1
theorem OF {own:Nat}{c:Prop}
  (B:og X scope N own cap) (hc:c) (ho:om.length=own) (qL:∀i∈cap,i<L.length) (hi:DG X c M L n tg iter fi)
  (hg:∀cl C fp s₀ H₀,Cm (m8 X scope cl N C fp s₀ H₀) M (om++jZ L cap) own n tg gg) (ht:∀cl C fp s₀ H₀,DI (m8 X scope cl N C fp s₀ H₀) M (om++jZ L cap) ifs p) (he:∀cl C fp s₀ H₀,XO (m8 X scope cl N C fp s₀ H₀) M (om++jZ L cap) k pA f)
  (hs:B4 X iter:=by intro _;rfl):XO X M L (k+1) (.ListComp pA [⟨tg,iter,ifs,0⟩] scope pos) (fY fi own cap gg p f):=by
 obtain⟨wi,g,tt,te,pi,kg,pg,pt,pe,q⟩:=RE (k:=k) (pos:=pos) B hc ho qL hi hg ht he;exact⟨_,zrg B hc pi kg pg pt pe hs,q⟩
variable {uU:List Expr}{pt:my}
def JX:D->Option (List D)
 |.lst Y=>Z Y
 |_=>S
theorem qj (h:JX d=Z Y):d=.lst Y:=by cases d<;>simp[JX]at h;subst h;rfl
def Ú (f:EF):Env->Option (List D):=λO=>(f O).bind JX
theorem JN {W':Hp}{a:cZ}{vs:List V}(hp:Pr (Al K M F B n) Y vs)(keep:∀F' G,d9 F F'->d9 B G->d9 F' G->i6 K G a vs):Bx K M F B n (GW K a) Y:=by intro i F' G s1 s2 s3;have hs:i6 K G a vs:=keep F' G s1 s2 s3;refine⟨λd hd=>?_,λhl=>⟨vs,hs,by rw[←hp.length];exact hl⟩⟩;obtain⟨v,hv,l⟩:=hp.get' hd;refine⟨⟨vs,v,hs,hv⟩,λx H2 y=>?_⟩;obtain⟨e,y⟩:=y;subst e;have:=y vs hs;rw[hv]at this;cases this;exact⟨F',.refl s3,l.mono s1<|.refl _⟩
theorem Dt.lst_inv {v:V}(h:Dt K M F (.lst Y) v):∃a vs,v=.ref a/\i6 K F a vs/\Ü K M F Y vs:=by
 cases h with
 |lst q t=>exact⟨_,_,rfl,q,t⟩
theorem uq (he:XE X M L 0 e f):XI X M L 0 tg e (Ú f):=by obtain⟨t,pt,qt⟩:=he;refine⟨_,Ox pt,λF0 B F H O U Y R rs e w=>?_⟩;obtain⟨d,h1,h2⟩:=dh e;rw[qj h2]at h1;refine qt F0 B F H O U _ _ rs h1 λv F' G x l=>?_;obtain⟨a,vs,rfl,ha,hp⟩:=Dt.lst_inv l;exact⟨a,rfl,⟨vs,x.fh.seq ha⟩,w _ F' G x<|JN (W':=G) (n:=0) (hp.pr) λF2 H2 s1 s2 s3=>s3.seq<|s1.seq ha⟩
theorem yk (he:XE X M L n e f):å X M L (n-1) tg e (Ú f):=by obtain⟨t,pt,qt⟩:=he;refine⟨_,Ox pt,λF0 B F H O U Y R rs e w=>?_⟩;obtain⟨d,h1,h2⟩:=dh e;rw[qj h2]at h1;refine qt F0 B F H O U _ _ rs h1 λv F' G x l=>?_;obtain⟨a,vs,rfl,ha,hp⟩:=l.lst x.fh;exact⟨a,rfl,⟨vs,ha⟩,w _ F' G x<|JN (W':=G) hp λF2 H2 s1 s2 s3=>s2.seq ha⟩
theorem XI.cc (h:XI X M L n tg e fi):å X M L n tg e fi:=by obtain⟨t,pt,qt⟩:=h;refine⟨t,pt,λF0 B F H O U Y R rs e w=>qt F0 B F H O U Y R rs e λL' F' G x ok=>w L' F' G x λi F2 H2 s1 s2 s3=>?_⟩;obtain⟨k1,k2⟩:=ok i F2 H2 s1 ((rs.ext x).bh.trans s2) s3;refine⟨λd hd=>?_,k2⟩;obtain⟨go,yl⟩:=k1 d hd;refine⟨go,λv H3 y=>?_⟩;obtain⟨F3,x3,l⟩:=yl v H3 y;exact⟨F3,x3,l.mono (.refl _) (rs.ext x).bh⟩
theorem SL.getA (h0:SL K M F B H L O U fp):L[i]?=Z (.al n)->O[i]?=Z (Z d)->∃v,U[i]?=Z (Z v)/\Al K M F B n d v:=by
 induction h0 generalizing i with
 |nil=>intro e _;simp at e
 |@no m0 o0 L O U fp t ih=>
  intro e e';cases i with
  |zero=>have e:=e';simp at e
  |succ i=>simpa using ih (i:=i) (by simpa using e) (by simpa using e')
 |@al n0 d0 v0 L O U fp h t ih=>
  intro e e';cases i with
  |zero=>simp at e e';subst e;subst e';exact⟨_,rfl,h⟩
  |succ i=>simpa using ih (i:=i) (by simpa using e) (by simpa using e')
 |@px d0 v0 L O U fp h t ih=>
  intro e e';cases i with
  |zero=>simp at e
  |succ i=>simpa using ih (i:=i) (by simpa using e) (by simpa using e')
 |@so d0 x0 L O U f0 L9 h t ih=>
  intro e e';cases i with
  |zero=>simp at e
  |succ i=>simpa using ih (i:=i) (by simpa using e) (by simpa using e')
 |@ow n0 d0 v0 L O U f0 L9 h t ih=>
  intro e e';cases i with
  |zero=>simp at e
  |succ i=>simpa using ih (i:=i) (by simpa using e) (by simpa using e')
theorem zr0 (i:Nat)(hm:L[i]?=Z (.al<|n+1):=by rfl)(hN:X.N[i]?=Z x:=by rfl)(hv:pN X.env.scope x:=by walk_at "v1")(hd:iM x:=by decide)
  (iY:qD x:=by decide):XI X M L n tg (.Name x pos) (Ú<|J i):=by
 refine⟨_,Ox<|yb hN hv hd iY,λF0 B F H O U Y R rs e w=>?_⟩;obtain⟨d,h1,h2⟩:=dh e;rw[qj h2]at h1;obtain⟨fp,sl,_,_⟩:=rs.sl;obtain⟨v,EZ,l⟩:=sl.getA hm<|zq h1;refine⟨v,EZ,?_⟩;rcases l with l|l
 ·obtain⟨a,vs,rfl,ha,hp⟩:=Dt.lst_inv l;exact⟨a,rfl,⟨vs,rs.fh.seq ha⟩,w _ F H (.refl rs.fh)<|JN (W':=H) (hp.pr.mono λ_ _=>Al.of) λF2 H2 s1 s2 s3=>s3.seq<|s1.seq ha⟩
 ·cases l with
  |lst ha hp=>exact⟨_,rfl,⟨_,i6.of<|rs.bh _ _ ha⟩,w _ F H (.refl rs.fh)<|JN (W':=H) hp λF2 H2 s1 s2 s3=>i6.of<|s2 _ _ ha⟩
noncomputable def uZ (lo:Int)(j:Nat):List D:=(kz j).map λ(t:Nat)=>.int<|lo+(t:Int)
def o6:List D->Option (List D)
 |[.int j]=>if -4611686018427387904<=j/\j<4611686018427387904 then Z (uZ 0 j.toNat)else S
 |_=>S
theorem Š {lo:Int}:Bx K M F B n (JR lo j) (uZ lo j):=by
 intro i F' G s1 s2 s3;unfold uZ;refine⟨λd hd=>?_,λhl=>(show j<=i by simpa using hl)⟩;rw[ix]at hd;by_cases h:i<j
 ·rw[AM h]at hd;cases hd;refine⟨h,λx H2 y=>?_⟩;obtain⟨e,y⟩:=y;subst e;subst y;exact⟨F',.refl s3,Al.of<|.int _⟩
 ·rw[yX<|by simpa using h]at hd;cases hd
theorem yu (hm:X.mg "range"=S)(ha:XA X M L [a] [m] fs)(hg:Gl X "range":=by rfl)(hs:SN X a:=by rfl):XI X M L n tg (.Call (.Name "range" pp) [a] [] pos) (λO=>(fs O).bind o6):=by
 obtain⟨t,pt,_,qt⟩:=ha;refine⟨_,Ys hg hm pt hs,λF0 B F H O U Y R rs e w=>?_⟩;obtain⟨rZ,h1,h2⟩:=dh e;refine qt F0 B F H O U _ _ rs h1 λvs F' G x l=>?_;cases l with
 |cons h t=>
  cases t;rename_i d v;cases d with
  |int j=>
   unfold o6 at h2;dsimp only at h2;by_cases hj:-4611686018427387904<=j/\j<4611686018427387904
   ·rw[if_pos hj]at h2;cases h2;exact⟨j,by rw[h.int],by lia,by lia,w _ F' G x Š⟩
   ·rw[if_neg hj]at h2;cases h2
  |_=>cases h2
def l4 (i:Nat):List D->List D
 |[]=>[]
 |d::Y=>.tup [.int i,d]::l4 (i+1) Y
theorem Rh:∀{Y:List D} {j i:Nat} {d:D},(l4 j Y)[i]?=Z d->∃x,Y[i]?=Z x/\d=.tup [.int (j+i:Nat),x]
 |[],_,_,_,h=>by simp[l4]at h
 |x::Y,j,0,d,h=>by simp[l4]at h;subst h;exact⟨x,rfl,rfl⟩
 |x::Y,j,i+1,d,h=>by obtain⟨y,h1,h2⟩:=Rh (Y:=Y) (j:=j+1) (i:=i) (d:=d) (by simpa[l4]using h);exact⟨y,by simpa using h1,by rw[h2,Nat.add_assoc,Nat.add_comm 1 i]⟩
theorem Ri:∀{Y:List D} {j:Nat},(l4 j Y).length=Y.length
 |[],_=>rfl
 |_::Y,j=>by simp[l4,Ri (Y:=Y)]
theorem SV {a:cZ}{vs:List V}(hp:Pr (Al K M F B n) Y vs)(keep:∀F' G,d9 F F'->d9 B G->d9 F' G->i6 K G a vs):Bx K M F B (n+1) (LG K a) (l4 0 Y):=by intro i F' G s1 s2 s3;have hs:i6 K G a vs:=keep F' G s1 s2 s3;refine⟨λd hd=>?_,λhl=>⟨vs,hs,by rw[←hp.length];rw[Ri]at hl;exact hl⟩⟩;obtain⟨x,hx,rfl⟩:=Rh hd;obtain⟨v,hv,l⟩:=hp.get' hx;refine⟨⟨vs,v,hs,hv⟩,λz H2 y=>?_⟩;obtain⟨r,y',hr,rfl,rfl,y⟩:=y;have:=y vs hs;rw[hv]at this;cases this;refine⟨_,iJ.newS s3 hr _,.inr<|.tup zo<|.cons (Al.of ?_)<|.cons (l.mono (s1.trans<|xl (s3.free hr) _)<|.refl _) .nil⟩;rw[Nat.zero_add];exact .int _
theorem K6 {kt:Nat}(hm:X.mg "enumerate"=S)(ha:XA X M L [a] [0] fs)(hg:Gl X "enumerate":=by rfl)(hs:SN X a:=by rfl) :
  XI X M L 1 (.Tuple uU kt pt) (.Call (.Name "enumerate" pp) [a] [] pos) (λO=>(fs O).bind λY=>match Y with|[.lst xs]=>Z (l4 0 xs)|_=>S):=by
 obtain⟨t,pt,_,qt⟩:=ha;refine⟨_,R5 hg hm pt hs,λF0 B F H O U Y R rs e w=>?_⟩;obtain⟨rZ,h1,h2⟩:=dh e;refine qt F0 B F H O U _ _ rs h1 λvs F' G x l=>?_;cases l with
 |cons h t=>
  cases t;rename_i d v;cases d with
  |lst xs=>cases h2;obtain⟨a,vs,rfl,ha,hp⟩:=Dt.lst_inv h;exact⟨a,rfl,⟨vs,x.fh.seq ha⟩,w _ F' G x<|SV (n:=0) hp.pr λF2 H2 s1 s2 s3=>s3.seq<|s1.seq ha⟩
  |_=>cases h2
theorem zoo {kt:Nat}(hm:X.mg "enumerate"=S)(ha:XA X M L [a] [n] fs)(hg:Gl X "enumerate":=by rfl)(hs:SN X a:=by rfl) :
  å X M L (n-1+1) (.Tuple uU kt pt) (.Call (.Name "enumerate" pp) [a] [] pos) (λO=>(fs O).bind λY=>match Y with|[.lst xs]=>Z (l4 0 xs)|_=>S):=by
 obtain⟨t,pt,_,qt⟩:=ha;refine⟨_,R5 hg hm pt hs,λF0 B F H O U Y R rs e w=>?_⟩;obtain⟨rZ,h1,h2⟩:=dh e;refine qt F0 B F H O U _ _ rs h1 λvs F' G x l=>?_;cases l with
 |cons h t=>
  cases t;rename_i d v;cases d with
  |lst xs=>cases h2;obtain⟨a,vs,rfl,ha,hp⟩:=h.lst x.fh;exact⟨a,rfl,⟨vs,ha⟩,w _ F' G x<|SV hp λF2 H2 s1 s2 s3=>s2.seq ha⟩
  |_=>cases h2
variable {d':D}{fj:EF}{p1 ko:my}
theorem Ow.lst_inv {v:V}(h:Ow K M F H (k+1) (.lst Y) v fp):∃a vs fr,v=.ref a/\fp=a::fr/\F a=S/\H a=Z (.lst vs)/\iW (Ow K M F H k) Y vs fr:=by
 rcases h with⟨h,_⟩|h
 ·cases h
 ·cases h with
  |lst h1 h2 h3=>exact⟨_,_,_,rfl,rfl,h1,h2,h3⟩
theorem Ow.dK_inv {v:V}(h:Ow K M F H (k+1) (.dK ks Y) v fp):∃a vs fr,v=.ref a/\fp=a::fr/\F a=S/\H a=Z (.dK<|ks.zip vs)/\ks.length=vs.length/\iW (Ow K M F H k) Y vs fr:=by
 rcases h with⟨h,_⟩|h
 ·cases h
 ·cases h with
  |dK h1 h2 h3 h4=>exact⟨_,_,_,rfl,rfl,h1,h2,h3,h4⟩
theorem Ow.dT_inv {ks:List (List kr)}{v:V}(h:Ow K M F H (k+1) (.dT ks Y) v fp):∃a vs fr,v=.ref a/\fp=a::fr/\F a=S/\H a=Z (.dT<|ks.zip vs)/\ks.length=vs.length/\iW (Ow K M F H k) Y vs fr:=by
 rcases h with⟨h,_⟩|h
 ·cases h
 ·cases h with
  |dT h1 h2 h3 h4=>exact⟨_,_,_,rfl,rfl,h1,h2,h3,h4⟩
theorem RS.change {v:V}{f1 fr fn:List cZ}{ad:cZ}{o:HO}(rs:RS K M F0 B L F H O U)(hm:L[i]?=Z (.ow k))(x:iJ F H F' G)
  (hσ:U[i]?=Z (Z v)) (b1:∀a∈f1,B a=S) (dj:∀a∈f1,a∉fr) (cf:∀a∈fr,F a=S/\∃o,H a=Z o/\mh o)
  (put:∀(F' G:Hp) (d':D) (v':V) (f':List cZ),d9 F F'->d9 B G->d9 F' G->(∀a o,B a=Z o->mh o->F0 a=S->F' a=S)->(∀a∈fr,G a=H a/\F' a=S)->Ow K M F' G k d' v' f'->f'.Nodup->(∀a∈f',a∉fr)->(∀a∈f',B a=S) ->
    RS K M F0 B L F' G (O.set i<|Z d') (U.set i<|Z v'))
  (Kc:ad∈f1) (L8:F' ad=S) (o':Ow K M F' (upd G ad o) k d' v fn) (nd:fn.Nodup) (zS:∀a∈fn,a∈f1\/H a=S):RS K M F0 B L F' (upd G ad o) (O.set i<|Z d') U:=by
 have r:=rs.ext x;have hB:B ad=S:=b1 ad Kc;have res:=put F' (upd G ad o) d' v fn x.ff (λz u h=>by rw[zn<|λe=>by rw[e,hB]at h;cases h];exact r.bh _ _ h) (λz u h=>by rw[zn<|λe=>by rw[e,L8]at h;cases h];exact x.fh _ _ h) r.nf
  (λz hz=>by obtain⟨hn,o,ho,nt⟩:=cf z hz;refine⟨?_,x.nf z o ho nt hn⟩;have ne:z≠ad:=λe=>dj ad Kc (by rw[←e];exact hz);rw[zn ne];exact(x.hh _ _ ho).trans ho.symm) o' nd
  (λz hz zr=>by
   rcases zS z hz with h|h
   ·exact dj z h zr
   ·obtain⟨_,o,ho,nt⟩:=cf z zr;rw[h]at ho;cases ho)
  (λz hz=>(zS z hz).elim (b1 z) λh=>rs.bh.free h)
 have e:U.set i (Z v) = U:=by
  apply mL;intro j;by_cases hj:i=j
  ·subst hj;rw[iR (by have:=ee.mp hσ;exact this.1),hσ]
  ·rw[gj hj]
 rw[e]at res;exact res
def â (i:Nat)(f:EF):SF:=λO=>(J i O).bind λo=>(f O).bind λd=>match o with
 |.lst Y=>if Y.length<16777216 then Z (.nx<|O.set i<|Z<|.lst<|Y++[d])else S
 |_=>S
theorem xu (i:Nat)(hm:L[i]?=Z (.ow<|k+1))(he:XO X M L k e f)(hN:X.N[i]?=Z x:=by rfl)(hv:pN X.env.scope x:=by walk_at "v1")(hd:iM x:=by decide)
  (iY:qD x:=by decide) (jH:SE X e []:=by rfl)
  (lr:lU (.Name x p1) "append" X.env (eP (.Name x p1) X.env)=eP (.Name x p1) X.env:=by rfl)
  (oq:DD X fP [e]:=by rfl)
  (lz:(fG.endLine==fP.line)=Â:=by rfl) (jG:lV X fP []:=by rfl)
  (CF:gc (.Call (.Attribute (.Name x p1) "append" fG) [e] [] fP) S pos.line X.env=pure Ã:=by rfl) :
  XS X M L rk (.Expr (.Call (.Attribute (.Name x p1) "append" fG) [e] [] fP) pos) (â i f):=by
 obtain⟨t,pt,qt⟩:=he;refine⟨_,w9 (Fv PySem.F.plainAttrs_list PySem.F.slot_list_append PySem.F.type_list_append N7 (yb hN hv hd iY) (ya pt yz jH) lr oq lz jH jG) CF,λF0 B F H O U o E rs e z=>?_⟩;obtain⟨d1,d2,h1,h2,h3⟩:=fE e;obtain⟨f1,fr,n1,b1,dj,i4,cf,put⟩:=rs.put (F':=F) (G:=H) hm;obtain⟨v,hσ,ow⟩:=i4 d1<|zq h1;refine⟨v,hσ,?_⟩;cases d1 with
 |lst Y=>
  dsimp only at h3;by_cases hz:Y.length<16777216
  ·rw[if_pos hz]at h3;cases h3;obtain⟨ad,vs,Cr,rfl,rfl,hF,hH,ol⟩:=ow.lst_inv;refine⟨.inl ⟨rfl,_,i6.of hH⟩,qt F0 B F H O U d2 _ rs h2 λv2 F' G fp x1 o2 Nk Hc=>?_⟩;have hA:G ad=Z (.lst vs):=x1.hh _ _ hH;have fA:F' ad=S:=x1.nf ad _ hH nofun hF;have nA:∀a∈fp,a≠ad:=λa hz e=>by rw[e]at hz;rw[Hc ad hz]at hH;cases hH
   have Hg:=eJ.mp n1;refine⟨ad,vs,v2,rfl,rfl,hA,by rw[←ol.length,eD];exact hz,?_⟩;refine z U F' _<|rs.change hm x1 hσ b1 dj cf put cV fA (.inr<|.lst fA zo<|(ol.mono λ_ _ f' hi o'=>?_).append<|.cons (f:=fp) ?_ .nil) (fn:=ad::(Cr++(fp++[]))) ?_ ?_
   ·refine(o'.ext x1).frame (.refl _) λa ha=>⟨zn λe=>Hg.1 (e▸hi a ha),((o'.ext x1).cells a ha).1⟩
   ·exact o2.frame (.refl _) λa ha=>⟨zn<|nA a ha,(o2.cells a ha).1⟩
   ·rw[d6];refine eJ.mpr ⟨λhz=>?_,dm.mpr ⟨Hg.2,Nk,λa ha b hb e=>?_⟩⟩
    ·rcases dD.mp hz with hz|hz
     ·exact Hg.1 hz
     ·exact nA ad hz rfl
    ·subst e;obtain⟨_,o,ho,_⟩:=iW.cellsOf ol a ha;rw[Hc a hb]at ho;cases ho
   ·intro a ha;rw[d6]at ha;rcases dn.mp ha with rfl|ha
    ·exact .inl cV
    ·rcases dD.mp ha with ha|ha
     ·exact .inl<|df _ ha
     ·exact .inr<|Hc a ha
  ·rw[if_neg hz]at h3;cases h3
 |_=>cases h3
def Bi (Y:List D)(i:Int)(d:D):Option (List D):=(ú Y.length i).bind λj=>Z<|Y.set j d
noncomputable def oG [DecidableEq κ](ks:List κ)(Y:List D)(k:κ)(d:D):List κ×List D:=if ks.contains k=Â then(ks,(ks.zip Y).map λp=>if p.1=k then d else p.2)else(ks++[k],Y++[d])
def yP (i:Nat)(fj f:EF):SF:=λO=>(f O).bind λd=>(J i O).bind λo=>(fj O).bind λj=>match o,j with
 |.lst Y,.int z=>(Bi Y z d).bind λrZ=>Z<|.nx<|O.set i<|Z<|.lst rZ
 |_,_=>S
theorem iW.set0 {R:D->V->List cZ->Prop}{d:D}{v:V}(r:R d v [])(z:∀d v f,R d v f->f=[]):∀{Y:List D} {vs:List V} {fp:List cZ} (i:Nat),iW R Y vs fp->iW R (Y.set i d) (vs.set i v) []
 |_,_,_,_,.nil=>.nil
 |_,_,_,0,.cons h t=>by have:=iW.cons (f:=[]) (g:=[]) r (iW.ofPr<|t.pr λd v f _ q=>by have:=z _ _ _ q;subst this;exact q);exact this
 |_,_,_,i+1,.cons h t=>by have e:=z _ _ _ h;subst e;exact iW.cons (f:=[]) (g:=[]) h<|iW.set0 r z i t
theorem Ow.nil0 {v:V}(h:Ow K M F H 0 d v fp):fp=[]:=h.2
theorem iW.nil0 {vs:List V}(h:iW (Ow K M F H 0) Y vs fp):fp=[]:=by
 induction h with
 |nil=>rfl
 |cons h t ih=>rw[h.nil0,ih];rfl
theorem Sm (i:Nat){j:Expr}(hm:L[i]?=Z (.ow 1))(hj:XE X M L n j fj)(he:XE X M L 0 e f)(hN:X.N[i]?=Z x:=by rfl)(hv:pN X.env.scope x:=by walk_at "v1")(hd:iM x:=by decide)
  (iY:qD x:=by decide)
  (ha:∀v,kU (.Subscript (.Name x p1) j ko) X.env v=(do
   let ov ← fH [v] (eP (.Name x p1) X.env)
   let iv ← fH [v,ov] (eP j X.env)
   ij ko
   fH [v,ov,iv] (rq ov iv v)
   xP [v,ov,iv] []):=by intro _;rfl)
  (hs:n4 [.Subscript (.Name x p1) j ko] e pos.line X.env=pure Ã:=by rfl) (hw:nZ [.Subscript (.Name x p1) j ko] e X.env=pure S:=by rfl)
  (h1:(eY [.Subscript (.Name x p1) j ko] X.env).map (·.2)=[kU (.Subscript (.Name x p1) j ko) X.env]:=by rfl) :
  XS X M L rk (.Assign [.Subscript (.Name x p1) j ko] e pos) (yP i fj f):=by
 obtain⟨t,pt,qt⟩:=he;obtain⟨tj,CP,CT⟩:=hj;refine⟨_,Lj pt (OL (yb hN hv hd iY) CP KO ha) hs hw h1,λF0 B F H O U o E rs e z=>?_⟩;obtain⟨d,g1,g2⟩:=dh e;obtain⟨d1,wH,g3,g4,g5⟩:=fE g2;refine qt F0 B F H O U d _ rs g1 λv0 F1 H1 x1 l0=>?_;have m9:=rs.ext x1;obtain⟨f1,fr,n1,b1,dj,i4,cf,put⟩:=m9.put (F':=F) (G:=H) hm;obtain⟨v,hσ,ow⟩:=i4 d1<|zq g3;refine⟨v,hσ,CT F0 B F1 H1 O U wH _ m9 g4 λvj F2 H2 x2 lj=>?_⟩;cases d1 with
 |lst Y=>
  cases wH with
  |int zi=>obtain⟨rZ,g6,g7⟩:=dh g5;cases g7;obtain⟨jn,g8,g9⟩:=dh g6;cases g9;obtain⟨ad,vs,Cr,rfl,rfl,hF,hH,ol⟩:=ow.lst_inv;have hA:H2 ad=Z (.lst vs):=x2.hh _ _ hH;have fA:F2 ad=S:=x2.nf ad _ hH nofun hF;have e0:=ol.nil0;subst e0;refine⟨ad,vs,zi,jn,rfl,lj.int,hA,by rw[←ol.length];exact g8,?_⟩;refine z U F2 _ (m9.change hm x2 hσ b1 dj cf put cV fA (.inr<|.lst fA zo<|iW.set0 ⟨Dt.mono x2.ff l0,rfl⟩ (λ_ _ _ q=>q.2) jn<|ol.mono λ_ _ _ _ q=>⟨q.1.mono x2.ff,q.2⟩) (fn:=[ad]) (by simp) ?_);intro a ha;rw[dW]at ha;subst ha;exact .inl cV
  |_=>cases g5
 |_=>cases g5
variable {Q:VK}{l:cZ}
theorem Nf {cW:List (cZ×gM)}{s:de}{xs:List V}(I:Ç X cW U H s)(hH:Rd H l<|.lst xs):xs.length<=sizeLine/\∃(eG:List cU) (n:Nat),eh xs eG/\xs.length=eG.length/\s.heap.get? l=Z { cls:=.type "list",data:=.seq eG.toArray n }:=by obtain⟨z,eG,n,r,e⟩:=hH.ok I.hok;exact⟨z,eG,n,r,r.length,e⟩
def Fa (K:cX):R2:=λx y H Q=>∃l b xs zs,x=.ref l/\y=.ref b/\i6 K H l xs/\i6 K H b zs/\xs.length+zs.length<=sizeLine/\∀p,H p=S->Q (.ref p) (upd H p<|.lst<|xs++zs)
theorem zr1:lI X (iu .Add) (Fa X.K):=by
 intro cW s U H x y v u Q I rx ry h;obtain⟨l,b,xs,zs,rfl,rfl,hH,hB,hz,q⟩:=h;cases rx;cases ry;obtain⟨eG,r,⟨⟨cls,dd,data,sl⟩,n,e,c1,c2,c3⟩,z⟩:=I.list hH;obtain⟨D1,r2,⟨⟨LO,J0,data2,Kz⟩,n2,e2,c4,c5,c6⟩,z2⟩:=I.list hB;simp only at c1 c3 c4 c6;subst c1 c3 c4 c6;have hl:=r.length;have ET:=r2.length;refine BZ ⟨_,e,rfl⟩ ⟨_,e2,rfl⟩ noFill_list_add seq_list_add PySem.F.slot_list_add PySem.F.entry_list_add (PySem.F.args_list_add_2 _ _) (list_addW l b eG.toArray D1.toArray n n2 dd J0 sl Kz<|by rw[dF,dF];lia) ⟨e,e2,?_⟩;have ea:eG.toArray++D1.toArray=(eG++D1).toArray:=by simp
 rw[ea];exact⟨.ref _,_,I.lnew (t':=s.toks) (r.append r2)<|by rw[d7];lia,rfl,q _ I.fresh⟩
def Jd:R2:=λx y H Q=>∃i j,x=.str i/\y=.str j/\i.length+j.length<=sizeLine/\Q (.str<|i++j) H
def D9 (K:cX):R2:=λx y H Q=>zT (λi j=>.int<|i+j) x y H Q\/Jd x y H Q\/Fa K x y H Q\/Fb K x y H Q
theorem vb:lI X (iu .Add) (D9 X.K):=lI.or Δ<|lI.or Yj<|lI.or zr1 zq5
def dL:D->D->Option D
 |.int i,.int j=>Z<|.int<|i+j
 |.str x,.str y=>if x.length+y.length<=16777216 then Z (.str<|x++y)else S
 |.lst xs,.lst ys=>if xs.length+ys.length<=16777216 then Z (.lst<|xs++ys)else S
 |.tup xs,.tup ys=>if xs.isEmpty=Ã/\ys.isEmpty=Ã/\xs.length+ys.length<=1000000 then Z (.tup<|xs++ys)else S
 |_,_=>S
theorem Pr.ow0 {vs:List V}(h:Pr (Al K M F W' 0) Y vs):iW (Ow K M F H 0) Y vs []:=iW.ofPr<|h.mono λ_ _ q=>⟨q,rfl⟩
theorem Al.lst1 {v:V}(hn:n<=1)(h:Al K M F W' n (.lst Y) v)(s:d9 F W'):∃a vs,v=.ref a/\i6 K W' a vs/\Pr (Al K M F W' 0) Y vs:=by
 obtain⟨a,vs,e,h1,h2⟩:=h.lst s;have:n-1=0:=by lia
 rw[this]at h2;exact⟨a,vs,e,h1,h2⟩
theorem Al.tup1 {v:V}(hn:n<=1)(h:Al K M F W' n (.tup Y) v)(s:d9 F W'):∃a vs,v=.ref a/\W' a=Z (.tup vs)/\Pr (Al K M F W' 0) Y vs:=by
 obtain⟨a,vs,e,h1,h2⟩:=h.tup s;have:n-1=0:=by lia
 rw[this]at h2;exact⟨a,vs,e,h1,h2⟩
theorem vz {vs:List V}(s:d9 F H)(hp:Pr (Al K M F H 0) Y vs)(w:∀v F' G fp,iJ F H F' G->Ow K M F' G 1 (.lst Y) v fp->fp.Nodup->(∀a∈fp,H a=S)->Q v G):∀p,H p=S->Q (.ref p) (upd H p<|.lst vs):=λp h0=>by obtain⟨o,nd⟩:=R6 s (hp.ow0 (H:=H)) h0;exact w _ F _ [p] (iJ.newO s h0 _) o (nd d4) λa z=>by rw[dW]at z;subst z;exact h0
theorem vc (hn:n<=1)(hm:m<=1):HK K M n m 1 (D9 K) dL:=by
 intro F H x y d1 d2 d Q s l1 l2 e w;have ws:∀d v,d.sc=Â->Dt K M F d v->(∀v F' G fp,iJ F H F' G->Ow K M F' G 1 d v fp->fp.Nodup->(∀a∈fp,H a=S)->Q v G)->Q v H:=λd v hs hd w=>w v F H [] (.refl s) (Ow.scal hd hs) d4 λa z=>(by cases z);cases d1 with
 |int i=>
  cases d2 with
  |int j=>cases e;exact .inl ⟨i,j,l1.int,l2.int,ws _ _ rfl (.int _) w⟩
  |_=>cases e
 |str i=>
  cases d2 with
  |str j=>
   unfold dL at e;dsimp only at e;by_cases hz:i.length+j.length<=16777216
   ·rw[if_pos hz]at e;cases e;exact .inr (.inl ⟨i,j,l1.str,l2.str,by rw[eD];exact hz,ws _ _ rfl (.str _) w⟩)
   ·rw[if_neg hz]at e;cases e
  |_=>cases e
 |lst xs=>
  cases d2 with
  |lst ys=>
   unfold dL at e;dsimp only at e;by_cases hz:xs.length+ys.length<=16777216
   ·rw[if_pos hz]at e;cases e;obtain⟨a,vs,rfl,ha,hp⟩:=Al.lst1 hn l1 s;obtain⟨b,us,rfl,hb,hq⟩:=Al.lst1 hm l2 s;exact .inr (.inr<|.inl ⟨a,b,vs,us,rfl,rfl,ha,hb,by rw[←hp.length,←hq.length,eD];exact hz,vz s (hp.append hq) w⟩)
   ·rw[if_neg hz]at e;cases e
  |_=>cases e
 |tup xs=>
  cases d2 with
  |tup ys=>
   unfold dL at e;dsimp only at e;by_cases hz:xs.isEmpty=Ã/\ys.isEmpty=Ã/\xs.length+ys.length<=1000000
   ·rw[if_pos hz]at e;cases e;obtain⟨a,vs,rfl,ha,hp⟩:=Al.tup1 hn l1 s;obtain⟨b,us,rfl,hb,hq⟩:=Al.tup1 hm l2 s;have hl:=hp.length;have ET:=hq.length;have e1:vs≠[]:=λz=>by rw[z]at hl;have:=xC.mp hl;rw[this]at hz;exact absurd hz.1 (by decide)
    have e2:us≠[]:=λz=>by rw[z]at ET;have:=xC.mp ET;rw[this]at hz;exact absurd hz.2.1 (by decide)
    refine .inr (.inr<|.inr ⟨a,b,vs,us,rfl,rfl,oP.of ha,oP.of hb,e1,by rw[←hl,←ET,eD];lia,λz=>absurd z e2,λ_ p h0=>?_⟩);have x2:=iJ.newS s h0<|.tup<|vs++us;exact w _ _ _ [] x2 (.inr<|.tup zo<|iW.ofPr<|(hp.append hq).mono λ_ _ q=>⟨Dt.mono x2.ff q,rfl⟩) d4 λa z=>(by cases z)
   ·rw[if_neg hz]at e;cases e
  |_=>cases e
 |_=>cases e
def Jj:R2:=λx y H Q=>∃l k xs,x=.ref l/\y=.int k/\Rd H l (.lst xs)/\-(2 ^ 63)<=k/\k<2 ^ 63/\xs.length*k.toNat<=sizeLine /\
 ∀p,H p=S->Q (.ref p) (upd H p<|.lst (dg k.toNat xs).flatten)
theorem zr2:lI X (iu .Mult) Jj:=by
 intro cW s U H x y v u Q I rx ry h;obtain⟨l,k,xs,rfl,rfl,hH,h1,h2,hz,q⟩:=h;cases rx;obtain⟨t,rfl⟩:=ry;obtain⟨z,eG,n,r,hl,e⟩:=Nf I hH;have mF:eG.toArray.size*k.toNat<=sizeLine:=by rw[dF,←hl];exact hz
 have qL:¬eG.toArray.size*k.toNat > (2 ^ 63-1)/8:=by
  have:(sizeLine:Nat)<=(2 ^ 63-1)/8:=by decide
  lia
 have ME:¬(!Builtin.List.listFitsIndex k)=Â:=by rw[fitsIndex_both h1 h2];exact di
 have Iu:¬Builtin.List.listTooLong (eG.toArray.size*k.toNat)=Â:=by rw[CM mF];exact di
 have FP:Bm (λx1 x2=>x1++x2) #[] (dg (if eG.toArray.isEmpty=Â then 0 else k.toNat) eG.toArray)=(dg k.toNat eG).flatten.toArray:=by
  have f0:∀m:Nat,Bm (λx1 x2=>x1++x2) #[] (dg m eG.toArray)=(dg m eG).flatten.toArray:=λm=>by have:=Û eG m [];rw[List.nil_append]at this;exact this
  rw[f0];cases eG with
  |nil=>simp
  |cons a r'=>rw[if_neg<|by simp]
 refine wpAny_binaryOp_repeat_ref (T:="list") (U:="int") (by decide) ⟨_,e,rfl⟩ (λs'=>EG s' k t) noFill_list_mul F.fills_int_mul F.slot_int_rmul repeat_list F.slot_int_index.lookup
  (m7 F.slot_int_rmul (EG s k t) F.entry_int_rmul (F.args_int_rmul_2 _ _) (int___rmul___int_list k t l eG.toArray n)
   ⟨e,rfl,⟨_,e,rfl⟩,m7 F.slot_list_mul ⟨_,e,rfl⟩ F.entry_list_mul (F.args_list_mul_2 _ _) (AutoListH.list___mul___list_int_3 l eG.toArray n k t ME qL Iu) ⟨e,?_⟩⟩)
 rw[FP];exact⟨.ref _,_,I.lnew (t':=s.toks) (r.rep k.toNat)<|by rw[zq7,Nat.mul_comm];exact hz,rfl,q _ I.fresh⟩
theorem zop:sK K M n m k (rI vD λi j=>.int<|i*j) ki:=Ϲ
def BQ:D->D->Option D
 |.lst xs,.int j=>if -1000000<j/\j<1000000/\xs.length<=16 then Z (.lst (dg j.toNat xs).flatten)else S
 |_,_=>S
theorem Ln (ha:XO X M L 1 a f)(hb:XE X M L m b g):XO X M L 1 (.BinOp a .Mult b pos) (e2 BQ f g):=by
 obtain⟨ta,pa,qa⟩:=ha;obtain⟨tb,pb,qb⟩:=hb;refine⟨_,O4 zr2 pa pb,λF0 B F H O U d Q rs e w=>?_⟩;obtain⟨d1,d2,h1,h2,h3⟩:=fE e;refine qa F0 B F H O U d1 _ rs h1 λv F1 H1 fp x1 o nd hf=>?_;refine qb F0 B F1 H1 O U d2 _ (rs.ext x1) h2 λv2 F2 H2 x2 l2=>?_;cases d1 with
 |lst xs=>
  cases d2 with
  |int j=>
   unfold BQ at h3;dsimp only at h3;by_cases hz:-1000000<j/\j<1000000/\xs.length<=16
   ·rw[if_pos hz]at h3;cases h3;obtain⟨ad,vs,fr,rfl,rfl,hF,hH,ol⟩:=(o.ext x2).lst_inv;have hp:Pr (Al X.K M F2 H2 0) xs vs:=ol.pr λ_ _ _ _ q=>q.1;have Dx:=x1.trans x2;refine⟨ad,j,vs,rfl,l2.int,.inl hH,by lia,by lia,?_,vz x2.fh (hp.rep _) λv F' G fp x o nd hf=>w v F' G fp (Dx.trans x) o nd λz hz=>Dx.hh.free<|hf z hz⟩;rw[←hp.length,eD];have h1:j.toNat<=1000000:=by lia
    have h2:xs.length*j.toNat<=16*1000000:=Nat.mul_le_mul hz.2.2 h1;lia
   ·rw[if_neg hz]at h3;cases h3
  |_=>cases h3
 |_=>cases h3
def BJ:D->Option D
 |.int i=>Z<|.int<|-i
 |_=>S
theorem Lo (ha:XE X M L n a f):XE X M L k (.UnaryOp .USub a pos) (e1 BJ f):=by
 refine ń Α (λF H x d1 d Q s l e w=>?_) ha;cases d1 with
 |int i=>cases e;exact⟨i,l.int,w _ F H (.refl s)<|Al.of<|.int _⟩
 |_=>cases e
theorem Sn {u:cU}(hg:Gl X x)(hm:X.mg x=Z u)(hs:d.sc=Â)(r:Ì d.v u)(hd:iM x:=by decide):XE X M L n (.Name x pos) (eC d):=by
 refine⟨_,K2 hg hm r hd,λF0 B F H O U d' Q rs e w=>?_⟩;cases e;refine w _ F H (.refl rs.fh)<|Al.of ?_;cases d with
 |non=>exact .non
 |bl b=>exact .bl b
 |int b=>exact .int b
 |str b=>exact .str b
 |_=>cases hs
def yF:List D->Option D
 |[.lst Y]=>Z<|.lst Y
 |[.tup Y]=>Z<|.lst Y
 |_=>S
theorem KR (hn:n<=1):DE K M [n] 1 (λxs H Q=>∃p ys,xs=[.ref p]/\(i6 K H p ys\/oP K H p ys)/\∀l,H l=S->Q (.ref l) (upd H l<|.lst ys)) yF:=by
 intro F H vs Y d Q s l e w;cases l with
 |cons h t=>
  cases t;rename_i d1 v;cases d1 with
  |lst xs=>cases e;obtain⟨a,us,rfl,ha,hp⟩:=Al.lst1 hn h s;exact⟨a,us,rfl,.inl ha,vz s hp w⟩
  |tup xs=>cases e;obtain⟨a,us,rfl,ha,hp⟩:=Al.tup1 hn h s;exact⟨a,us,rfl,.inr<|oP.of ha,vz s hp w⟩
  |_=>cases e
abbrev PF:=Env->Option (Option Int)
def ï:PF:=λ_=>Z S
def Ý (f:EF):PF:=λO=>(f O).bind λd=>match d with
 |.int i=>Z<|Z i
 |_=>S
def XP (X:Cx)(M:Nat->cZ)(L:List Mo)(e:Option Expr)(f:PF):Prop:=∃t,PO X e t/\∀(F0 B F H:Hp) (O:Env) (U:St) (o:Option Int) (Q:Option Int->Hp->Prop),RS X.K M F0 B L F H O U->f O=Z o->(∀F' G,iJ F H F' G->Q o G)->t U H Q
theorem B8:XP X M L S ï:=⟨_,zq4,λF0 B F H O U o Q rs e w=>by cases e;exact w F H<|.refl rs.fh⟩
theorem xw (h:XE X M L n e f):XP X M L (Z e) (Ý f):=by
 obtain⟨t,pt,qt⟩:=h;refine⟨_,Oz pt,λF0 B F H O U o Q rs e w=>?_⟩;obtain⟨d,h1,h2⟩:=dh e;refine qt F0 B F H O U d _ rs h1 λv F' G x l=>?_;cases d with
 |int i=>cases h2;exact⟨i,l.int,w F' G x⟩
 |_=>cases h2
def ā (xs:List D)(lo hi:Option Int):List D:=(xs.drop<|HT.sIx xs.length 0 lo).take<|HT.sIx xs.length xs.length hi-HT.sIx xs.length 0 lo
theorem zr3 {vs:List V}{lo hi:Option Int}(h:Pr R Y vs):Pr R (ā Y lo hi) (BA vs lo hi):=by unfold ā BA;rw[h.length];exact(h.drop _).take _
def jT (d:D)(lo hi:Option Int):Option D:=match d with
 |.lst xs=>Z<|.lst<|ā xs lo hi
 |_=>S
theorem y3 {lo hi:Option Expr}{pl ph:PF}{p1}(hn:n<=1)(he:XE X M L n e f)(hl:XP X M L lo pl)(hh:XP X M L hi ph):XO X M L 1 (.Subscript e (.Slice lo hi S p1) pos) (λO=>(f O).bind λd=>(pl O).bind λl=>(ph O).bind λh=>jT d l h):=by
 obtain⟨t,pt,qt⟩:=he;obtain⟨t1,yL,yO⟩:=hl;obtain⟨t2,sR,sX⟩:=hh;refine⟨_,ZK zq6 pt yL sR,λF0 B F H O U r Q rs e w=>?_⟩;obtain⟨d,l,h1,h2,h3⟩:=fE e;obtain⟨hh,h4,h5⟩:=dh h3;refine qt F0 B F H O U d _ rs h1 λv F1 H1 x1 l1=>?_;refine yO F0 B F1 H1 O U l _ (rs.ext x1) h2 λF2 H2 x2=>?_;refine sX F0 B F2 H2 O U hh _ ((rs.ext x1).ext x2) h4 λF3 H3 x3=>?_;cases d with
 |lst xs=>cases h5;have pf:=x2.trans x3;obtain⟨a,vs,rfl,ha,hp⟩:=Al.lst1 hn (l1.mono pf.ff pf.hh) pf.fh;exact⟨a,vs,rfl,ha,vz pf.fh (zr3 hp) λv F' G fp x o nd hf=>w v F' G fp ((x1.trans pf).trans x) o nd λz hz=>(x1.trans pf).hh.free<|hf z hz⟩
 |_=>cases h5
def BE:List D->Option D
 |[.int i]=>Z<|.int i
 |[.bl b]=>Z<|.int<|if b then 1 else 0
 |_=>S
theorem zr4:Dh K M [n] k (λxs H Q=>(∃i,xs=[.int i]/\Q (.int i) H)\/∃b,xs=[.bl b]/\Q (.int<|if b then 1 else 0) H) BE:=by
 intro F H vs Y d Q s l e w;cases l with
 |cons h t=>
  cases t;rename_i d1 v;cases d1 with
  |int i=>cases e;exact .inl ⟨i,by rw[h.int],w _ F H (.refl s)<|Al.of<|.int _⟩
  |bl i=>cases e;exact .inr ⟨i,by rw[h.bl],w _ F H (.refl s)<|Al.of<|.int _⟩
  |_=>cases e
def LI:List D->Option D
 |[.int i]=>Z<|.int<|if i<0 then -i else i
 |_=>S
def ii (g:Int->Int->D):List D->Option D
 |[.int i,.int j]=>Z<|g i j
 |_=>S
theorem ſ {g:Int->Int->D}(hg:∀i j F,Dt K M F (g i j)<|gv i j):Dh K M [n,m] k (λxs H Q=>∃i j,xs=[.int i,.int j]/\Q (gv i j) H) (ii g):=by
 intro F H vs Y d Q s l e w;cases l with
 |cons h t=>
  cases t with
  |cons h' t=>
   cases t;rename_i d1 v d2 v2;cases d1 with
   |int i=>
    cases d2 with
    |int j=>cases e;exact⟨i,j,by rw[h.int,h'.int],w _ F H (.refl s)<|Al.of<|hg i j F⟩
    |_=>cases e
   |_=>cases e
def yI:List D->Option D:=ii λi j=>.int<|if j > i then j else i
def IS:List D->Option D:=ii λi j=>.int<|if j<i then j else i
theorem Om:Dh K M [n,m] k (λxs H Q=>∃i j,xs=[.int i,.int j]/\Q (.int<|if j > i then j else i) H) yI:=ſ λ_ _ _=>.int _
def Jn (i:Nat)(o:D->D->Option D)(f:EF):SF:=λO=>(J i O).bind λx=>(f O).bind λy=>(o x y).bind λd=>Z<|.nx<|O.set i<|Z d
theorem ž {gi:Int->Int->Int}(ho:GZ X op<|Ku gi)(hm:L[i]?=Z (.ow k))(hN:X.N.Nodup)(hi:X.N[i]?=Z x)(hx:ë X.env.scope x)(he:XE X M L n e f)(hf:xE X x:=by walk_at "v2") :
  XS X M L rk (.AugAssign (.Name x pos') op e pos) (Jn i (i2 λi j=>.int<|gi i j) f):=by
 obtain⟨t,pt,qt⟩:=he;refine⟨_,Ζ hN hi hx pt ho hf,λF0 B F H O U o E rs e z=>?_⟩;obtain⟨d1,d2,h1,h2,h3⟩:=fE e;obtain⟨d,h4,h5⟩:=dh h3;cases h5;obtain⟨v,hv,l⟩:=rs.get hm<|zq h1;refine⟨v,hv,qt F0 B F H O U d2 _ rs h2 λy F' G x1 l2=>?_⟩;cases d1 with
 |int i'=>
  cases d2 with
  |int j'=>cases h4;exact⟨i',j',l.int,l2.int,z _ F' G<|rs.set hm x1 (Ow.scal (.int _) rfl) d4 λa z=>(by cases z)⟩
  |_=>cases h4
 |_=>cases h4
def ă (i j:Nat)(fs:Env->Option (List D)):SF:=λO=>(fs O).bind λY=>match Y with
 |[x,y]=>Z<|.nx<|(O.set i<|Z x).set j<|Z y
 |_=>S
def ì (g:D->Env->Option Env)(f:EF):SF:=λO=>(f O).bind λd=>(g d O).bind λρ'=>Z<|.nx ρ'
theorem SW (he:XE X M L 0 e f)(hg:XG X M L 0 tg gg)(hs:n4 [tg] e pos.line X.env=pure Ã:=by rfl)(hw:nZ [tg] e X.env=pure S:=by rfl)
  (h1:(eY [tg] X.env).map (·.2)=[kU tg X.env]:=by rfl):XS X M L rk (.Assign [tg] e pos) (ì gg f):=by
 obtain⟨t,pt,qt⟩:=he;obtain⟨t2,sR,sX⟩:=hg;refine⟨_,Lj pt sR hs hw h1,λF0 B F H O U o E rs e z=>?_⟩;obtain⟨d,h1,h2⟩:=dh e;obtain⟨ρ',h3,h4⟩:=dh h2;cases h4;exact qt F0 B F H O U d _ rs h1 λv F' G x l=>sX F0 B F' G O ρ' U d v _ (rs.ext x) l h3 λσ' r=>z σ' F' G r
noncomputable def mn:List Nat->List Mo->Bool
 |[],_=>Â
 |n::ns,.al m::L=>decide (n=m)&&mn ns L
 |n::ns,.ow m::L=>decide (n=0)&&decide (m=0)&&mn ns L
 |_,_=>Ã
theorem xg:∀{pm:List Nat} {L:List Mo},mn pm L=Â->∀(i n:Nat),pm[i]?=Z n->L[i]?=Z (Mo.al n)\/(n=0/\L[i]?=Z (Mo.ow 0))
 |[],_,_,i,n,e=>by simp at e
 |x::ns,.al m::L,h,i,n,e=>by
  simp only[mn,dP,decide_eq_true_eq]at h;cases i with
  |zero=>simp at e;subst e;rw[h.1];exact .inl rfl
  |succ i=>simpa using xg h.2 i n (by simpa using e)
 |x::ns,.ow m::L,h,i,n,e=>by
  simp only[mn,dP,decide_eq_true_eq]at h;cases i with
  |zero=>simp at e;subst e;rw[h.1.1,h.1.2];exact .inr ⟨rfl,rfl⟩
  |succ i=>simpa using xg h.2 i n (by simpa using e)
 |_::_,[],h,_,_,_=>by simp[mn]at h
 |_::_,.px _::_,h,_,_,_=>by simp[mn]at h
 |_::_,.so _::_,h,_,_,_=>by simp[mn]at h
def EK (X:Cx)(scope:pI)(N:List Str)(own:Nat)(cap:List Nat):Bool :=
 decide (scope.kind=.function)&&scope.names.all (λx=>(decide (x.2≠.cell) || decide (scope.names.lookup x.1=Z .cell))&&(decide (x.2≠.local) || decide (scope.names.lookup x.1=Z .local))&&(decide (x.2≠.free) || (decide (X.env.kindOf x.1=Z .cell) || decide (X.env.kindOf x.1=Z .free)))) &&
 decide (N.length=own+cap.length)&&(kz cap.length).all λj=>match N[own+j]?,cap[j]? with
  |some x,Z i=>decide (X.N[i]?=Z x)&&decide (scope.names.lookup x=Z .free)
  |_,_=>Ã
theorem Hv {own:Nat}(h:EK X scope N own cap=Â):og X scope N own cap:=by
 unfold EK at h;simp only[dP,decide_eq_true_eq,fN,iV]at h;obtain⟨⟨⟨h1,h2⟩,h3⟩,h4⟩:=h;refine⟨h1,λx hx hl=>((h2 x hx).1.1).elim (λz=>absurd hl z) id,λx hx hl=>((h2 x hx).1.2).elim (λz=>absurd hl z) id,λx hx hf=>((h2 x hx).2).elim (λz=>absurd hf z) id,h3,λj x hj=>?_⟩;have PU:j<cap.length:=by have:=(ee.mp hj).1;lia
 have q:=h4 j<|oX.mpr PU;rw[hj]at q;have hc:cap[j]?=Z cap[j]:=by simp[PU]
 rw[hc]at q;simp only[dP,decide_eq_true_eq]at q;exact⟨_,hc,q.1,q.2⟩
def KM:D->Option String
 |.non=>Z "NoneType"
 |.bl _=>Z "bool"
 |.int _=>Z "int"
 |.str _=>Z "str"
 |.lst _=>Z "list"
 |.tup _=>Z "tuple"
 |.dK _ _=>Z "dict"
 |_=>S
def Qo (K:cX)(H:Hp)(v:V)(t:String):Prop:=pM K H v (.type t)\/(t = "list"/\∃a xs,v=.ref a/\i6 K H a xs)
theorem Al.ty {v:V}{t:String}(s:d9 F H)(h:Al K M F H n d v)(e:KM d=Z t):Qo K H v t:=by
 cases d with
 |non=>cases e;rw[h.non];exact .inl .non
 |bl b=>cases e;rw[h.bl];exact .inl<|.bl b
 |int b=>cases e;rw[h.int];exact .inl<|.int b
 |str b=>cases e;rw[h.str];exact .inl<|.str b
 |lst xs=>cases e;obtain⟨a,vs,rfl,ha,_⟩:=h.lst s;exact .inr ⟨rfl,a,vs,rfl,ha⟩
 |tup xs=>cases e;obtain⟨a,vs,rfl,ha,_⟩:=h.tup s;exact .inl<|.tup ha
 |dK ks xs=>cases e;obtain⟨a,vs,rfl,ha,_⟩:=h.dK s;exact .inl<|.dK ha
 |_=>cases e
theorem Zf:iL X (.builtin "isinstance") (λxs H Q=>∃x c t b,xs=[x,.ty c]/\Qo X.K H x t/\dN X.K (.type t) (.type c)=Z b/\Q (.bl b) H):=by
 intro cW s U H xs us Q I r h;obtain⟨x,c,t,b,rfl,ty,e,q⟩:=h;rcases ty with ty|⟨rfl,a,ys,rfl,hq⟩
 ·exact Zy cW s U H _ us Q I r ⟨x,c,_,b,rfl,ty,e,q⟩
 ·obtain⟨u,w',rfl,ru,uY⟩:=ñ r;cases(show w'=cU.type c from uY);cases(show u=cU.ref a from ru);obtain⟨eG,rv,⟨o,n,h1,h2,_⟩,_⟩:=I.list hq;exact eW p6 I.kIn ⟨o,h1,h2⟩ e (λz=>nomatch z) λtk=>⟨.bl b,H,I.tok tk,rfl,q⟩
noncomputable def II (t c:String):Bool:=t==c || (t == "bool" && c == "int")
theorem zr5:∀t∈(["NoneType","bool","int","str","list","tuple","dict"]:List String),∀c∈(["bool","int","str","list","tuple","dict"]:List String),dN K (.type t) (.type c)=Z (II t c):=by intro t ht c hc;simp only[dn,iK,or_false]at ht hc;rcases ht with rfl|rfl|rfl|rfl|rfl|rfl|rfl<;>rcases hc with rfl|rfl|rfl|rfl|rfl|rfl<;>rfl
theorem zr6 {t:String}(e:KM d=Z t):t∈(["NoneType","bool","int","str","list","tuple","dict"]:List String):=by cases d<;>simp[KM]at e<;>subst e<;>decide
variable {p2:my}
def tO (c:String)(d:D):Option D:=(KM d).bind λt=>Z<|.bl<|II t c
theorem GN {c:String}(hc:c∈(["bool","int","str","list","tuple","dict"]:List String))(hm:X.mg "isinstance"=S)(B7:X.mg c=S)(hb:eM c=Z (.type c))(he:XE X M L n e f)(hg:Gl X "isinstance":=by rfl)(Cw:Gl X c:=by rfl)(Dr:Str.ofString c≠"__name__":=by decide)(hd2:(Str.ofString c==("__debug__":Str))=Ã:=by decide)
  (A0:dM [e,.Name c p2] X.env=(Ã,eP e X.env)::dM [.Name c p2] X.env:=by rfl) (vJ:dM [.Name c p2] X.env=(Ã,eP (.Name c p2) X.env)::dM [] X.env:=by rfl) (iD:(gR pos<|dM [.Name c p2] X.env).any (·.1)=Ã:=by rfl) :
  XE X M L k (.Call (.Name "isinstance" pp) [e,.Name c p2] [] pos) (e1 (tO c) f):=by
 obtain⟨t,pt,qt⟩:=he;refine⟨_,u5 Zf hg hm wk (ya pt (ya (R4 (v:=.ty c) Cw B7 hb rfl Dr hd2) yz vJ) A0) (by decide) (by decide) A0 iD,λF0 B F H O U d Q rs e w=>?_⟩;obtain⟨d1,h1,h2⟩:=dh e;obtain⟨ty,h3,h4⟩:=dh h2;cases h4;exact qt F0 B F H O U d1 _ rs h1 λv F' G x l=>⟨v,c,ty,_,rfl,l.ty x.fh h3,zr5 _ (zr6 h3) _ hc,w _ F' G x<|Al.of<|.bl _⟩
def vN (K:cX):Sp:=λvs H Q _=>∃(a:cZ) (ns:List Int),vs=[.ref a]/\i6 K H a (ns.map V.int)/\ns.length<=63/\∀G,Q (.bl Â) G
theorem Ü.ints {K:cX}{M:Nat->cZ}{F:Hp}:∀ns:List Int,Ü K M F (ns.map D.int) (ns.map V.int)
 |[]=>.nil
 |n::ns=>.cons (.int n)<|Ü.ints ns
theorem Ž {w:d5}{f:cZ}{fd:c9}{m:List D->Option D}(Fn:dR P w K mg base fL k f fd ps<|iP K M [0] 0 m)
  (h:∀ns:List Int,ns.length<=63->m [.lst<|ns.map .int]=Z (.bl Â)):dR P w K mg base fL k f fd ps (vN K):=by
 have to:∀vs H Q E,vN K vs H Q E->iP K M [0] 0 m vs H Q E:=by
  rintro vs H Q E ⟨a,ns,rfl,hS,hl,q⟩;refine⟨H,[.lst<|ns.map .int],.bl Â,.refl _,.cons (Dt.lst hS<|Ü.ints ns) .nil,h ns hl,λv F' G fp x o nd hf=>?_⟩;have hv:v=.bl Â:=by have o:Dt K M F' (.bl Â) v/\fp=[]:=o;cases o.1;rfl
  subst hv;exact q G
 exact⟨λvs H Q E z=>Fn.len vs H Q E<|to vs H Q E z,λA outer s H args us vs Q E hr e0 hb hv z=>Fn.run A outer s H args us vs Q E hr e0 hb hv<|to vs H Q E z⟩
theorem Rj {g:D->Env->Option Env}{b:SF}(I:Nat->Env->Prop)(lo:Int):∀(n k:Nat) (O:Env),I k O ->
  (∀j O,k<=j->j<k+n->I j O->∃ρ1 ρ2,g (.int<|lo+(j:Int)) O=Z ρ1/\(b ρ1=Z (.nx ρ2)\/b ρ1=Z (.ct ρ2))/\I (j+1) ρ2) ->
  ∃ρ',pQ g b ((oW k n).map λ(t:Nat)=>D.int<|lo+(t:Int)) O=Z (.nx ρ')/\I (k+n) ρ'
 |0,k,O,h,_=>⟨O,rfl,h⟩
 |n+1,k,O,h,st=>by obtain⟨ρ1,ρ2,h1,h2,h3⟩:=st k O (dE _) (by lia) h;obtain⟨ρ',h4,h5⟩:=Rj I lo n (k+1) ρ2 h3 λj O hj hl hI=>st j O (by lia) (by lia) hI;refine⟨ρ',?_,by rw[show k+(n+1)=k+1+n by lia];exact h5⟩;rw[List.range'_succ,dJ];show(g _ O).bind _=_;rw[h1];show(b ρ1).bind _=_;rcases h2 with h2|h2<;>(rw[h2];exact h4)
theorem jb {g:D->Env->Option Env}{b:SF}(I:Nat->Env->Prop){lo:Int}(h:I 0 O)
  (st:∀j O,j<n->I j O->∃ρ1 ρ2,g (.int<|lo+(j:Int)) O=Z ρ1/\(b ρ1=Z (.nx ρ2)\/b ρ1=Z (.ct ρ2))/\I (j+1) ρ2):∃ρ',pQ g b (uZ lo n) O=Z (.nx ρ')/\I n ρ':=by
 obtain⟨ρ',h1,h2⟩:=Rj (g:=g) (b:=b) I lo n 0 O h λj O _ hj hI=>st j O (by lia) hI;rw[Nat.zero_add]at h2;exact⟨ρ',by unfold uZ;rw[List.range_eq_range'];exact h1,h2⟩
theorem qk {i j:Int}(h1:0<j)(h2:j<4611686018427387904):nF (.int i) (.int j)=Z (.int<|i/j):=by unfold nF;simp[h1,h2]
theorem wm {i j:Int}(h:0<j):lR (.int i) (.int j)=Z (.int<|i%j):=by unfold lR;simp[h]
theorem Ĉ {i j:Int}(h1:-18446744073709551616<j)(h2:j<18446744073709551616):ki (.int i) (.int j)=Z (.int<|i*j):=by simp[ki,CG,sv,h1,h2]
theorem je {i j:Int}(h1:-18446744073709551616<i)(h2:i<18446744073709551616):ki (.int i) (.int j)=Z (.int<|i*j):=by simp[ki,CG,sv,h1,h2]
theorem ġ {i j:Int}(h1:0<=j)(h2:j<=1000000)(h3:i.natAbs<18446744073709551616):Jc (.int i) (.int j)=Z (.int<|i ^ j.toNat):=by simp[Jc,CG,vM,h1,h2,h3]
theorem Ġ {i j:Int}(h1:0<=j)(h2:j<=1000000)(h3:i.natAbs<18446744073709551616):Ej (.int i) (.int j)=Z (.int<|i*2 ^ j.toNat):=by simp[Ej,CG,vM,h1,h2,h3]
theorem Đ {i j:Int}(h1:0<=j):BS (.int i) (.int j)=Z (.int<|i/2 ^ j.toNat):=by simp[BS,CG,h1]
theorem ğ (i j:Int):dL (.int i) (.int j)=Z (.int<|i+j):=rfl
variable {y:Str}
theorem RF (h:x.length+y.length<=16777216):dL (.str x) (.str y)=Z (.str<|x++y):=by simp[dL,h]
theorem Ğ (i j:Int):wX (.int i) (.int j)=Z (.int<|i-j):=rfl
theorem Ď (i j:Int):BI (.int i) (.int j)=Z (.bl<|decide<|i<j):=rfl
theorem Ę (i j:Int):BH (.int i) (.int j)=Z (.bl<|decide<|i<=j):=rfl
theorem ĉ (i j:Int):EQ (.int i) (.int j)=Z (.bl<|decide<|j<i):=rfl
theorem ė (i j:Int):G6 (.int i) (.int j)=Z (.bl<|decide<|j<=i):=rfl
theorem ĝ (i:Int):BJ (.int i)=Z (.int<|-i):=rfl
theorem ď (Y:List D):iE [.lst Y]=Z (.int Y.length):=rfl
theorem Ĝ (Y:List D):iE [.tup Y]=Z (.int Y.length):=rfl
theorem ě (i:Int):LI [.int i]=Z (.int<|if i<0 then -i else i):=rfl
theorem ģ (i j:Int):yI [.int i,.int j]=Z (.int<|if j > i then j else i):=rfl
theorem Ģ (i j:Int):IS [.int i,.int j]=Z (.int<|if j<i then j else i):=rfl
theorem į (neg:Bool)(d:D):uV neg d .non=Z (.bl<|if neg then !d.isN else d.isN):=by cases d<;>rfl
theorem Į (neg b:Bool)(d:D):uV neg d (.bl b)=Z (.bl<|if neg then !d.isB b else d.isB b):=by cases d<;>rfl
theorem Ĕ (b:Bool):DM (.bl b)=Z b:=rfl
theorem Ė (Y:List D):JX (.lst Y)=Z Y:=rfl
theorem wq (Y:List D)(l h:Option Int):jT (.lst Y) l h=Z (.lst<|ā Y l h):=rfl
theorem RG {j:Int}(h1:-4611686018427387904<=j)(h2:j<4611686018427387904):o6 [.int j]=Z (uZ 0 j.toNat):=by simp[o6,h1,h2]
theorem So (enc:α->D){xs:List α}{i:Int}{x:α}(hi:i=(j:Int)\/i=(j:Int)-xs.length)(h:xs[j]?=Z x):atI (xs.map enc) i=Z (enc x):=by
 have hj:=(ee.mp h).1;unfold L2.atI L2.ú;rw[dY];rcases hi with rfl|rfl
 ·rw[if_pos<|by lia,if_pos<|by lia];simp[h]
 ·rw[if_neg<|by lia,if_pos<|by lia];have:((j:Int)-xs.length+xs.length).toNat=j:=by lia
  simp[this,h]
theorem Rk {α:Type}{g:D->Env->Option Env}{p:BF}{f:EF}{ρ0:Env}(enc:α->D)(q:α->Bool)(h:α->D):∀(xs:List α),(∀x∈xs,∃ρ1,g (enc x) ρ0=Z ρ1/\p ρ1=Z (q x)/\(q x=Â->f ρ1=Z (h x)))->pz g p f ρ0 (xs.map enc)=Z ((xs.filter q).map h)
 |[],_=>rfl
 |x::xs,H=>by
  obtain⟨ρ1,h1,h2,h3⟩:=H x cV;have ih:=Rk enc q h xs λy hy=>H y<|df _ hy;show(g (enc x) ρ0).bind _=_;rw[h1];show(p ρ1).bind _=_;rw[h2];cases hq:q x with
  |false=>rw[gD,if_neg di,xA<|by rw[hq];exact di];exact ih
  |true=>rw[gD,if_pos rfl,h3 hq,xB hq];show(pz g p f ρ0<|xs.map enc).bind _=_;rw[ih];rfl
section
open PySem PySem.Spec L2
structure xS (α:Type)[DecidableEq α] where
 enc:α->D
 py:α->dX
 dep:Nat
 is:∀x,(enc x).py=Z (py x)
 lay:∀x,(py x).canLay0=Â
 dp:∀x,(py x).depth<=dep
 eqv:∀x y,dX.eqv (py x) (py y)=decide (x=y)
section
variable {γ δ ε:Type}[DecidableEq α][DecidableEq β][DecidableEq γ][DecidableEq δ][DecidableEq ε]
theorem xS.eq (E:xS α)(h:E.dep<=60)(x y:α):jQ neg (E.enc x) (E.enc y)=Z (.bl<|if neg then !decide (x=y)else decide (x=y)):=by
 have h1:sS (E.py x)=Â:=by unfold sS;rw[E.lay x,decide_eq_true<|fk (E.dp x) h];rfl
 have h2:sS (E.py y)=Â:=by unfold sS;rw[E.lay y,decide_eq_true<|fk (E.dp y) h];rfl
 unfold jQ;rw[E.is x,E.is y];simp only[gD];rw[if_pos ⟨h1,h2⟩,E.eqv]
noncomputable def Ei:xS Int:=⟨.int,.int,0,λ_=>by simp[D.py],λ_=>rfl,λ_=>by simp[dX.depth],λx y=>by show(x==y)=_;by_cases h:x=y<;>simp[h]⟩
noncomputable def Eb:xS Bool:=⟨.bl,.bool,0,λ_=>by simp[D.py],λ_=>rfl,λ_=>by simp[dX.depth],λx y=>by cases x<;>cases y<;>rfl⟩
noncomputable def E2 (A:xS α)(B:xS β):xS (α×β):=⟨λp=>.tup [A.enc p.1,B.enc p.2],λp=>.tuple [A.py p.1,B.py p.2],max A.dep B.dep+1,λp=>by simp[D.py,D.pys,A.is,B.is],λp=>by simp[dX.canLay0,dX.canLayAll0,A.lay,B.lay],
 λp=>by have:=A.dp p.1;have:=B.dp p.2;simp only[dX.depth,dX.depthAll];lia,λp q=>by simp only[dX.eqv,dX.eqvAll,A.eqv,B.eqv];obtain⟨a,b⟩:=p;obtain⟨c,d⟩:=q;by_cases h:a=c<;>by_cases g:b=d<;>simp[h,g]⟩
end
theorem ĕ (a b:Int):jQ neg (.int a) (.int b)=Z (.bl<|if neg then !decide (a=b)else decide (a=b)):=Ei.eq (by decide) a b
theorem ē (a b:Bool):jQ neg (.bl a) (.bl b)=Z (.bl<|if neg then !decide (a=b)else decide (a=b)):=Eb.eq (by decide) a b
end
theorem IntsAre.of {ns:List Int}{us:List cU}(h:eh (ns.map V.int) us):IntsAre us ns:=Ym h
theorem N3 (hc:X.calm=Â):iL X (.builtin "max") (λxs H Q=>∃(a:cZ) (ns:List Int),xs=[.ref a]/\i6 X.K H a (ns.map V.int)/\ns≠[]/\∀J',J'∈ns->(∀z∈ns,z<=J')->Q (.int J') H):=by
 intro cW s U H xs us Q I r h;obtain⟨a,ns,rfl,hq,oQ,q⟩:=h;obtain⟨u,rfl,ru⟩:=r.one;cases(show u=cU.ref a from ru);obtain⟨eG,rv,pl,hz⟩:=I.list hq;have hi:=IntsAre.of rv;obtain⟨ys,e⟩:=hi.allInts.items;have xL:ns=ys.toList.map (·.1):=by rw[←hi.numsOf,←nums_intItems,←e]
 have hsz:0<ys.size:=by have h3:0<ns.length:=List.length_pos_iff.mpr oQ;rw[xL,dY,gu]at h3;exact h3
 have Do:s.heap.IsList a (intItems ys):=e▸pl.isList;refine max_intList (I.ok.hd hc) Do hsz λv h' tk hv hk=>?_;obtain⟨t,rfl⟩:=intItems_at hv;obtain⟨h1,h2⟩:=argBest_gt (numAt ys)<|ys.size-1;refine⟨.int<|numAt ys<|argBest (λi j=>decide<|numAt ys i > numAt ys j)<|ys.size-1,H,I.kept (t':=tk) hk,⟨_,rfl⟩,q _ ?_ λz hz=>?_⟩
 ·rw[xL,numAt_eq];exact getD_mem (by rw[dY,gu];lia)
 ·rw[xL]at hz;obtain⟨j,hj,rfl⟩:=mem_getD hz;rw[dY,gu]at hj;rw[←numAt_eq];exact h2 j (by lia)
theorem Rl:∀{bs:List Bool} {us:List cU},eh (bs.map V.bl) us->us=bs.map cU.bool
 |[],_,.nil=>rfl
 |b::bs,_,.cons r t=>by rw[Rl t];cases(show _=cU.bool b from r);rfl
theorem ql (hc:X.calm=Â):iL X (.builtin "all") (λxs H Q=>∃(a:cZ) (bs:List Bool),xs=[.ref a]/\i6 X.K H a (bs.map V.bl)/\Q (.bl<|bs.all id) H):=by
 intro cW s U H xs us Q I r h;obtain⟨a,bs,rfl,hq,q⟩:=h;obtain⟨u,rfl,ru⟩:=r.one;cases(show u=cU.ref a from ru);obtain⟨eG,rv,pl,hz⟩:=I.list hq;have hb:=Rl rv;subst hb;have hl:=pl.isList;have vI:a<s.heap.objs.size:=by obtain⟨_,e,_⟩:=hl;exact dB e
 refine PySem.call_all_walk<|nR hl ?_;refine⟨s.heap.objs.size,[s.heap.objs.size,a],[s.heap.objs.size],(bs.map cU.bool).toArray.size,_,_,λi=>(bs[i]?).getD Â,rfl,Walks.list (A:=X.A.in1) (I.ok.hd hc) _ a (dU vI) (bs.map cU.bool).toArray,
  ⟨⟨_,dG _ rfl,rfl,rfl⟩,hl.push _⟩,λi v s' Q' E' hP hQ=>?_,λh' tk hk=>?_⟩
 ·have hP:(bs.map cU.bool)[i]?=Z v:=by simpa using hP
  rw[ix]at hP;obtain⟨b,hb,rfl⟩:=gr.mp hP;simp only[hb,Bp]at hQ;exact jR hQ
 ·have e:((kz (bs.map cU.bool).toArray.size).all λi=>(bs[i]?).getD Â)=bs.all id:=by rw[dF,dY];exact PyProof.Rows.LSm.range_all bs
  rw[e];refine⟨.bl<|bs.all id,H,I.kept (t':=tk) λb o Mr=>hk b o (λhm=>?_) (c7 _ Mr),rfl,q⟩;rw[dW.mp hm]at Mr;exact iF _<|dB Mr
theorem Xp:iL X (.builtin "sorted") (λxs H Q=>∃(a:cZ) (ns:List Int),xs=[.ref a]/\i6 X.K H a (ns.map V.int)/\ns.length<64/\∀wN:List Int,wN.Perm ns->wN.Pairwise (·<=·)->∀p,H p=S->Q (.ref p) (upd H p<|.lst<|wN.map V.int)):=by
 intro cW s U H xs us Q I r h;obtain⟨a,ns,rfl,hq,h64,q⟩:=h;obtain⟨u,rfl,ru⟩:=r.one;cases(show u=cU.ref a from ru);obtain⟨eG,rv,pl,hz⟩:=I.list hq;have hi:=IntsAre.of rv;have mF:eG.length=ns.length:=by rw[←rv.length,dY]
 refine sorted_ints pl.isList hi (by lia) λout wN a1 a2 a3=>?_;obtain⟨e,he⟩:=sortedAll_at s.heap eG out;have ET:wN.length<=sizeLine:=by rw[a2.length_eq,←dY (f:=V.int)];exact hz
 refine⟨.ref _,_,I.laid (a:=s.heap.objs.size+1) (o:=.lst<|wN.map V.int) (t':=s.toks) (λb u=>sortedAll_old) (lM _) ?_,rfl,q wN a2 a3 _<|I.hok.fresh<|lM _⟩;exact⟨by rw[dY];exact ET,out.toList,e,N8 a1,by simpa[seqObj]using he⟩
def oy:List D->Option (List Int)
 |[]=>Z []
 |.int i::Y=>(oy Y).bind λns=>Z (i::ns)
 |_=>S
theorem QQ:∀{Y:List D} {ns:List Int},oy Y=Z ns->Y=ns.map .int
 |[],_,e=>by cases e;rfl
 |d::Y,ns,e=>by
  cases d with
  |int i=>obtain⟨L,h1,h2⟩:=dh<|show(oy Y).bind _=_ from e;cases h2;rw[QQ h1];rfl
  |_=>cases e
theorem Zg:∀ns:List Int,oy (ns.map .int)=Z ns
 |[]=>rfl
 |n::ns=>by show(oy<|ns.map .int).bind _=_;rw[Zg ns];rfl
theorem Pr.intV {F W':Hp}:∀{ns:List Int} {vs:List V},Pr (Al K M F W' n) (ns.map .int) vs->vs=ns.map V.int
 |[],_,.nil=>rfl
 |i::ns,_,.cons h t=>by rw[Pr.intV t,h.int];rfl
def oo:List D->Option (List Bool)
 |[]=>Z []
 |.bl i::Y=>(oo Y).bind λns=>Z (i::ns)
 |_=>S
theorem QG:∀{Y:List D} {ns:List Bool},oo Y=Z ns->Y=ns.map .bl
 |[],_,e=>by cases e;rfl
 |d::Y,ns,e=>by
  cases d with
  |bl i=>obtain⟨L,h1,h2⟩:=dh<|show(oo Y).bind _=_ from e;cases h2;rw[QG h1];rfl
  |_=>cases e
theorem Pr.blV {F W':Hp}:∀{ns:List Bool} {vs:List V},Pr (Al K M F W' n) (ns.map .bl) vs->vs=ns.map V.bl
 |[],_,.nil=>rfl
 |i::ns,_,.cons h t=>by rw[Pr.blV t,h.bl];rfl
noncomputable def IR:List Int->Option Int
 |[]=>S
 |x::xs=>Z<|xs.foldl max x
theorem Rm:∀(xs:List Int) (x:Int),(xs.foldl max x=x\/xs.foldl max x∈xs)/\x<=xs.foldl max x/\∀z∈xs,z<=xs.foldl max x
 |[],x=>⟨.inl rfl,AL _,λz h=>by cases h⟩
 |y::xs,x=>by
  obtain⟨h1,h2,h3⟩:=Rm xs<|max x y;refine⟨?_,by show x<=xs.foldl max (max x y);lia,λz hz=>?_⟩
  ·rcases h1 with h1|h1
   ·show xs.foldl max (max x y)=x\/xs.foldl max (max x y)∈y::xs;rw[h1];rcases Int.le_total x y with h|h
    ·rw[Int.max_eq_right h];exact .inr cV
    ·rw[Int.max_eq_left h];exact .inl rfl
   ·exact .inr<|df _ h1
  ·rcases dn.mp hz with rfl|hz
   ·show z<=xs.foldl max (max x z);lia
   ·exact h3 z hz
theorem zoq {ns:List Int}{J':Int}(h:IR ns=Z J'):J'∈ns/\∀z∈ns,z<=J':=by
 cases ns with
 |nil=>cases h
 |cons x xs=>
  cases h;obtain⟨h1,h2,h3⟩:=Rm xs x;refine⟨?_,λz hz=>?_⟩
  ·rcases h1 with h1|h1
   ·rw[h1];exact cV
   ·exact df _ h1
  ·rcases dn.mp hz with rfl|hz
   ·exact h2
   ·exact h3 z hz
def VS:List D->Option D
 |[.lst Y]=>(oy Y).bind λns=>Z<|.int ns.sum
 |_=>S
def D4:List D->Option D
 |[.lst Y]=>(oy Y).bind λns=>(IR ns).bind λJ'=>Z<|.int J'
 |_=>S
def wB:List D->Option D
 |[.lst Y]=>(oo Y).bind λbs=>Z<|.bl<|bs.all id
 |_=>S
def ó (x:Int):List Int->List Int
 |[]=>[x]
 |y::ys=>if x<=y then x::y::ys else y::ó x ys
def yR:List Int->List Int
 |[]=>[]
 |x::xs=>ó x<|yR xs
theorem N9 (x:Int):∀ys,(ó x ys).Perm (x::ys)
 |[]=>.refl _
 |y::ys=>by
  unfold ó;by_cases h:x<=y
  ·rw[if_pos h]
  ·rw[if_neg h];exact((N9 x ys).cons y).trans<|.swap x y ys
theorem QR:∀xs,(yR xs).Perm xs
 |[]=>.refl _
 |x::xs=>(N9 x _).trans<|(QR xs).cons x
theorem QJ (x:Int):∀{ys:List Int},ys.Pairwise (·<=·)->(ó x ys).Pairwise (·<=·)
 |[],_=>List.pairwise_singleton _ _
 |y::ys,h=>by
  obtain⟨h1,h2⟩:=ky.mp h;unfold ó;by_cases hx:x<=y
  ·rw[if_pos hx];exact ky.mpr ⟨λz hz=>by
    rcases dn.mp hz with rfl|hz
    ·exact hx
    ·exact Int.le_trans hx (h1 z hz),h⟩
  ·rw[if_neg hx];refine ky.mpr ⟨λz hz=>?_,QJ x h2⟩;have:=(N9 x ys).mem_iff.mp hz;rcases dn.mp this with rfl|hz
   ·lia
   ·exact h1 z hz
theorem QC:∀xs,(yR xs).Pairwise (·<=·)
 |[]=>EA.nil
 |x::xs=>QJ x<|QC xs
theorem QK:∀{xs ys:List Int},xs.Perm ys->xs.Pairwise (·<=·)->ys.Pairwise (·<=·)->xs=ys
 |[],ys,p,_,_=>(p.nil_eq).symm▸rfl
 |x::xs,[],p,_,_=>absurd p.symm.nil_eq (by simp)
 |x::xs,y::ys,p,hx,hy=>by
  obtain⟨h1,h2⟩:=ky.mp hx;obtain⟨h3,h4⟩:=ky.mp hy;have e:x=y:=by
   have a:=p.mem_iff.mp (cV:x∈x::xs);have b:=p.mem_iff.mpr (cV:y∈y::ys);have a':y<=x:=by
    rcases dn.mp a with rfl|a
    ·exact AL _
    ·exact h3 x a
   have b':x<=y:=by
    rcases dn.mp b with rfl|b
    ·exact AL _
    ·exact h1 y b
   lia
  subst e;rw[QK ((List.perm_cons x).mp p) h2 h4]
def Fg:List D->Option D
 |[.lst Y]=>(oy Y).bind λns=>if ns.length<64 then Z (.lst<|(yR ns).map .int)else S
 |_=>S
theorem RH {vs:List V}{ns:List Int}(s:d9 F H)(l:nh K M F H [n] [.lst Y] vs)(e:oy Y=Z ns):∃a,vs=[.ref a]/\i6 K H a (ns.map V.int):=by
 cases l with
 |cons h t=>cases t;obtain⟨a,us,rfl,ha,hp⟩:=h.lst s;have:=QQ e;subst this;have:=hp.intV;subst this;exact⟨a,rfl,ha⟩
theorem OG:Dh K M [n] k (λxs H Q=>∃(a:cZ) (ns:List Int),xs=[.ref a]/\i6 K H a (ns.map V.int)/\ns≠[]/\∀J',J'∈ns->(∀z∈ns,z<=J')->Q (.int J') H) D4:=by
 intro F H vs Y d Q s l e w
 match Y,l,e with
 |[.lst xs],l,e=>obtain⟨ns,h1,h2⟩:=dh<|show(oy xs).bind _=_ from e;obtain⟨J',h3,h4⟩:=dh h2;cases h4;obtain⟨a,rfl,ha⟩:=RH s l h1;obtain⟨m1,m2⟩:=zoq h3;refine⟨a,ns,rfl,ha,(λz=>by rw[z]at m1;cases m1),λM' h5 h6=>?_⟩;have:M'=J':=Int.le_antisymm (m2 M' h5)<|h6 J' m1;subst this;exact w _ F H (.refl s)<|Al.of<|.int _
theorem K7:Dh K M [n] k (λxs H Q=>∃(a:cZ) (bs:List Bool),xs=[.ref a]/\i6 K H a (bs.map V.bl)/\Q (.bl<|bs.all id) H) wB:=by
 intro F H vs Y d Q s l e w
 match Y,l,e with
 |[.lst xs],l,e=>
  obtain⟨bs,h1,h2⟩:=dh<|show(oo xs).bind _=_ from e;cases h2;cases l with
  |cons h t=>cases t;obtain⟨a,us,rfl,ha,hp⟩:=h.lst s;have:=QG h1;subst this;have:=hp.blV;subst this;exact⟨a,bs,rfl,ha,w _ F H (.refl s)<|Al.of<|.bl _⟩
theorem Pr.ofInts {F H:Hp}:∀ns:List Int,Pr (Al K M F H 0) (ns.map .int) (ns.map V.int)
 |[]=>.nil
 |n::ns=>.cons (show Dt K M F (.int n) (.int n)from .int n)<|Pr.ofInts ns
theorem zor:DE K M [n] 1 (λxs H Q=>∃(a:cZ) (ns:List Int),xs=[.ref a]/\i6 K H a (ns.map V.int)/\ns.length<64/\∀wN:List Int,wN.Perm ns->wN.Pairwise (·<=·)->∀p,H p=S->Q (.ref p) (upd H p<|.lst<|wN.map V.int)) Fg:=by
 intro F H vs Y d Q s l e w
 match Y,l,e with
 |[.lst xs],l,e=>
  obtain⟨ns,h1,h2⟩:=dh<|show(oy xs).bind _=_ from e;by_cases hz:ns.length<64
  ·rw[if_pos hz]at h2;cases h2;obtain⟨a,rfl,ha⟩:=RH s l h1;refine⟨a,ns,rfl,ha,hz,λwN p1 p2=>?_⟩;have:wN=yR ns:=QK (p1.trans (QR ns).symm) p2<|QC ns;subst this;exact vz s (Pr.ofInts _) w
  ·rw[if_neg hz]at h2;cases h2
def oZ (H:Hp)(x:cZ):Hp:=λb=>if b=x then S else H b
theorem wz (H:Hp)(x:cZ):d9 (oZ H x) H:=λb o h=>by
 unfold oZ at h;by_cases e:b=x
 ·rw[if_pos e]at h;cases h
 ·rw[if_neg e]at h;exact h
theorem JO (H:Hp)(x:cZ):oZ H x x=S:=if_pos rfl
theorem xx {x b:cZ}(h:b≠x):oZ H x b=H b:=if_neg h
def xG (K:cX)(M:Nat->cZ)(cs:List Nat)(pm:List Nat)(mi:Nat->List D->Option D):Sp:=λvs H Q _=>∃(F:Hp) (c:Nat) (Y:List D) (d:D) (x dx:cZ) (us:List V),c∈cs/\vs=.ref x::us/\H x=Z (.ins (M c) dx [])/\F x=S/\d9 F H/\nh K M F (oZ H x) pm Y us/\mi c Y=Z d /\
 ∀F' G f,d9 F F'->d9 (oZ H x) G->d9 F' G->(∀a o,oZ H x a=Z o->mh o->F a=S->F' a=S)->Ow K M F' G 1 d (.ref x) f->f.Nodup->(∀a∈f,a=x\/H a=S)->Q .non G
variable {mi:Nat->List D->Option D}
theorem xG.len (h:pm.length+1=ps.length):∀vs H Q E,xG K M cs pm mi vs H Q E->vs.length=ps.length:=by rintro vs H Q E ⟨F,c,Y,d,x,dx,us,_,rfl,_,_,_,l,_⟩;rw[dw,l.length,h]
def F7 (N:List Str)(b:SF)(c:Nat)(Y:List D):Option D:=(b (Z (.obj c [] [])::Î N.tail Y)).bind λo=>match o with
 |.nx O=>(O[0]?).join
 |_=>S
variable {N0:Str}
theorem Zh {w:d5}{fd:c9}(Fn:Þ K x qual st fa fd)(S':eK (N0::N) ps<|dH st)(Au:pm.length+1=ps.length)(CB:L.length=N.length)(rG:pm.length<=N.length)
  (CA:∀(i n:Nat),pm[i]?=Z n->L[i]?=Z (Mo.al n)\/(n=0/\L[i]?=Z (Mo.ow 0)))
  (body:∀(x:cZ) (gH:cU) (A:dO) (outer:List PySem.Env) (s:de) (H:Hp) (E:XK),fw kk (A.deeper<|envOfC qual (dH st) s.heap.objs.size fa gH)->tH (nj fL P w K mg base (N0::N) qual (dH st) fa gH A outer s H E).nox M (.so x::L) rk (gz st) bf) :
  dR P w K mg base fL (kk+1) fa fd ps (xG K M cs pm<|F7 (N0::N) bf):=by
 refine Fn.ok S' (xG.len Au) λgH A outer s H vs Q E hr h=>?_;obtain⟨F,c,Y,d,x,dx,us,hc,rfl,hx,hF,sF,l,hm,q⟩:=h;obtain⟨t,pt,qt⟩:=body x gH A outer s H E hr;refine⟨t,pt,?_⟩;obtain⟨o,h1,h2⟩:=dh hm;have hdl:Y.length=us.length:=l.length';have MU:us.length=pm.length:=l.length;have ow:Ow K M F H 1 (.obj c [] []) (.ref x) [x]:=.inr<|Aj.obj (vs:=[]) (fb:=[]) hF hx rfl rfl .nil;have VP:d9 F (oZ H x):=λb o hb=>by rw[xx<|λe=>by rw[e,hF]at hb;cases hb];exact sF _ _ hb
 refine qt F (oZ H x) F H (Z (.obj c [] [])::Î N Y) (L2.start (N0::N) (.ref x::us)) o _ ⟨.refl _,wz H x,sF,λ_ _ _ _ h=>h,[x],?_,by simp,λa z=>by rw[dW]at z;subst z;exact JO H _⟩ h1 ?_
 ·have e:L2.start (N0::N) (.ref x::us)=Z (.ref x)::(us.map Z++dg (N.length-us.length) S):=by unfold L2.start;simp
  rw[e];unfold Î;rw[hdl];exact SL.so (f:=[x]) (fp:=[]) ow (SL.start _ l CA<|by lia)
 ·cases o with
  |nx O=>
   intro U F' G r;obtain⟨fp,sl,nd,hb⟩:=r.sl;cases sl with
   |no _=>cases h2
   |so Jb _=>cases h2;exact q F' G _ r.f0 r.bh r.fh r.nf Jb (dm.mp nd).1 λa z=>(Classical.em<|a=x).imp id λne=>(xx ne).symm.trans<|hb a<|dc _ z
  |rt d'=>cases h2
  |bk O=>cases h2
  |ct O=>cases h2
theorem On {f:Str}{y:V}:∀{ns:List Str} {vs:List V},ns.length=vs.length->ns.contains f=Ã->mK f y (ns.zip vs)=(ns++[f]).zip (vs++[y])
 |[],[],_,_=>rfl
 |[],_::_,h,_=>by simp at h
 |_::_,[],h,_=>by simp at h
 |n::ns,v::vs,h,hc=>by
  rw[hW,oV]at hc;have hn:¬n=f:=λe=>by rw[e]at hc;simp at hc
  have ih:=On (f:=f) (y:=y) (ns:=ns) (vs:=vs) (by simpa using h) hc.2;show mK f y ((n,v)::ns.zip vs)=(n,v)::(ns++[f]).zip (vs++[y]);rw[←ih];show(if n=f then _ else _)=_;rw[if_neg hn]
theorem Ow.obj_inv {c:Nat}{ns:List Str}{v:V}(h:Ow K M F H (k+1) (.obj c ns Y) v fp):∃a dx vs fr,v=.ref a/\(∃fb,fp=a::(fb++fr)/\kE K M F H ns Y vs fb)/\F a=S/\H a=Z (.ins (M c) dx<|ns.zip vs)/\ns.length=vs.length/\iW (Ow K M F H k) Y vs fr:=by
 rcases h with⟨h,_⟩|h
 ·cases h
 ·cases h with
  |obj h1 h2 h3 h5 h4=>exact⟨_,_,_,_,rfl,⟨_,rfl,h5⟩,h1,h2,h3,h4⟩
variable {C:cZ}{E:XK}{s:Str}
section
def l6 (cs:List Nat)(x:Str)(f:EF):SF:=λO=>(f O).bind λd=>(J 0 O).bind λo=>match o with
 |.obj c ns Y=>if cs.contains c=Â/\ns.contains x=Ã/\ns.length<900 then Z (.nx<|O.set 0<|Z<|.obj c (ns++[x])<|Y++[d])else S
 |_=>S
theorem Oo {α:Type}{x y:Str}{v:α}(h:x≠y):∀{ns:List Str} {vs:List α},ns.length=vs.length->((ns++[x]).zip<|vs++[v]).lookup y=(ns.zip vs).lookup y
 |[],[],_=>by show(match y==x with|true=>Z v|false=>S)=S;rw[beq_eq_false_iff_ne.mpr<|Ne.symm h]
 |[],_::_,e=>by cases e
 |_::_,[],e=>by cases e
 |n::ns,w::vs,e=>by show(match y==n with|true=>Z w|false=>((ns++[x]).zip<|vs++[v]).lookup y)=(match y==n with|true=>Z w|false=>(ns.zip vs).lookup y);rw[Oo h<|by simpa using e]
theorem kE.app {y:V}{ns:List Str}{vs:List V}(h:kE K M F H ns Y vs fb)(hx:x≠"puts")(l1:ns.length=Y.length)(l2:ns.length=vs.length):kE K M F H (ns++[x]) (Y++[d]) (vs++[y]) fb:=by unfold kE at h ⊢;rw[Oo hx l1,Oo hx l2];exact h
theorem ue (hc:∀c∈cs,mQ X.K (M c)/\gk X.K (M c) x)(he:XE X M (.so x0::L) 0 e f)(hx:x≠"puts":=by decide)(hN:X.N[0]?=Z s:=by rfl)(hv:pN X.env.scope s:=by walk_at "v1")(hd:iM s:=by decide)
  (iY:qD s:=by decide) (hs:gc e (Z<|.Attribute (.Name s p1) x pos') pos.line X.env=pure Ã:=by rfl):XS X M (.so x0::L) rk (.Assign [.Attribute (.Name s p1) x pos'] e pos) (l6 cs x f):=by
 obtain⟨t,pt,qt⟩:=he;refine⟨_,JK (yb hN hv hd iY) pt hs,λF0 B F H O U o E rs e z=>?_⟩;obtain⟨d,h1,h2⟩:=dh e;obtain⟨ob,h3,h4⟩:=dh h2;refine qt F0 B F H O U d _ rs h1 λy F1 H1 x1 l=>?_;have m9:=rs.ext x1;obtain⟨fq,hσ,ow,nq,hB,put⟩:=m9.pin (i:=0) rfl<|zq h3;refine⟨_,hσ,?_⟩;cases ob with
 |obj c ns Y=>
  dsimp only at h4;by_cases hz:cs.contains c=Â/\ns.contains x=Ã/\ns.length<900
  ·rw[if_pos hz]at h4;cases h4;obtain⟨a,dx,vs,fr,e1,⟨fb,rfl,cf⟩,hF,hH,hl,ol⟩:=ow.obj_inv;cases e1;have e0:=ol.nil0;subst e0;have hh:=hc c (by simpa using hz.1);refine⟨x0,_,dx,_,rfl,hH,hh.1,hh.2,by rw[gx,←hl,iB];lia,?_⟩;rw[On hl hz.2.1];have nb:∀b∈fb,b≠x0:=λb z e=>(eJ.mp nq).1 (by rw[←e];exact dc _ z);refine z U F1 _ (put F1 _ _ (x0::(fb++[])) (.refl _) (λb o h ne=>by rw[zn<|λe=>ne<|by rw[e];exact cV];exact h) (λb o h=>?_) (λb o h _ _ hn=>hn) m9.nf (.inr<|Aj.obj (vs:=vs++[y]) hF zo (by simp[hl]) ((cf.frame (.refl _) λb z=>⟨zn<|nb b z,(cf.cells b z).1⟩).app hx (by rw[ol.length,hl]) hl) ?_) nq λb z=>.inl z)
   ·rw[zn<|λe=>by rw[e,hF]at h;cases h];exact m9.fh _ _ h
   ·have o1:iW (Ow X.K M F1 (upd H1 x0<|.ins (M c) dx<|(ns++[x]).zip<|vs++[y]) 0) Y vs []:=ol.mono λ_ _ _ _ q=>⟨q.1,q.2⟩;have:=o1.append<|iW.cons (f:=[]) (g:=[]) (R:=Ow X.K M F1 (upd H1 x0<|.ins (M c) dx<|(ns++[x]).zip<|vs++[y]) 0) ⟨l,rfl⟩ .nil;exact this
  ·rw[if_neg hz]at h4;cases h4
 |_=>cases h4
variable {fd:c9}
theorem zr7 (J':Mk X.K (M c0) fa)(yA:c0∈cs)(Fn:dR X.prog X.w X.K X.mg X.base fL kk fa fd ps<|xG X.K M cs (ns++nd) mi)(hr:fw (kk+1) X.A)(hg:Gl X x)(hm:X.mg x=Z (.ref<|M c0))
  (hb:fK X.K fd ps sd) (hd:eh i9 sd) (Cu:∀F W',nh X.K M F W' nd lY i9) (ha:XA X M L (e::es) ns fs)
  (jS:iM x:=by decide) (he:SE X e es:=by rfl) (iD:lV X pos es:=by rfl) :
  XO X M L 1 (.Call (.Name x pp) (e::es) [] pos) (λO=>(fs O).bind λY=>mi c0<|Y++lY):=by
 obtain⟨t,pt,_,qt⟩:=ha;refine⟨_,zq2 J' Fn hr hg hm hb hd oF pt jS he iD,λF0 B F H O U r Q rs e w=>?_⟩;obtain⟨Y,h1,h2⟩:=dh e;refine qt F0 B F H O U Y _ rs h1 λvs F1 H1 x1 l y dy hy Il oQ=>?_;have sH:d9 H1 (oZ (upd (upd H1 dy<|.own y) y<|.ins (M c0) dy []) y):=λb o h=>by have n1:b≠y:=zp h hy;rw[xx n1,zn n1,zn<|zp h Il];exact h
 have Jp:d9 H1 (upd (upd H1 dy<|.own y) y<|.ins (M c0) dy []):=sH.trans<|wz _ _;refine⟨F1,c0,Y++lY,r,y,dy,vs++i9,yA,rfl,zo,x1.fh.free hy,x1.fh.trans Jp,nh.mono (.refl _) sH<|nh.append (Cu F1 H1) l,h2,λF' G fq s1 s2 s3 s4 ow nq hq=>⟨rfl,?_⟩⟩;refine w _ F' G fq ⟨x1.ff.trans s1,(x1.hh.trans sH).trans s2,s3,λb o h t n=>s4 b o (sH _ _<|x1.hh _ _ h) t<|x1.nf b o h t n⟩ ow nq λb z=>?_;rcases hq b z with rfl|wK
 ·exact x1.hh.free hy
 ·exact x1.hh.free<|Jp.free wK
theorem zos {sp:Sp}{Y:List cU}{m:Str}{p:my}{t:TA}{mc:cU}(Fn:dR X.prog X.w X.K X.mg X.base fL kk fa fd ps sp)(hr:fw kk X.A)(hg:Gl X x)(hm:X.mg x=Z (.ref C))
  (h1:gq X.K (.ref C) "__getattribute__"=Z (Z<|.builtin "type.__getattribute__")) (h2:lH X.K C mc=Â) (h3:lG X.K (.ref C) mc m=Z (.val<|.ref fa)) (hk:dQ X.K (.ref fa)=Â) (hb:fK X.K fd ps Y) (hd:eh i9 Y) (hx:lJ fL X E) (ha:PA X (e::es) t)
  (jS:iM x:=by decide) (jH:SE X e es:=by rfl) (iD:lV X pos es:=by rfl)
  (ht:eP (.Call (.Attribute (.Name x p) m fG) (e::es) [] pos) X.env=(do
   let ov ← eP (.Name x p) X.env
   ij fG.atName
   let(f,first) ← fH [ov] (iU ov m pl)
   jK pos f first (gR pos<|dM (e::es) X.env) (ir pos<|fO [] X.env)):=by rfl) :
  PE X (.Call (.Attribute (.Name x p) m fG) (e::es) [] pos) (Fh sp i9 E t):=by
 intro cW s U H Q I h;refine hU (pl:=pl) (xj I hg hm ?_ jS) ht;refine zQ I.kIn h1<|Aa I.kIn h2 h3 rfl ?_;have I1:Ç X cW U H { s with toks:=s.toks+1 }:=I.tok _;refine fe (first:=[]) (h₀:=X.base) I.ok.mod.kin hk (gb (ha pos cW _ U H _ I1 h) λus s2 ⟨vs,H2,I2,r,q2⟩=>⟨I2.kIn,?_⟩) jH iD;exact JL (us:=us) (vs:=vs) Fn hr hb hd hx I2 r q2
theorem nh.flat {vs:List V}(h:nh K M F W' ns Y vs)(e:ns.all (· == 0)=Â):nh K M F G' ns Y vs:=by
 induction h with
 |nil=>exact .nil
 |cons h t ih=>rw[hG,dP]at e;cases eq_of_beq e.1;exact .cons h<|ih e.2
def wW (cs:List Nat)(fs:Env->Option (List D))(mi:Nat->List D->Option D):SF:=λO=>(J 0 O).bind λo=>(fs O).bind λY=>match o with
 |.obj c [] []=>if cs.contains c=Â then(mi c Y).bind λd=>Z (.nx<|O.set 0<|Z d)else S
 |_=>S
theorem OH {m:Str}{p:my}{mc:cU}(Fn:dR X.prog X.w X.K X.mg X.base fL kk fa fd ps<|xG X.K M cs ns mi)(hr:fw kk X.A)(hm:X.mg x=Z (.ref C))
  (h1:gq X.K (.ref C) "__getattribute__"=Z (Z<|.builtin "type.__getattribute__")) (h2:lH X.K C mc=Â) (h3:lG X.K (.ref C) mc m=Z (.val<|.ref fa)) (hk:dQ X.K (.ref fa)=Â) (hb:fK X.K fd ps []) (hz:ns.all (· == 0)=Â) (ha:XA X M (.so x0::L) es ns fs)
  (hg:Gl X x:=by rfl) (hN:X.N[0]?=Z s:=by rfl) (hv:pN X.env.scope s:=by walk_at "v1") (hd:iM s:=by decide)
  (iY:qD s:=by decide) (jS:iM x:=by decide) (jH:dM (.Name s p1::es) X.env=(Ã,eP (.Name s p1) X.env)::dM es X.env:=by rfl) (iD:lV X fP es:=by rfl)
  (ht:eP (.Call (.Attribute (.Name x p) m fG) (.Name s p1::es) [] fP) X.env=(do
   let ov ← eP (.Name x p) X.env
   ij fG.atName
   let(f,first) ← fH [ov] (iU ov m pl)
   jK fP f first (gR fP<|dM (.Name s p1::es) X.env) (ir fP<|fO [] X.env)):=by rfl)
  (CF:gc (.Call (.Attribute (.Name x p) m fG) (.Name s p1::es) [] fP) S pos.line X.env=pure Ã:=by rfl) :
  XS X M (.so x0::L) rk (.Expr (.Call (.Attribute (.Name x p) m fG) (.Name s p1::es) [] fP) pos) (wW cs fs mi):=by
 obtain⟨t,pt,_,qt⟩:=ha;refine⟨_,w9 (zos (E:=E0) Fn hr hg hm h1 h2 h3 hk hb .nil oF (ya (yb hN hv hd iY) pt jH) jS jH iD ht) CF,λF0 B F H O U o E rs e z=>?_⟩;obtain⟨ob,Y,g1,g2,g3⟩:=fE e;obtain⟨fq,hσ,_⟩:=rs.pin (i:=0) rfl<|zq g1;refine⟨_,hσ,qt F0 B F H O U Y _ rs g2 λvs F1 H1 x1 l=>?_⟩;have m9:=rs.ext x1;obtain⟨fq,hσ,ow,nq,hB,put⟩:=m9.pin (i:=0) rfl<|zq g1
 match ob,g3,ow with
 |.obj c [] [],g3,ow=>
  dsimp only at g3;by_cases hc:cs.contains c=Â
  ·rw[if_pos hc]at g3;obtain⟨d,g4,g5⟩:=dh g3;cases g5;obtain⟨a,dx,us,fr,e1,⟨fb,rfl,cf⟩,hF,hH,hl,ol⟩:=ow.obj_inv;cases e1;have e0:=ol.nil0;subst e0;have cf:fb=[]:=cf;subst cf;refine⟨F1,c,Y,d,x0,dx,vs++[],by simpa using hc,rfl,hH,hF,x1.fh,?_,g4,λF' G f' s1 s2 s3 s4 o' D6 UX=>?_⟩
   ·rw[d6];exact l.flat hz
   ·have Vk:B x0=S:=hB x0 cV;have sB:d9 B (oZ H1 x0):=λb o h=>by rw[xx<|λe=>by rw[e,Vk]at h;cases h];exact m9.bh _ _ h
    have ne:∀{b:cZ},b∉x0::([]++[])->b≠x0:=λh e=>h (by rw[e];exact cV);exact z U F' G (put F' G d f' s1 (λb o h nb=>s2 _ _<|by rw[xx<|ne nb];exact h) s3 (λb o h nb t EU=>s4 b o (by rw[xx<|ne nb];exact h) t EU) (λb o h t n=>s4 b o (sB _ _ h) t<|m9.nf b o h t n) o' D6 λb z=>(UX b z).imp (λe=>by rw[e];exact cV) id)
  ·rw[if_neg hc]at g3;cases g3
end
structure jN (K:cX)(mg:Str->Option cU)(x:Str)(st:et)(ps:List Str)(f:cZ)(fd:c9):Prop where
 fn:Þ K x x st f fd
 mgx:mg x=Z (.ref f)
 bd:fK K fd ps []
structure Dm (K:cX)(C:cZ)(m qual:Str)(st:et)(ps:List Str)(f:cZ)(fd:c9):Prop where
 fn:Þ K m qual st f fd
 me:qC K C m f
 bd:fK K fd ps []
structure Dc (K:cX)(mg:Str->Option cU)(x:Str)(C:cZ):Prop where
 cl:mQ K C
 mgx:mg x=Z (.ref C)
 mks:rV K C=Â
 kp:dQ K (.ref C)=Â
structure Dq (K:cX)(C:cZ)(m:Str)(f:cZ):Prop where
 sp:gq K (.ref C) "__getattribute__"=Z (Z<|.builtin "type.__getattribute__")
 rd:lH K C (.type "type")=Â
 fc:lG K (.ref C) (.type "type") m=Z (.val<|.ref f)
variable {an od:Option cZ}{gH dV doc oc:cU}{Bc:Array (Option cU)}
theorem Sr {f:cZ}{kV pm M:cU}(l:K.lookup f=Z ⟨oc,od,.func<|kC x qual (lP st) (gz st) (dH st) dV kV doc pm an gH M,Bc⟩)
  (c:n6 K gH qual=Â) (k:dQ K (.ref f)=Â):Þ K x qual st f (kC x qual (lP st) (gz st) (dH st) dV kV doc pm an gH M):=⟨⟨oc,od,dV,kV,doc,pm,an,gH,M,Bc,rfl,l,c⟩,k⟩
variable {T:cZ}{items:Array cU}
theorem zr8 {fd:c9}{Y:List cU}{o:gM}(hd:fd.defaults=.ref T)(ho:K.lookup T=Z o)(hs:o.data=.seq items n)
  (h:∀us:List cU,(us++Y).length=ps.length->∃k,bindArgs fd ⟨us,[]⟩=seqItems? fd.defaults >>= k/\k (Z items)=pure (ps.zip<|us++Y)):fK K fd ps Y:=λs us X hl=>by
 obtain⟨k,h1,h2⟩:=h us hl;exact PySem.W.binds_K X hd ho hs h1 h2
theorem Ss (m:Nat){fd:c9}{Y:List cU}{o:gM}(ho:K.lookup T=Z o)(h:∀us:List cU,us.length=m->∃k,bindArgs fd ⟨us,[]⟩=seqItems? fd.defaults >>= k/\k (Z items)=pure (ps.zip<|us++Y))(hd:fd.defaults=.ref T:=by rfl)(hs:o.data=.seq items n:=by rfl)(hm:m+Y.length=ps.length:=by rfl):fK K fd ps Y :=
 zr8 hd ho hs λus hl=>h us (by rw[d7]at hl;lia)
def LH (x:Str):It:=⟨λi _=>∃c,x.cps[i]?=Z c,λi H v G=>G=H/\∃c,x.cps[i]?=Z c/\v=.str ⟨#[c]⟩,λi _=>x.cps[i]?=S⟩
theorem zot {w:d5}(x:Str)(t:Tok)(it:cZ):è P w K tg (LH x) [it] it (λi h=>h.IsStrIter it (f9 x) x t i) where
 mem:=by simp
 obj:=λi h st b hb=>by
  have e:b=it:=by simpa using hb
  subst e;obtain⟨o,e,c,d⟩:=st;exact⟨o,e,λv z=>by rw[d]at z;cases z⟩
 keep:=λi h h' st k=>by obtain⟨o,e,c,d⟩:=st;exact⟨o,k it (by simp) o e,c,d⟩
 item:=by
  intro X hP hw hK hc i cW s U H E I hf st hg;subst hP hw hK;obtain⟨c,hx⟩:=hg;obtain⟨f0,f1,f2,f3,f4,f5⟩:=hf it (by simp);have fin:∀h':dz,h'.IsStrIter it (f9 x) x t (i+1)->fZ it s.heap h'->dr (dq X.prog X.w) X.A (mj tg (.ref it)<|.str ⟨#[c]⟩ s.toks) (λ_ s2=>∃v G,Ç X cW U G s2/\Ì v (.str ⟨#[c]⟩ s.toks)/\(LH x).yld i H v G/\s2.heap.IsStrIter it (f9 x) x t (i+1)/\∀b∈[it],G b=S) E { s with heap:=h',toks:=s.toks+1 }:=λh' AE sb=>by have I1:Ç X cW U H { s with heap:=h',toks:=s.toks+1 }:=I.turned (t':=s.toks+1) (λb o hb e=>(sb.2 b hb).trans e) f0 f1 f3 f4 f5;obtain⟨o,e,cc,d⟩:=id AE;refine Lu (s:={ s with heap:=h',toks:=s.toks+1 }) e cc d ?_ ⟨.str ⟨#[c]⟩,H,I1,⟨_,rfl⟩,⟨rfl,c,hx,rfl⟩,AE,λb hb=>(hf b hb).1⟩;unfold f9;split<;>decide
  cases ha:x.cps.all (·<128)with
  |true=>
   have e:f9 x = "str_ascii_iterator":=by unfold f9;rw[ha];rfl
   rw[e]at st fin;exact wpAny_pyNext_ascii_item st hx λh' AE sb=>⟨_,rfl,by rw[e];exact fin h' AE sb⟩
  |false=>
   have e:f9 x = "str_iterator":=by unfold f9;rw[ha];rfl
   rw[e]at st fin;exact wpAny_pyNext_wide_item st hx λh' AE sb=>⟨_,rfl,by rw[e];exact fin h' AE sb⟩
 done:=by
  intro X hP hw hK hc i cW s U H E I hf st hg;subst hP hw hK;obtain⟨f0,f1,f2,f3,f4,f5⟩:=hf it (by simp);cases ha:x.cps.all (·<128)with
  |true=>
   have e:f9 x = "str_ascii_iterator":=by unfold f9;rw[ha];rfl
   rw[e]at st;exact wpAny_pyNext_ascii_end (I.ok.hd hc) st hg λh' eb=>⟨rfl,I.turned (t':=s.toks) (λb o hb e=>eb b o hb e) f0 f1 f3 f4 f5⟩
  |false=>
   have e:f9 x = "str_iterator":=by unfold f9;rw[ha];rfl
   rw[e]at st;exact wpAny_pyNext_wide_end (I.ok.hd hc) st hg λh' eb=>⟨rfl,I.turned (t':=s.toks) (λb o hb e=>eb b o hb e) f0 f1 f3 f4 f5⟩
 self:=λA i s Q E st h=>by
  cases ha:x.cps.all (·<128)with
  |true=>
   have e:f9 x = "str_ascii_iterator":=by unfold f9;rw[ha];rfl
   rw[e]at st;exact wpAny_pyIter_striter_ascii st h
  |false=>
   have e:f9 x = "str_iterator":=by unfold f9;rw[ha];rfl
   rw[e]at st;exact wpAny_pyIter_striter_wide st h
def M3 (tl:TE):TI:=λU H R=>tl U H λx H1=>∃z,x=.str z/\R (LH z) H1
theorem ż {l:Expr}{tl:TE}(hl:PE X l tl):PI X tg l (M3 tl):=by
 intro cW s U H R I h;refine gb (hl cW s U H _ I h) λv s1 gP=>?_;obtain⟨x,H1,I1,r,z,e,q⟩:=gP;subst e;obtain⟨t,rfl⟩:=r;refine wpAny_pyIter_strU ?_;refine⟨s1.heap.objs.size,[s1.heap.objs.size],_,_,H1,rfl,I1.kept (t':=s1.toks) λb o e=>c7 _ e,(zot z t _).ok,⟨_,dG _ rfl,rfl,rfl⟩,λb hb=>?_,q⟩;have e:b=s1.heap.objs.size:=by simpa using hb
 subst e;exact I1.fpOk (dE _)<|I1.hok.fresh<|dE _
noncomputable def uD (x:Str):List D:=x.cps.toList.map λc=>.str ⟨#[c]⟩
def LL:D->Option (List D)
 |.str x=>Z<|uD x
 |_=>S
theorem S4 (he:XE X M L m e f):XI X M L n tg e (λO=>(f O).bind LL):=by
 obtain⟨t,pt,qt⟩:=he;refine⟨_,ż pt,λF0 B F H O U Y R rs e w=>?_⟩;obtain⟨d,h1,h2⟩:=dh e;refine qt F0 B F H O U _ _ rs h1 λv F' G x l=>?_;cases d with
 |str z=>
  cases h2;refine⟨z,l.str,w _ F' G x λi F2 H2 s1 s2 s3=>⟨λd hd=>?_,λhl=>?_⟩⟩
  ·unfold uD at hd;rw[ix]at hd;obtain⟨c,hc,rfl⟩:=gr.mp hd;have ER:z.cps[i]?=Z c:=by simpa using hc
   refine⟨⟨c,ER⟩,λy H3 hy=>?_⟩;obtain⟨rfl,c2,h3,rfl⟩:=hy;rw[ER]at h3;cases h3;exact⟨F2,.refl s3,Al.of<|.str _⟩
  ·unfold uD at hl;rw[dY,gu]at hl;exact Array.getElem?_eq_none hl
 |_=>cases h2
theorem zou [DecidableEq κ](k:κ)(v:V):∀{ks:List κ} {vs:List V},ks.length=vs.length->ß (ks.zip vs) k v=(if ks.contains k=Â then ks.zip ((ks.zip vs).map λp=>if p.1=k then v else p.2)else(ks++[k]).zip (vs++[v])):=by
 intro ks vs hl;unfold ß;have e:((ks.zip vs).any λkv=>decide<|kv.1=k)=ks.contains k:=by
  rw[C5,List.any_eq_true,List.contains_iff_mem];constructor
  ·rintro⟨p,hp,he⟩;have:=decide_eq_true_iff.mp he;rw[←this];exact(lN hp).1
  ·intro hk;obtain⟨i,hi,rfl⟩:=List.getElem_of_mem hk;exact⟨(ks[i],vs[i]'(by lia)),List.mem_iff_getElem.mpr ⟨i,by simp;lia,by simp⟩,by simp⟩
 rw[e];by_cases h:ks.contains k=Â
 ·rw[if_pos h,if_pos h];clear e h;induction ks generalizing vs with
  |nil=>simp
  |cons y ks ih=>
   cases vs with
   |nil=>simp at hl
   |cons u vs=>simp only[ez,dJ,ih<|by simpa using hl];by_cases hy:y=k<;>simp[hy]
 ·rw[if_neg h,if_neg h,De hl];rfl
variable {all sub:List Nat}
def uB (i:Nat)(fj f:EF):SF:=λO=>(f O).bind λd=>(J i O).bind λo=>(fj O).bind λj=>match o with
 |.dK ks Y=>(D2 j).bind λk=>if ks.length<16777216 then Z (.nx<|O.set i<|Z<|.dK (oG ks Y k d).1 (oG ks Y k d).2)else S
 |.dT ks Y=>(match j with
  |.tup js=>(yE js).bind λk=>if ks.length<16777216 then Z (.nx<|O.set i<|Z<|.dT (oG ks Y k d).1 (oG ks Y k d).2)else S
  |_=>S)
 |_=>S
theorem KS [DecidableEq κ]{v:V}(r:R d v)(k:κ){ks:List κ}{vs:List V}(hl:ks.length=vs.length)(hp:Pr R Y vs) :
  ∃us,ß (ks.zip vs) k v=(oG ks Y k d).1.zip us/\(oG ks Y k d).1.length=us.length/\Pr R (oG ks Y k d).2 us:=by
 rw[zou k v hl];unfold oG;by_cases h:ks.contains k=Â
 ·rw[if_pos h,if_pos h];refine⟨_,rfl,by simp[hl],?_⟩;clear h;induction ks generalizing Y vs with
  |nil=>simp;exact .nil
  |cons y ks ih=>
   cases hp with
   |nil=>simp at hl
   |cons h t=>
    simp only[ez,dJ];refine .cons ?_ (ih (by simpa using hl) t);by_cases hy:y=k
    ·rw[if_pos hy,if_pos hy];exact r
    ·rw[if_neg hy,if_neg hy];exact h
 ·rw[if_neg h,if_neg h];exact⟨_,rfl,by simp[hl],hp.append<|.cons r .nil⟩
theorem K8 (i:Nat){j:Expr}(hm:L[i]?=Z (.ow 1))(hu:X.A.units+1<i8)(hj:XE X M L 0 j fj)(he:XE X M L 0 e f)(hN:X.N[i]?=Z x:=by rfl)(hv:pN X.env.scope x:=by walk_at "v1")(hd:iM x:=by decide)
  (iY:qD x:=by decide) (hs:gc e (Z<|.Subscript (.Name x p1) j ko) pos.line X.env=pure Ã:=by rfl) :
  XS X M L rk (.Assign [.Subscript (.Name x p1) j ko] e pos) (uB i fj f):=by
 obtain⟨t,pt,qt⟩:=he;obtain⟨tj,CP,CT⟩:=hj;refine⟨_,Sg hu (yb hN hv hd iY) CP pt hs,λF0 B F H O U o E rs e z=>?_⟩;obtain⟨d,g1,g2⟩:=dh e;obtain⟨d1,wH,g3,g4,g5⟩:=fE g2;refine qt F0 B F H O U d _ rs g1 λv0 F1 H1 x1 l0=>?_;have m9:=rs.ext x1;obtain⟨f1,fr,n1,b1,dj,i4,cf,put⟩:=m9.put (F':=F) (G:=H) hm;obtain⟨v,hσ,ow⟩:=i4 d1<|zq g3;refine⟨v,hσ,CT F0 B F1 H1 O U wH _ m9 g4 λvj F2 H2 x2 lj=>?_⟩;have IM:Dt X.K M F2 d v0:=Dt.mono x2.ff l0;cases d1 with
 |dK ks Y=>
  dsimp only at g5;obtain⟨key,g6,g7⟩:=dh g5;by_cases hz:ks.length<16777216
  ·rw[if_pos hz]at g7;cases g7;obtain⟨ad,vs,Cr,rfl,rfl,hF,hH,hl,ol⟩:=ow.dK_inv;have hA:=x2.hh _ _ hH;have fA:F2 ad=S:=x2.nf ad _ hH nofun hF;have e0:=ol.nil0;subst e0;have hp:Pr (Dt X.K M F2) Y vs:=ol.pr λ_ _ _ _ q=>q.1.mono x2.ff;obtain⟨us,FU,FV,FW⟩:=KS IM key hl hp;have hk:=Lh g6 lj;subst hk;refine⟨ad,_,rfl,uR.k hA<|by rw[gx,←hl,iB,eD];exact hz,?_⟩;rw[FU];refine z U F2 _ (m9.change hm x2 hσ b1 dj cf put cV fA (.inr<|.dK fA zo FV<|iW.ofPr<|FW.mono λ_ _ q=>⟨q,rfl⟩) (fn:=[ad]) (by simp) ?_);intro a ha;rw[dW]at ha;subst ha;exact .inl cV
  ·rw[if_neg hz]at g7;cases g7
 |dT ks Y=>
  cases wH with
  |tup js=>
   dsimp only at g5;obtain⟨key,g6,g7⟩:=dh g5;by_cases hz:ks.length<16777216
   ·rw[if_pos hz]at g7;cases g7;obtain⟨ad,vs,Cr,rfl,rfl,hF,hH,hl,ol⟩:=ow.dT_inv;have hA:=x2.hh _ _ hH;have fA:F2 ad=S:=x2.nf ad _ hH nofun hF;have e0:=ol.nil0;subst e0;have hp:Pr (Dt X.K M F2) Y vs:=ol.pr λ_ _ _ _ q=>q.1.mono x2.ff;obtain⟨us,FU,FV,FW⟩:=KS IM key hl hp;obtain⟨bd,ws,rfl,hb,Iz⟩:=lj.tup x2.fh;have hk:=OE g6 Iz;subst hk;refine⟨ad,_,rfl,uR.t hA hb<|by rw[gx,←hl,iB,eD];exact hz,?_⟩;rw[FU];refine z U F2 _ (m9.change hm x2 hσ b1 dj cf put cV fA (.inr<|.dT fA zo FV<|iW.ofPr<|FW.mono λ_ _ q=>⟨q,rfl⟩) (fn:=[ad]) (by simp) ?_);intro a ha;rw[dW]at ha;subst ha;exact .inl cV
   ·rw[if_neg hz]at g7;cases g7
  |_=>cases g5
 |_=>cases g5
def Je (K:cX):V->V->Hp->VK->Prop:=λo i H Q=>∃p xs k v,o=.ref p/\i=.int k/\i6 K H p xs/\atI xs k=Z v/\Q v H
theorem Zi:HL X (Je X.K):=by
 intro cW s U H o i ov iv Q I ro ri h;obtain⟨p,xs,k,z,rfl,rfl,hq,he,q⟩:=h;cases ro;obtain⟨t,rfl⟩:=ri;obtain⟨eG,r,pl,hz⟩:=I.list hq;obtain⟨j,h1,h2,h3,h4,h5⟩:=KY he;obtain⟨w,ew,uY⟩:=r.get h2;have hl:=r.length;have hn:=pR;have fin:EP X cW U Q w s:=⟨z,H,I,uY,q⟩;by_cases h0:0<=k
 ·have hj:k.toNat=j:=by rw[vQ h0 h5]at h1;exact Option.some.inj h1
  exact wpAny_getItem_list pl.isList h0 (by lia) (by rw[hj];simpa using ew) fin
 ·have hj:(k+(eG.toArray.size:Int)).toNat=j:=by rw[uK (by lia) h4]at h1;rw[dF,←hl];exact Option.some.inj h1
  exact wpAny_getItem_list_neg pl.isList (by lia) (by rw[dF]<;>lia) (by lia) (by rw[hj];simpa using ew) fin
def CV (i:Nat)(fj:EF)(gi:Int->Int->Int)(f:EF):SF:=λO=>(J i O).bind λo=>(fj O).bind λj=>(f O).bind λy=>match o,j with
 |.lst Y,.int z=>(atI Y z).bind λx=>(match x,y with
  |.int a,.int b=>(Bi Y z<|.int<|gi a b).bind λrZ=>Z<|.nx<|O.set i<|Z<|.lst rZ
  |_,_=>S)
 |_,_=>S
theorem Su (i:Nat){j:Expr}{gi:Int->Int->Int}(ho:GZ X op<|Ku gi)(hm:L[i]?=Z (.ow 1))(hj:XE X M L n j fj)(he:XE X M L m e f)(hN:X.N[i]?=Z x:=by rfl)(hv:pN X.env.scope x:=by walk_at "v1")(hd:iM x:=by decide)
  (iY:qD x:=by decide) (ha:∀ov iv new,augStore j ov iv new=(do fH [new,ov,iv] (rq ov iv new);xP [new,ov,iv] [];pure .next):=by intros;rfl) :
  XS X M L rk (.AugAssign (.Subscript (.Name x p1) j ko) op e pos) (CV i fj gi f):=by
 obtain⟨t,pt,qt⟩:=he;obtain⟨tj,CP,CT⟩:=hj;refine⟨_,zqv (yb hN hv hd iY) CP Zi pt ho KO ha,λF0 B F H O U o E rs e z=>?_⟩;obtain⟨d1,wH,g3,g4,g5⟩:=fE e;obtain⟨d2,g6,g7⟩:=dh g5;obtain⟨f1,fr,n1,b1,dj,i4,cf,put⟩:=rs.put (F':=F) (G:=H) hm;obtain⟨v,hσ,ow⟩:=i4 d1<|zq g3;refine⟨v,hσ,CT F0 B F H O U wH _ rs g4 λvj F2 H2 x2 lj=>?_⟩;cases d1<;>try (cases g7;done)
 rename_i Y;cases wH<;>try (cases g7;done)
 rename_i zi
 ·skip
  dsimp only at g7;obtain⟨da,g8,g9⟩:=dh g7;obtain⟨ad,vs,Cr,rfl,rfl,hF,hH,ol⟩:=ow.lst_inv;have hA:H2 ad=Z (.lst vs):=x2.hh _ _ hH;have hp:Pr (Al X.K M F2 H2 0) Y vs:=ol.pr λ_ _ _ _ q=>q.1.mono x2.ff;obtain⟨va,Mn,DW⟩:=hp.atI g8;refine⟨ad,vs,zi,va,rfl,lj.int,i6.of hA,Mn,qt F0 B F2 H2 O U d2 _ (rs.ext x2) g6 λvy F3 H3 x3 ly=>?_⟩;have pf:=x2.trans x3;cases da<;>try (cases g9;done)
  rename_i ia;cases d2<;>try (cases g9;done)
  rename_i ib
  ·skip
   dsimp only at g9;obtain⟨rZ,UD,UE⟩:=dh g9;cases UE;obtain⟨jn,UF,UG⟩:=dh UD;cases UG;have UK:H3 ad=Z (.lst vs):=x3.hh _ _ hA;have fA:F3 ad=S:=pf.nf ad _ hH nofun hF;have e0:=ol.nil0;subst e0;refine⟨ia,ib,DW.int,ly.int,ad,vs,zi,jn,rfl,lj.int,UK,by rw[←ol.length];exact UF,?_⟩;refine z U F3 _ (rs.change hm pf hσ b1 dj cf put cV fA (.inr<|.lst fA zo<|iW.set0 ⟨.int _,rfl⟩ (λ_ _ _ q=>q.2) jn<|ol.mono λ_ _ _ _ q=>⟨q.1.mono pf.ff,q.2⟩) (fn:=[ad]) (by simp) ?_);intro a ha;rw[dW]at ha;subst ha;exact .inl cV
structure Ic (K:cX)(C:cZ):Prop where
 cl:mQ K C
 ha:dI K (.ref C) "__class__"=Z (Z<|.builtin "object.__class__")
 hn:gq K (.builtin "object.__class__") "__get__"=Z (Z<|.builtin "getset_descriptor.__get__")
 ht:rW K (.builtin "object.__class__")=Z Â
 hm:fS K C (.type "object")=Z Â
def BG (all sub:List Nat):D->Option D
 |.obj c _ _=>if all.contains c=Â then Z (.bl<|sub.contains c)else S
 |_=>S
theorem K9 (hI:∀c∈all,Ic X.K (M c)/\dN X.K (.ref<|M c) (.ref C)=Z (sub.contains c))(hm:X.mg "isinstance"=S)(B7:X.mg x=Z (.ref C))(he:XE X M L n e f)(hg:Gl X "isinstance":=by rfl)(Cw:Gl X x:=by rfl)(hd2:iM x:=by decide)
  (A0:dM [e,.Name x p2] X.env=(Ã,eP e X.env)::dM [.Name x p2] X.env:=by rfl) (vJ:dM [.Name x p2] X.env=(Ã,eP (.Name x p2) X.env)::dM [] X.env:=by rfl) (iD:(gR pos<|dM [.Name x p2] X.env).any (·.1)=Ã:=by rfl) :
  XE X M L k (.Call (.Name "isinstance" pp) [e,.Name x p2] [] pos) (e1 (BG all sub) f):=by
 obtain⟨t,pt,qt⟩:=he;refine⟨_,u5 Y7 hg hm wk (ya pt (ya (K2 (v:=.ref C) Cw B7 rfl hd2) yz vJ) A0) (by decide) (by decide) A0 iD,λF0 B F H O U d Q rs e w=>?_⟩;obtain⟨d1,h1,h2⟩:=dh e;refine qt F0 B F H O U d1 _ rs h1 λv F' G x l=>?_;cases d1 with
 |obj c ns Y=>
  unfold BG at h2;dsimp only at h2;by_cases hc:all.contains c=Â
  ·rw[if_pos hc]at h2;cases h2;obtain⟨a,dx,vs,rfl,ha,_⟩:=l.obj x.fh;obtain⟨ic,IL⟩:=hI c (by simpa using hc);exact⟨_,C,_,_,rfl,.ins ha ic.cl ic.ha ic.hn ic.ht ic.hm,IL,w _ F' G x<|Al.of<|.bl _⟩
  ·rw[if_neg hc]at h2;cases h2
 |_=>cases h2
section
open PySem PySem.Spec L2
noncomputable def Vr (i:Int):Str:=((toString i:String):Str)
def AG:List D->Option D
 |[.int i]=>if i.natAbs.log2<1920 then Z (.str<|Vr i)else S
 |_=>S
theorem JG:Dh K M [n] k (λxs H Q=>∃i,xs=[.int i]/\i.natAbs.log2<1920/\Q (.str<|toString i) H) AG:=by
 intro F H vs Y d Q s l e w;cases l with
 |cons h t=>
  cases t;rename_i d1 v;cases d1 with
  |int i=>
   unfold AG at e;dsimp only at e;by_cases hz:i.natAbs.log2<1920
   ·rw[if_pos hz]at e;cases e;exact⟨i,by rw[h.int],hz,w _ F H (.refl s)<|Al.of<|.str _⟩
   ·rw[if_neg hz]at e;cases e
  |_=>cases e
theorem OW (s:String):dX.strOk (s:Str)=Â:=by
 unfold dX.strOk;rw[←m6,fN];intro x hx;rw[decide_eq_true_iff];show x<0x110000;rw[Str.ofString_eq_toList]at hx;simp at hx;obtain⟨c,_,rfl⟩:=hx;have h:=c.valid;rcases h with h|⟨h1,h2⟩
 ·have:c.val.toNat<0xd800:=h;show c.val.toNat<_;lia
 ·exact h2
noncomputable def Es:xS {x:Str // dX.strOk x=Â}:=⟨λx=>.str x.1,λx=>.str x.1,0,λ_=>by simp[D.py],λx=>by simp only[dX.canLay0];exact x.2,λ_=>by simp[dX.depth],λx y=>by
 show(x.1==y.1)=_;by_cases h:x=y
 ·subst h;simp
 ·have:x.1≠y.1:=λz=>h<|Subtype.ext z;simp[h,this]⟩
theorem zr9 (hx:dX.strOk x=Â)(hy:dX.strOk y=Â):jQ neg (.str x) (.str y)=Z (.bl<|if neg then !decide (x=y)else decide (x=y)):=by have:=Es.eq (by decide) (neg:=neg) ⟨x,hx⟩ ⟨y,hy⟩;simpa[Es]using this
theorem Sv (x y:Str):(x++y).length=x.length+y.length:=by show(x.cps++y.cps).size=_;rw[Array.size_append];rfl
end
def Gj (K:cX):V->List V->Hp->VK->Prop:=λx vs H Q=>∃p ys y j,x=.ref p/\vs=[y]/\i6 K H p ys/\mS y=Â/\ys.all mS=Â/\ys.findIdx? (λz=>BC z y)=Z j/\Q (.int (j:Nat)) H
theorem Sw:∀{xs:List V} {us:List cU} {x:V},eh xs us->xs.all mS=Â->us.map (xJ x)=xs.map λy=>BC y x
 |_,_,_,.nil,_=>rfl
 |y::xs,u::us,x,.cons r t,f=>by rw[hG,dP]at f;rw[dJ,dJ,OR r f.1,Sw t f.2]
theorem zov:FB X "list.index" (Gj X.K):=by
 intro cW s U H x vs v us Q I rx rv h;obtain⟨p,ys,y,j,rfl,rfl,hq,fy,fs,hj,q⟩:=h;cases rx;obtain⟨u,rfl,ru⟩:=rv.one;obtain⟨eG,r,pl,hz⟩:=I.list hq;obtain⟨⟨cls,dd,data,sl⟩,ho,hc,n,hd⟩:=pl.isList;simp only at hc hd;subst hc hd;have hm:=Sw (x:=y) r fs;have mF:=r.length;obtain⟨j1,j2,j3⟩:=List.findIdx?_eq_some_iff_getElem.mp hj;have Py:∀i (hi:i<eG.length),xJ y eG[i]=BC (ys[i]'(by lia)) y:=λi hi=>by have:=congrArg (λl=>l[i]?) hm;simp only[ix]at this;rw[gI hi,gI<|by lia]at this;simpa using this
 have hzl:ys.length<=16777216:=hz;refine m7 PySem.F.slot_list_index ⟨_,ho,rfl⟩ PySem.F.entry_list_index (PySem.F.args_list_index_2 _ _)
  (SeqAt.list_indexAt p eG.toArray n dd sl u (xJ y) j (by simp;lia) (by lia) ?_ ?_) ⟨ho,λw hw=>u6 ru fy r fs w<|by simpa using hw,.int (j:Nat),H,I.tok _,⟨_,rfl⟩,q⟩
 ·simp only[zY];rw[Py j<|by lia];exact j2
 ·intro i hi vI;simp only[zY];rw[Py i<|by simpa using hi];simpa using j3 i vI
def wL:D->D->Option D
 |.lst Y,x=>if x.sc=Â/\Y.all D.sc=Â then(Y.findIdx? λy=>Dk y x).bind λj=>Z (.int (j:Nat))else S
 |_,_=>S
theorem S5 {x:D}(hx:x.sc=Â):∀{Y:List D},Y.all D.sc=Â->(Y.map D.v).findIdx? (λz=>BC z x.v)=Y.findIdx? λy=>Dk y x
 |[],_=>rfl
 |d::Y,h=>by rw[hG,dP]at h;rw[dJ,kx,kx,Tt h.1 hx,S5 hx h.2]
theorem qm (ho:XE X M L n o f)(he:XE X M L m e g)(jH:SE X e []:=by rfl)
  (lr:Af X o "index":=by rfl)
  (oq:DD X fP [e]:=by rfl)
  (lz:(fG.endLine==fP.line)=Â:=by rfl) (jG:lV X fP []:=by rfl) :
  XE X M L k (.Call (.Attribute o "index" fG) [e] [] fP) (e2 wL f g):=by
 obtain⟨ta,pa,qa⟩:=ho;obtain⟨tb,pb,qb⟩:=he;refine⟨_,Fv PySem.F.plainAttrs_list PySem.F.slot_list_index PySem.F.type_list_index zov pa (ya pb yz jH) lr oq lz jH jG,λF0 B F H O U d Q rs e w=>?_⟩;obtain⟨d1,d2,h1,h2,h3⟩:=fE e;refine qa F0 B F H O U d1 _ rs h1 λv1 F1 H1 x1 l1=>?_;cases d1 with
 |lst Y=>
  unfold wL at h3;dsimp only at h3;by_cases hz:d2.sc=Â/\Y.all D.sc=Â
  ·rw[if_pos hz]at h3;obtain⟨j,hj,h4⟩:=dh h3;cases h4;obtain⟨p,vs,rfl,hp,Ko⟩:=l1.lst x1.fh;refine⟨.inl ⟨rfl,_,hp⟩,qb F0 B F1 H1 O U d2 _ (rs.ext x1) h2 λv2 F2 H2 x2 l2=>?_⟩;have hv:=Ko.vs hz.2;subst hv;have hx:=Al.v l2 hz.1;subst hx;exact⟨p,_,_,j,rfl,rfl,x2.hh.seq hp,D.flat hz.1,qf hz.2,by rw[S5 hz.1 hz.2];exact hj,w _ F2 H2 (x1.trans x2)<|Al.of<|.int _⟩
  ·rw[if_neg hz]at h3;cases h3
 |_=>cases h3
theorem Sx:∀{xs:List V} {us:List cU},xs.length=us.length->(∀(i:Nat) (x:V) (u:cU),xs[i]?=Z x->us[i]?=Z u->L2.Ì x u)->eh xs us
 |[],[],_,_=>.nil
 |[],_::_,h,_=>by cases h
 |_::_,[],h,_=>by cases h
 |x::xs,u::us,h,r=>.cons (r 0 x u rfl rfl) (Sx (by simpa using h) λi y w hy hw=>r (i+1) y w (by simpa using hy) (by simpa using hw))
theorem N2 {own:Nat}{yS:my}
  (hm:L[i]?=Z (.ow k)) (hN:X.N.Nodup) (Iq:X.N[i]?=Z x) (hx:ë X.env.scope x)
  (B:og X scope N own cap) (hc:X.calm=Â) (ho:om.length=own) (qL:∀i∈cap,i<L.length) (hi:å X M L n tg iter fi)
  (hg:∀cl C fp s₀ H₀,Cm (m8 X scope cl N C fp s₀ H₀) M (om++jZ L cap) own n tg gg) (ht:∀cl C fp s₀ H₀,DI (m8 X scope cl N C fp s₀ H₀) M (om++jZ L cap) ifs p) (he:∀cl C fp s₀ H₀,XO (m8 X scope cl N C fp s₀ H₀) M (om++jZ L cap) (k-1) pA f)
  (CF:gc (.ListComp pA [⟨tg,iter,ifs,0⟩] scope pos) (Z<|.Name x pos') yS.line X.env=pure Â:=by rfl)
  (hs:B4 X iter:=by intro _;rfl) (hf:xE X x:=by walk_at "v2") :
  XS X M L rk (.Assign [.Name x pos'] (.ListComp pA [⟨tg,iter,ifs,0⟩] scope pos) yS) (È i<|fY fi own cap gg p f):=by
 obtain⟨wi,g,tt,te,pi,kg,pg,pt,pe,q⟩:=RE (k:=k-1) (pos:=pos) B hc ho qL hi hg ht he;refine⟨_,Yq B hc pi kg pg pt pe hN Iq hx CF hs hf,λF0 B F H O U o E rs e w=>?_⟩;obtain⟨d,h1,h2⟩:=dh e;cases h2;cases k with
 |succ k=>exact q F0 B F H O U d _ rs h1 λv F' G fp x l nd hf=>w _ F' G<|rs.set hm x l nd hf
 |zero=>refine q F0 B F H O U d _ rs h1 λv F' G fp x l nd hf=>?_;obtain⟨F2,x2,l2⟩:=l.freeze x hf;exact w _ F2 G (rs.set hm x2 (Ow.zero l2) d4 λa z=>by cases z)
theorem La (hm:L[i]?=Z (.ow k))(hN:X.N[i]?=Z x:=by rfl)(hv:pN X.env.scope x:=by walk_at "v1")(hd:iM x:=by decide)
  (iY:qD x:=by decide):XS X M L 0 (.Return (Z<|.Name x pos') pos) (É<|J i):=by
 refine⟨_,GO<|yb hN hv hd iY,λF0 B F H O U o E rs e w=>?_⟩;obtain⟨d,h1,h2⟩:=dh e;cases h2;obtain⟨fp,sl,nd,hb⟩:=rs.sl;obtain⟨f1,fr,i1,i2,i3,i4,i5⟩:=sl.put hm;obtain⟨v,EZ,l⟩:=i4 d<|zq h1;obtain⟨F',x,l2⟩:=l.freeze (⟨rs.f0,rs.bh,rs.fh,rs.nf⟩:iJ F0 B F H)<|λz hz=>hb z<|i1 z hz;exact⟨v,EZ,w v F' H [] x.ff x.hh x.fh x.nf (Ow.zero l2) d4 λz hz=>by cases hz⟩
theorem Ż (hu:X.A.units+1<i8)(ha:XE X M L n a f)(hb:XE X M L m b g)(hm:gh .In b=Ã):XT X M L (.Compare a [.In] [b] pos) (tb λO=>(f O).bind λx=>(g O).bind λy=>(lZ y x).bind λr=>Z<|.bl r.isSome):=by
 obtain⟨ta,tb',pa,pb,q⟩:=ha.bin hb;refine⟨_,Li (Ų hu pa pb) hm,λF0 B F H O U t Q rs e w=>?_⟩;obtain⟨d0,h0,h9⟩:=dh e;obtain⟨d1,d2,h1,h2,h3⟩:=fE h0;obtain⟨r,h4,h5⟩:=dh h3;cases h5;cases h9;refine q F0 B F H O U d1 d2 _ rs h1 h2 λx y F' G x1 l1 l2=>?_;obtain⟨a,o,rfl,g,_,h⟩:=JB (r:=r) x1.fh l2 l1 h4;refine⟨a,o,rfl,g,?_⟩;cases r with
 |none=>rw[h.none_of];exact⟨_,rfl,w F' G x1⟩
 |some d=>obtain⟨u,rfl,D0⟩:=h.some_of;exact⟨_,rfl,w F' G x1⟩
theorem Zj (hu:X.A.units+1<i8)(ha:XE X M L n a f)(hb:XE X M L m b g)(hm:gh .NotIn b=Ã):XT X M L (.Compare a [.NotIn] [b] pos) (tb λO=>(f O).bind λx=>(g O).bind λy=>(lZ y x).bind λr=>Z<|.bl<|!r.isSome):=by
 obtain⟨ta,tb',pa,pb,q⟩:=ha.bin hb;refine⟨_,Li (Y4 hu pa pb) hm,λF0 B F H O U t Q rs e w=>?_⟩;obtain⟨d0,h0,h9⟩:=dh e;obtain⟨d1,d2,h1,h2,h3⟩:=fE h0;obtain⟨r,h4,h5⟩:=dh h3;cases h5;cases h9;refine q F0 B F H O U d1 d2 _ rs h1 h2 λx y F' G x1 l1 l2=>?_;obtain⟨a,o,rfl,g,_,h⟩:=JB (r:=r) x1.fh l2 l1 h4;refine⟨a,o,rfl,g,?_⟩;cases r with
 |none=>rw[h.none_of];exact⟨_,rfl,w F' G x1⟩
 |some d=>obtain⟨u,rfl,D0⟩:=h.some_of;exact⟨_,rfl,w F' G x1⟩
theorem iW.upd {R R':D->V->List cZ->Prop}{vs:List V}(h:iW R Y vs fp)(e:Y[i]?=Z d):∃v f,vs[i]?=Z v/\R d v f/\(∀a∈f,a∈fp) /\
  ∀d',R' d' v f->fp.Nodup->(∀d v f',(∀a∈f',a∈fp)->(∀a∈f',a∉f)->R d v f'->R' d v f')->iW R' (Y.set i d') vs fp:=by
 induction h generalizing i with
 |nil=>cases e
 |@cons _ _ _ _ f g h t ih=>
  cases i with
  |zero=>cases e;refine⟨_,f,rfl,h,λa ha=>dc _ ha,λd' hd nd ot=>?_⟩;rw[dm]at nd;exact .cons hd<|t.mono λd v f' hi r=>ot d v f' (λa ha=>c8 _<|hi a ha) (λa ha hf=>nd.2.2 a hf a (hi a ha) rfl) r
  |succ i=>obtain⟨v,f2,h1,h2,h3,h4⟩:=ih (i:=i) e;refine⟨v,f2,h1,h2,λa ha=>c8 _<|h3 a ha,λd' hd nd ot=>?_⟩;rw[dm]at nd;exact .cons (ot _ _ f (λa ha=>dc _ ha) (λa ha hf=>nd.2.2 a ha a (h3 a hf) rfl) h)<|h4 d' hd nd.2.1 λd v f' hi hn r=>ot d v f' (λa ha=>c8 _<|hi a ha) hn r
def CW (i:Nat)(fj fl f:EF):SF:=λO=>(f O).bind λd=>(J i O).bind λo=>(fj O).bind λj=>(fl O).bind λl=>match o,j,l with
 |.lst rs,.int y,.int z=>(ú rs.length y).bind λy'=>(rs[y']?).bind λr=>(match r with
  |.lst Y=>(Bi Y z d).bind λrZ=>Z<|.nx<|O.set i<|Z<|.lst<|rs.set y'<|.lst rZ
  |_=>S)
 |_,_,_=>S
theorem zow (i:Nat){j l:Expr}{fl:EF}(hm:L[i]?=Z (.ow 2))(hj:XE X M L n j fj)(hl:XE X M L m l fl)(hp:qE j)(he:XE X M L 0 e f)(hN:X.N[i]?=Z x:=by rfl)(hv:pN X.env.scope x:=by walk_at "v1")(hd:iM x:=by decide)
  (iY:qD x:=by decide)
  (ha:∀v,kU (.Subscript (.Subscript (.Name x p1) j p2) l ko) X.env v=(do
   let ov ← fH [v] (eP (.Subscript (.Name x p1) j p2) X.env)
   let iv ← fH [v,ov] (eP l X.env)
   ij ko
   fH [v,ov,iv] (rq ov iv v)
   xP [v,ov,iv] []):=by intro _;rfl)
  (hs:n4 [.Subscript (.Subscript (.Name x p1) j p2) l ko] e pos.line X.env=pure Ã:=by rfl) (hw:nZ [.Subscript (.Subscript (.Name x p1) j p2) l ko] e X.env=pure S:=by rfl)
  (h1:(eY [.Subscript (.Subscript (.Name x p1) j p2) l ko] X.env).map (·.2)=[kU (.Subscript (.Subscript (.Name x p1) j p2) l ko) X.env]:=by rfl) :
  XS X M L rk (.Assign [.Subscript (.Subscript (.Name x p1) j p2) l ko] e pos) (CW i fj fl f):=by
 obtain⟨t,pt,qt⟩:=he;obtain⟨tj,CP,CT⟩:=hj;obtain⟨tl,VF,VI⟩:=hl;refine⟨_,Lj pt (OL (Tn Se (yb hN hv hd iY) CP hp) VF KO ha) hs hw h1,λF0 B F H O U o E rs e z=>?_⟩;obtain⟨d,g1,g2⟩:=dh e;obtain⟨d1,wH,g3,g4,g5⟩:=fE g2;obtain⟨T5,g6,g7⟩:=dh g5;refine qt F0 B F H O U d _ rs g1 λv0 F1 H1 x1 l0=>?_;have m9:=rs.ext x1;obtain⟨f1,fr,n1,b1,dj,i4,cf,put⟩:=m9.put (F':=F) (G:=H) hm;obtain⟨v,hσ,ow⟩:=i4 d1<|zq g3;refine⟨v,hσ,CT F0 B F1 H1 O U wH _ m9 g4 λvj F2 H2 x2 lj=>?_⟩;cases d1 with
 |lst Jm=>
  cases wH with
  |int yi=>
   cases T5 with
   |int zi=>
    obtain⟨y',k1,k2⟩:=dh g7;obtain⟨r,k3,k4⟩:=dh k2;cases r with
    |lst Y=>
     obtain⟨rZ,k5,k6⟩:=dh k4;cases k6;obtain⟨jn,k8,k9⟩:=dh k5;cases k9;obtain⟨ad,vs,Cr,rfl,rfl,hF,hH,ol⟩:=ow.lst_inv;obtain⟨vr,f2,q1,q2,q3,q4⟩:=iW.upd (R':=Ow X.K M F2 (upd H2 0<|.lst []) 1) ol k3;obtain⟨bd,us,Uz,rfl,rfl,UL,Mj,Nr⟩:=q2.lst_inv;clear q4;have hA:H2 ad=Z (.lst vs):=x2.hh _ _ hH;refine⟨ad,vs,yi,.ref bd,rfl,lj.int,i6.of hA,?_,?_⟩
     ·unfold atI;rw[←ol.length,k1];exact q1
     ·refine VI F0 B F2 H2 O U _ _ (m9.ext x2) g6 λvl F3 H3 x3 ll=>?_;have pf:=x2.trans x3;have hB:H3 bd=Z (.lst us):=pf.hh _ _ Mj;have fB:F3 bd=S:=pf.nf bd _ Mj nofun UL;have e0:=Nr.nil0;subst e0;have Hg:=eJ.mp n1;have Pz:bd∈Cr:=q3 bd cV;have oQ:ad≠bd:=λz=>Hg.1<|z▸Pz;refine⟨bd,us,zi,jn,rfl,ll.int,hB,by rw[←Nr.length];exact k8,?_⟩;obtain⟨vr',f2',Qe,VG,q3',VH⟩:=iW.upd (R':=Ow X.K M F3 (upd H3 bd<|.lst<|us.set jn v0) 1) ol k3;rw[q1]at Qe;cases Qe;obtain⟨Pf,us',UA,eb,rfl,_,Pq,Nt⟩:=VG.lst_inv;cases eb;have e1:=Nt.nil0;subst e1;rw[Mj]at Pq;cases Pq;refine z U F3 _ (m9.change hm pf hσ b1 dj cf put (df _ Pz) fB (.inr<|.lst (pf.nf ad _ hH nofun hF) (by rw[zn oQ];exact pf.hh _ _ hH)<|VH (.lst<|Y.set jn d) (.inr<|.lst fB zo<|iW.set0 ⟨Dt.mono pf.ff l0,rfl⟩ (λ_ _ _ q=>q.2) jn<|Nr.mono λ_ _ _ _ q=>⟨q.1.mono pf.ff,q.2⟩) Hg.2 ?_) (fn:=ad::Cr) n1 λa ha=>.inl ha);intro d0 v1 f' MS MA o';refine(o'.ext pf).frame (.refl _) λa' Kb=>⟨zn λe=>MA a' Kb (by rw[e];exact cV),((o'.ext pf).cells a' Kb).1⟩
    |_=>cases k4
   |_=>cases g7
  |_=>cases g7
 |_=>cases g7
theorem SL.fz (h0:SL K M F B H L O U fp)(s:d9 F H):fp.Nodup->L[i]?=Z (.ow k)->∃f1:List cZ,(∀a∈f1,a∈fp) /\
  ∃iy,SL K M (mr F H f1) B H (L.set i<|.ow 0) O U iy/\iy.Nodup/\∀a∈iy,a∈fp/\a∉f1:=by
 induction h0 generalizing i with
 |nil=>intro _ e;simp at e
 |@no m0 o0 L O U fp t ih=>
  intro nd e;cases i with
  |zero=>obtain⟨w1,w2,w3⟩:=wd (F:=F) (H:=H) (fp:=[]) s (λa z=>by cases z);exact⟨[],λa z=>(by cases z),fp,.no<|t.frame w1 λa z=>⟨rfl,by unfold mr;rw[if_neg<|by simp];exact(t.cells a z).1⟩,nd,λa z=>⟨z,by simp⟩⟩
  |succ i=>obtain⟨f1,h1,iy,q1,q2,q3⟩:=ih (i:=i) nd (by simpa using e);exact⟨f1,h1,iy,.no q1,q2,q3⟩
 |@al n0 d0 v0 L O U fp h t ih=>
  intro nd e;cases i with
  |zero=>simp at e
  |succ i=>obtain⟨f1,h1,iy,q1,q2,q3⟩:=ih (i:=i) nd (by simpa using e);obtain⟨w1,w2,w3⟩:=wd (F:=F) (H:=H) (fp:=f1) s<|λa z=>(t.cells a<|h1 a z).1;exact⟨f1,h1,iy,.al (h.mono w1<|.refl _) q1,q2,q3⟩
 |@px d0 v0 L O U fp h t ih=>
  intro nd e;cases i with
  |zero=>simp at e
  |succ i=>obtain⟨f1,h1,iy,q1,q2,q3⟩:=ih (i:=i) nd (by simpa using e);obtain⟨w1,w2,w3⟩:=wd (F:=F) (H:=H) (fp:=f1) s<|λa z=>(t.cells a<|h1 a z).1;exact⟨f1,h1,iy,.px (h.mono w1<|.refl _) q1,q2,q3⟩
 |@so d0 x L O U f fp h t ih=>
  intro nd e;cases i with
  |zero=>simp at e
  |succ i=>
   obtain⟨n1,n2,n3⟩:=dm.mp nd;obtain⟨f1,h1,iy,q1,q2,q3⟩:=ih (i:=i) n2 (by simpa using e);obtain⟨w1,w2,w3⟩:=wd (F:=F) (H:=H) (fp:=f1) s<|λa z=>(t.cells a<|h1 a z).1;refine⟨f1,λa z=>c8 _<|h1 a z,f++iy,.so (h.frame w1 λa z=>⟨rfl,?_⟩) q1,dm.mpr ⟨n1,q2,λa z b zb=>n3 a z b (q3 b zb).1⟩,λa z=>?_⟩
   ·unfold mr;rw[if_neg λq=>n3 a z a (h1 a q) rfl];exact(h.cells a z).1
   ·rcases dD.mp z with z|z
    ·exact⟨dc _ z,λq=>n3 a z a (h1 a q) rfl⟩
    ·exact⟨c8 _ (q3 a z).1,(q3 a z).2⟩
 |@ow n0 d0 v0 L O U f fp h t ih=>
  intro nd e;cases i with
  |zero=>obtain⟨w1,w2,w3⟩:=wd (F:=F) (H:=H) (fp:=f) s<|λa z=>(h.cells a z).1;obtain⟨n1,n2,n3⟩:=dm.mp nd;refine⟨f,λa z=>dc _ z,[]++fp,.ow ⟨h.dt w1 w3,rfl⟩<|t.frame w1 λa z=>⟨rfl,?_⟩,n2,λa z=>⟨c8 _ z,λq=>n3 a q a z rfl⟩⟩;unfold mr;rw[if_neg λq=>n3 a q a z rfl];exact(t.cells a z).1
  |succ i=>
   obtain⟨n1,n2,n3⟩:=dm.mp nd;obtain⟨f1,h1,iy,q1,q2,q3⟩:=ih (i:=i) n2 (by simpa using e);obtain⟨w1,w2,w3⟩:=wd (F:=F) (H:=H) (fp:=f1) s<|λa z=>(t.cells a<|h1 a z).1;refine⟨f1,λa z=>c8 _<|h1 a z,f++iy,.ow (h.frame w1 λa z=>⟨rfl,?_⟩) q1,dm.mpr ⟨n1,q2,λa z b zb=>n3 a z b (q3 b zb).1⟩,λa z=>?_⟩
   ·unfold mr;rw[if_neg λq=>n3 a z a (h1 a q) rfl];exact(h.cells a z).1
   ·rcases dD.mp z with z|z
    ·exact⟨dc _ z,λq=>n3 a z a (h1 a q) rfl⟩
    ·exact⟨c8 _ (q3 a z).1,(q3 a z).2⟩
theorem SL.forget (m':Mo)(i:Nat)(h0:SL K M F B H L O U fp):∃iy,SL K M F B H (L.set i m') (O.set i S) U iy/\iy.Sublist fp:=by
 induction h0 generalizing i with
 |nil=>exact⟨[],.nil,.refl _⟩
 |@no m0 o0 L O U fp t ih=>
  cases i with
  |zero=>exact⟨fp,.no t,.refl _⟩
  |succ i=>obtain⟨iy,q1,q2⟩:=ih i;exact⟨iy,.no q1,q2⟩
 |@al n0 d0 v0 L O U fp h t ih=>
  cases i with
  |zero=>exact⟨fp,.no t,.refl _⟩
  |succ i=>obtain⟨iy,q1,q2⟩:=ih i;exact⟨iy,.al h q1,q2⟩
 |@px d0 v0 L O U fp h t ih=>
  cases i with
  |zero=>exact⟨fp,.no t,.refl _⟩
  |succ i=>obtain⟨iy,q1,q2⟩:=ih i;exact⟨iy,.px h q1,q2⟩
 |@so d0 x L O U f fp h t ih=>
  cases i with
  |zero=>exact⟨fp,.no t,jW _ _⟩
  |succ i=>obtain⟨iy,q1,q2⟩:=ih i;exact⟨_,.so h q1,(rj.refl _).append q2⟩
 |@ow n0 d0 v0 L O U f fp h t ih=>
  cases i with
  |zero=>exact⟨fp,.no t,jW _ _⟩
  |succ i=>obtain⟨iy,q1,q2⟩:=ih i;exact⟨_,.ow h q1,(rj.refl _).append q2⟩
theorem RS.fz (rs:RS K M F0 B L F H O U)(hm:L[i]?=Z (.ow k)):∃F',RS K M F0 B (L.set i<|.ow 0) F' H O U:=by
 obtain⟨fp,sl,nd,hb⟩:=rs.sl;obtain⟨f1,h1,iy,q1,q2,q3⟩:=sl.fz rs.fh nd hm;obtain⟨w1,w2,w3⟩:=wd (F:=F) (H:=H) (fp:=f1) rs.fh<|λa z=>(sl.cells a<|h1 a z).1;refine⟨mr F H f1,rs.f0.trans w1,rs.bh,w2,λa o ho nt hn=>?_,iy,q1,q2,λa z=>hb a (q3 a z).1⟩;have:¬a∈f1:=λz=>by rw[hb a<|h1 a z]at ho;cases ho
 unfold mr;rw[if_neg this];exact rs.nf a o ho nt hn
theorem RS.forget (m':Mo)(i:Nat)(rs:RS K M F0 B L F H O U):RS K M F0 B (L.set i m') F H (O.set i S) U:=by obtain⟨fp,sl,nd,hb⟩:=rs.sl;obtain⟨iy,q1,q2⟩:=sl.forget m' i;exact⟨rs.f0,rs.bh,rs.fh,rs.nf,iy,q1,q2.nodup nd,λa z=>hb a<|q2.subset z⟩
def Bd (i:Nat):é->é
 |.nx O=>.nx<|O.set i S
 |.rt d=>.rt d
 |.bk O=>.bk<|O.set i S
 |.ct O=>.ct<|O.set i S
def þ (i:Nat)(u:SF):SF:=λO=>(u O).bind λo=>Z<|Bd i o
theorem QS (hm:L[i]?=Z (.ow k)):(L.set i<|.ow 0).set i (.ow k)=L:=by
 rw[rn];apply mL;intro j;rw[rl];split
 ·next h=>subst h;rw[hm];have:=(ee.mp hm).1;rw[if_pos this]
 ·rfl
theorem Ŀ {t:lO->St->Hp->Prop}(hm:L[i]?=Z (.ow k))
  (q:∀(F0 B F H:Hp) (O:Env) (U:St) (o:é) (E:lO),RS X.K M F0 B (L.set i<|.ow 0) F H O U->w O=Z o->nD X.K M F0 B (L.set i<|.ow 0) rk E o->t E U H)
  (F0 B F H:Hp) (O:Env) (U:St) (o:é) (E:lO) (rs:RS X.K M F0 B L F H O U) (e:þ i w O=Z o) (z:nD X.K M F0 B L rk E o):t E U H:=by
 obtain⟨F',r2⟩:=rs.fz hm;obtain⟨o1,e1,e2⟩:=dh e;refine q F0 B F' H O U o1 E r2 e1 ?_;have back:∀{ρ':Env} {σ':St} {F2 H2:Hp},RS X.K M F0 B (L.set i<|.ow 0) F2 H2 ρ' σ'->RS X.K M F0 B L F2 H2 (ρ'.set i S) σ':=λr=>by have:=r.forget (.ow k) i;rw[QS hm]at this;exact this
 cases o1 with
 |nx ρ'=>cases e2;exactλσ' F2 H2 r=>z σ' F2 H2<|back r
 |rt d=>cases e2;exact z
 |bk ρ'=>cases e2;exactλσ' F2 H2 r=>z σ' F2 H2<|back r
 |ct ρ'=>cases e2;exactλσ' F2 H2 r=>z σ' F2 H2<|back r
theorem Lp (hm:L[i]?=Z (.ow k))(h:tH X M (L.set i<|.ow 0) rk Gr w):tH X M L rk Gr (þ i w):=by obtain⟨t,pt,qt⟩:=h;exact⟨t,pt,Ŀ hm qt⟩
theorem Ě:Bd i (.rt d)=.rt d:=rfl
theorem ę:Bd i (.nx O)=.nx (O.set i S):=rfl
noncomputable def uF:List D->List D->List D
 |x::xs,y::ys=>.tup [x,y]::uF xs ys
 |_,_=>[]
theorem RI:∀{xs ys:List D} {i:Nat} {d:D},(uF xs ys)[i]?=Z d->∃x y,xs[i]?=Z x/\ys[i]?=Z y/\d=.tup [x,y]
 |[],_,_,_,h=>by simp[uF]at h
 |_::_,[],_,_,h=>by simp[uF]at h
 |x::xs,y::ys,0,d,h=>by simp[uF]at h;subst h;exact⟨x,y,rfl,rfl,rfl⟩
 |x::xs,y::ys,i+1,d,h=>by obtain⟨u,v,h1,h2,h3⟩:=RI (xs:=xs) (ys:=ys) (i:=i) (d:=d) (by simpa[uF]using h);exact⟨u,v,by simpa using h1,by simpa using h2,h3⟩
theorem RJ:∀{xs ys:List D},(uF xs ys).length=min xs.length ys.length
 |[],_=>by simp[uF]
 |_::_,[]=>by simp[uF]
 |x::xs,y::ys=>by simp[uF,RJ (xs:=xs) (ys:=ys)]
theorem Ϫ:sZ (cU.type "list_reverseiterator") (Str.ofString "__len__")=pure S:=by with_unfolding_all rfl
theorem zox:sZ (cU.type "list_reverseiterator") (Str.ofString "__length_hint__")=pure (Z<|cU.builtin "list_reverseiterator.__length_hint__"):=by with_unfolding_all rfl
theorem Zk:splitId "list_reverseiterator.__length_hint__"=Z ("list_reverseiterator","__length_hint__"):=by with_unfolding_all rfl
theorem ϩ:isSubtype (cU.type "list_reverseiterator") (cU.type "list_reverseiterator")=pure Â:=by with_unfolding_all rfl
variable {A:dO}{it:cZ}{prog:eI}
theorem zoy {w:d5}{E:cU->de->Prop}{s:de}{i:Int}{Q:Bool->de->Prop}(st:s.heap.IsRevIter it l i)(h:Q Ã s):dr (dq prog w) A (Builtin.List.listLengthHint<|cU.ref it) Q E s:=by unfold Builtin.List.listLengthHint;refine cY<|xD st.typeIs Ϫ ?_;simp only[];refine cY<|xD st.typeIs zox ?_;simp only[Zk];refine cY<|wpAny_isInstance st.typeIs ϩ ?_;rw[if_neg<|by decide];rw[if_pos<|by with_unfolding_all decide,if_neg<|by decide];exact dA h
theorem Yz {w:d5}{s:de}{R:Result->de->Prop}(hh:A.handled=S)(st:s.heap.IsRevIter it l<|(items.size:Int)-1)(hl:s.heap.IsList l items)(oQ:l≠it)(hsz:items.size<=sizeLine)(S':cZ)(res:cU)(c₀:Nat)(hS:s.heap.get? S'=Z { cls:=cU.type "list",data:=pj.seq #[] c₀ })(UO:S'≠l)
    (hR:∀(h':dz) (tk:Nat) (rD:Array cU) (c':Nat),(∀(b:cZ) (o:gM),b≠S'->b≠it->s.heap.get? b=Z o->h'.get? b=Z o)->h'.get? S'=Z { cls:=cU.type "list",data:=pj.seq rD c' }->ItemsOf (λi v=>items[items.size-1-i]?=Z v) rD items.size->R (Except.ok<|Flow.ret res) { s with heap:=h',toks:=tk }) :
    dr (dq prog w) A.in1 (Builtin.List.listExtendWith (cU.ref S') (cU.ref it) res) (λfin s'=>match fin with|Fin.done f=>R (Except.ok f) s'|Fin.again c'=>c'.quiet=Â/\jC (dq prog w) A c' R s') (λe s'=>R (Except.error e) s') s:=by
  have Ia:S'≠it:=λe=>by obtain⟨o,h1,h2,h3⟩:=st;rw[←e,hS]at h1;cases h1;simp at h2
  have W:=(Walks.listRev (prog:=prog) (w:=w) (A:=A.in1) hh it l oQ items).toS;have key:jC (dq prog w) A (uH.builtin "list.extend.loop" { pos:=[cU.ref S',cU.ref it,res] }) R s:=by refine codeAny_extend_loopS W hsz S' (by simp[Ia,UO]) res items.size 0 s #[] c₀ rfl (gQ _) ⟨gQ _,by simpa using st,hl⟩ hS (ItemsOf.nil _) λs' rD c' hm Ml Ct=>?_;rw[Moved.eq_with hm];exact hR s'.heap s'.toks rD c' (λb o hb hi e=>hm.heap b o (by simp[hb,hi]) e) Ml Ct
  unfold Builtin.List.listExtendWith;refine cY<|wpAny_typeOf st.typeIs ?_;have h1:Builtin.List.listSameRef (cU.ref S') (cU.ref it)=Ã:=by simp[Builtin.List.listSameRef,Ia]
  have h2:(cU.type "list_reverseiterator" == cU.type "list")=Ã:=by decide
  have h3:(cU.type "list_reverseiterator" == cU.type "tuple")=Ã:=by decide
  simp only[h1,h2,h3,vP,fI,if_false];refine cY<|wpAny_pyIter_revIter st ?_;refine cY<|gA<|zoy st ?_;rw[if_neg<|by with_unfolding_all decide];exact dA ⟨plainId_quiet F.plain_extend_loop _,key⟩
theorem zev {w:d5}{E:cU->de->Prop}{s:de}{Q:cU->de->Prop}(hh:A.handled=S)(st:s.heap.IsRevIter it l<|(items.size:Int)-1)(hl:s.heap.IsList l items)(oQ:l≠it)(hsz:items.size<=sizeLine)
    (hQ:∀(h':dz) (tk:Nat) (rD:Array cU) (c':Nat),(∀(b:cZ) (o:gM),b≠it->s.heap.get? b=Z o->h'.get? b=Z o)->h'.get? s.heap.objs.size=Z { cls:=cU.type "list",data:=pj.seq rD c' }->ItemsOf (λi v=>items[items.size-1-i]?=Z v) rD items.size->Q (cU.ref s.heap.objs.size) { s with heap:=h',toks:=tk }) :
    dr (dq prog w) A (call (cU.type "list") [cU.ref it]) Q E s:=by
  refine callType_codes (Q₁:=λobj s₁=>obj=cU.ref s.heap.objs.size/\s₁ = { s with heap:=s.heap.push { cls:=cU.type "list",data:=pj.seq #[] } }) F.called_list (F.typeCall_list_1<|cU.ref it) F.entry_list_init (code_list_new (cU.ref it) ⟨rfl,rfl⟩) λobj s₁ h₁=>?_;obtain⟨rfl,rfl⟩:=h₁;have hS:=dG s.heap (o:={ cls:=cU.type "list",data:=pj.seq #[] }) rfl;refine⟨⟨_,hS,rfl⟩,F.args_list_init_2 (cU.ref s.heap.objs.size)<|cU.ref it,?_⟩;have IP:∀b o,s.heap.get? b=Z o->b≠s.heap.objs.size:=λb o e=>dU<|dB e;have U7:s.heap.objs.size≠l:=λe=>by obtain⟨o,h1,_⟩:=hl;exact IP l o h1 e.symm
  have Vm:(#[]:Array cU).size<=sizeLine:=gQ _;have Kr:(#[]:Array cU).size<=sizeLine+1:=gQ _;show dr _ _ (Builtin.List.listItems (cU.ref s.heap.objs.size) >>= _) _ _ _;refine cY ?_;show dr _ _ (seqItems? (cU.ref s.heap.objs.size) >>= _) _ _ _;refine cY<|wpAny_seqItems hS rfl ?_;refine dA ?_;show dr _ _ (updateSeq s.heap.objs.size (λ_=>#[]) >>= _) _ _ _;refine cY<|wpAny_updateSeq hS rfl ?_ Vm Kr;have UP:((s.heap.push { cls:=cU.type "list",data:=pj.seq #[] }).update s.heap.objs.size<|gM.mapSeq λ_=>#[]).get? s.heap.objs.size=Z { cls:=cU.type "list",data:=pj.seq #[] 0 }:=fD (gM.mapSeq λ_=>#[]) hS rfl;have E8:∀(b:cZ) (o:gM),b≠s.heap.objs.size->s.heap.get? b=Z o->((s.heap.push { cls:=cU.type "list",data:=pj.seq #[] }).update s.heap.objs.size<|gM.mapSeq λ_=>#[]).get? b=Z o:=λb o hb e=>(fM _ _<|Ne.symm hb).trans<|c7 _ e;refine cY<|wpAny_letGo ?_;obtain⟨oi,i1,i2,i3⟩:=st;obtain⟨ol,l1,l2,l3⟩:=hl;refine Yz (A:=A.in1) (R:=wants (λr s₂=>r=cU.none/\Q (cU.ref s.heap.objs.size) s₂) E) (s:={ s with heap:=(s.heap.push { cls:=cU.type "list",data:=pj.seq #[] }).update s.heap.objs.size (gM.mapSeq λ_=>#[]) }) (l:=l) (items:=items) hh ⟨oi,E8 it oi (IP it oi i1) i1,i2,i3⟩ ⟨ol,E8 l ol (IP l ol l1) l1,l2,l3⟩ oQ hsz s.heap.objs.size cU.none _ UP U7 λh' tk rD c' hk Ml Ct=>⟨rfl,hQ h' tk rD c' (λb o hb e=>hk b o (IP b o e) hb<|E8 b o (IP b o e) e) Ml Ct⟩
def Fc (K:cX):V->Hp->VK->Prop:=λx H Q=>∃a xs,x=.ref a/\i6 K H a xs/\∀p,H p=S->Q (.ref p) (upd H p<|.lst xs.reverse)
def Jv (K:cX)(te:TE):TE:=λU H Q=>te U H λx H1=>Fc K x H1 Q
theorem Ϩ {te:TE}{t7:my}(hc:X.calm=Â)(hg:Gl X "list")(hm:X.mg "list"=S)(Cw:Gl X "reversed")(B7:X.mg "reversed"=S)(he:PE X e te)(hs:SN X e:=by rfl)
  (vJ:dM [.Call (.Name "reversed" p2) [e] [] t7] X.env=[(Ã,eP (.Call (.Name "reversed" p2) [e] [] t7) X.env)]:=by rfl) :
  PE X (.Call (.Name "list" p1) [.Call (.Name "reversed" p2) [e] [] t7] [] pos) (Jv X.K te):=by
 intro cW s U H Q I h;refine fu (Fo I hg hm jr ?_ (by decide)<|by decide);refine fV ?_ vJ rfl;rw[vJ];show dr _ _ (spliced ((Ã,eP (.Call (.Name "reversed" p2) [e] [] t7) X.env)::[])) _ _ s;refine Calls.spliced_cons ?_;refine fu (Fo (u:=.type "reversed") I Cw B7 (by rfl) ?_ (by decide)<|by decide);refine fV (gb ((ya he yz hs) t7 cW s U H (λvs H1=>match vs with|[x]=>Fc X.K x H1 Q|_=>False) I h) λus s1 hq=>?_) hs rfl;obtain⟨vs,H1,I1,r,q⟩:=hq
 match vs,q with
 |[x],q=>
  obtain⟨a,xs,rfl,hq,q⟩:=q;obtain⟨u,rfl,ru⟩:=r.one;cases ru;obtain⟨eG,rv,pl,hz⟩:=I1.list hq;have hl:=rv.length;refine call_reversed_list pl.isList<|Calls.spliced_nil ?_;have I2:L2.Ç X cW U H1 { s1 with heap:=s1.heap.push (EE a<|(eG.toArray.size:Int)-1) }:=I1.kept (t':=s1.toks) λb o e=>c7 _ e;have st:(s1.heap.push<|EE a<|(eG.toArray.size:Int)-1).IsRevIter s1.heap.objs.size a ((eG.toArray.size:Int)-1):=⟨_,dG _ rfl,rfl,by simp[EE]⟩;have VE:(s1.heap.push<|EE a<|(eG.toArray.size:Int)-1).IsList a eG.toArray:=by obtain⟨o,h1,h2⟩:=pl.isList;exact⟨o,c7 _ h1,h2⟩
  have T1:a≠s1.heap.objs.size:=by obtain⟨o,h1,h2⟩:=pl.isList;exact dU<|dB h1
  refine zev (I2.ok.hd hc) st VE T1 (by rw[dF,←hl];exact hz) λh' tk rD c' kp hS Ct=>?_;have EY:(s1.heap.push<|EE a<|(eG.toArray.size:Int)-1).objs.size=s1.heap.objs.size+1:=by simp[dz.push]
  have hv:eh xs.reverse rD.toList:=by
   obtain⟨e1,e2⟩:=Ct;have e3:rD.size=eG.length:=by rw[e1,dF]
   refine Sx ((pH).trans<|hl.trans<|e3.symm.trans gu.symm) λi x u hx hu=>?_;have hi:i<xs.length:=by have:=(ee.mp hx).1;rwa[pH]at this
   rw[List.getElem?_reverse hi]at hx;obtain⟨u',D0,ru⟩:=rv.get hx;have:=e2 i u (by simpa using hu);rw[dF,←hl]at this;have h3:eG[xs.length-1-i]?=Z u:=by simpa using this
   rw[D0]at h3;cases h3;exact ru
  have mF:xs.reverse.length<=sizeLine:=by rw[pH];exact hz
  refine⟨.ref _,_,I1.laid (t':=tk) (λb o e=>kp b o (dU<|dB e)<|c7 _ e) (by rw[EY];lia) (show il X.prog X.w _ h' _ (.lst _)from⟨mF,rD.toList,c',hv,hS⟩),rfl,q _<|I1.hok.fresh<|by rw[EY];lia⟩
def CJ:D->Option D
 |.lst Y=>Z<|.lst Y.reverse
 |_=>S
theorem Sy {t7:my}(hn:n<=1)(hc:X.calm=Â)(hg:Gl X "list")(hm:X.mg "list"=S)(Cw:Gl X "reversed")(B7:X.mg "reversed"=S)(he:XE X M L n e f)(hs:SN X e:=by rfl)
  (vJ:dM [.Call (.Name "reversed" p2) [e] [] t7] X.env=[(Ã,eP (.Call (.Name "reversed" p2) [e] [] t7) X.env)]:=by rfl) :
  XO X M L 1 (.Call (.Name "list" p1) [.Call (.Name "reversed" p2) [e] [] t7] [] pos) (e1 CJ f):=by
 obtain⟨t,pt,qt⟩:=he;refine⟨_,Ϩ hc hg hm Cw B7 pt hs vJ,λF0 B F H O U r Q rs e w=>?_⟩;obtain⟨d,h1,h2⟩:=dh e;refine qt F0 B F H O U d _ rs h1 λv F1 H1 x1 l=>?_;cases d with
 |lst Y=>cases h2;obtain⟨a,vs,rfl,ha,hp⟩:=Al.lst1 hn l x1.fh;exact⟨a,vs,rfl,ha,vz x1.fh (Pr.reverse hp) λv F2 H2 fp x2 l2 nd hf=>w v F2 H2 fp (x1.trans x2) l2 nd λz hz=>x1.hh.free<|hf z hz⟩
 |_=>cases h2
def LX (f:EF):EF:=λO=>(f O).bind λd=>if d.sc=Â then Z d else S
theorem Tq (he:XE X M L n e f):XO X M L k e (LX f):=by
 obtain⟨t,p,q⟩:=he;refine⟨t,p,λF0 B F H O U d Q r e w=>?_⟩;obtain⟨d0,h1,h2⟩:=dh e;by_cases hs:d0.sc=Â
 ·rw[if_pos hs]at h2;cases h2;exact q F0 B F H O U d Q r h1 λv F' G x l=>w v F' G [] x (Ow.scal (Al.scal l hs) hs) d4 λa z=>(by cases z)
 ·rw[if_neg hs]at h2;cases h2
def nk:D->Bool
 |.lst _=>Â
 |.dK _ _=>Â
 |.dT _ _=>Â
 |.obj _ _ _=>Â
 |_=>Ã
theorem Ow.cell {v:V}(h:Ow K M F H 1 d v fp)(hc:nk d=Â):∃a f,v=.ref a/\fp=a::f:=by
 cases d with
 |lst Y=>obtain⟨a,vs,fr,rfl,rfl,_⟩:=h.lst_inv;exact⟨_,_,rfl,rfl⟩
 |dK ks Y=>obtain⟨a,vs,fr,rfl,rfl,_⟩:=h.dK_inv;exact⟨_,_,rfl,rfl⟩
 |dT ks Y=>obtain⟨a,vs,fr,rfl,rfl,_⟩:=h.dT_inv;exact⟨_,_,rfl,rfl⟩
 |obj c ns Y=>obtain⟨a,dx,vs,fr,rfl,⟨fb,rfl,_⟩,_⟩:=h.obj_inv;exact⟨_,_,rfl,rfl⟩
 |_=>cases hc
def tN:D->Bool
 |.lst _=>Â
 |.dK _ _=>Â
 |.dT _ _=>Â
 |_=>Ã
theorem Ow.cell1 {v:V}(h:Ow K M F H 1 d v fp)(hc:tN d=Â):∃a,v=.ref a/\fp=[a]:=by
 cases d with
 |lst Y=>obtain⟨a,vs,fr,rfl,rfl,_,_,ol⟩:=h.lst_inv;have e0:=ol.nil0;subst e0;exact⟨_,rfl,rfl⟩
 |dK ks Y=>obtain⟨a,vs,fr,rfl,rfl,_,_,_,ol⟩:=h.dK_inv;have e0:=ol.nil0;subst e0;exact⟨_,rfl,rfl⟩
 |dT ks Y=>obtain⟨a,vs,fr,rfl,rfl,_,_,_,ol⟩:=h.dT_inv;have e0:=ol.nil0;subst e0;exact⟨_,rfl,rfl⟩
 |_=>cases hc
theorem RS.changeS {ad:cZ}{o:HO}(rs:RS K M F0 B L F H O U)(hm:L[i]?=Z (.so ad))(hρ:O[i]?=Z (Z d))(hc:nk d=Â)(x:iJ F H F' G)(L8:F' ad=S)(o':Ow K M F' (upd G ad o) 1 d' (.ref ad) [ad]) :
  RS K M F0 B L F' (upd G ad o) (O.set i<|Z d') U:=by
 have r:=rs.ext x;obtain⟨f,h1,h2,n,hB,put⟩:=r.pin hm hρ;obtain⟨_,f',e,rfl⟩:=h2.cell hc;cases e;refine put F' (upd G ad o) d' [ad] (.refl _) (λa u h na=>by rw[zn<|λe=>na<|by rw[e];exact cV];exact h) (λz u h=>?_) (λa u h _ _ hn=>hn) r.nf o' (by simp) λa z=>.inl (by rw[dW.mp z];exact cV);rw[zn<|λe=>by rw[e,L8]at h;cases h];exact x.fh _ _ h
variable {xa:cZ}
theorem zoz (i:Nat){j:Expr}(hm:L[i]?=Z (.so xa))(hj:XE X M L n j fj)(he:XE X M L 0 e f)(hN:X.N[i]?=Z x:=by rfl)(hv:pN X.env.scope x:=by walk_at "v1")(hd:iM x:=by decide)
  (iY:qD x:=by decide)
  (ha:∀v,kU (.Subscript (.Name x p1) j ko) X.env v=(do
   let ov ← fH [v] (eP (.Name x p1) X.env)
   let iv ← fH [v,ov] (eP j X.env)
   ij ko
   fH [v,ov,iv] (rq ov iv v)
   xP [v,ov,iv] []):=by intro _;rfl)
  (hs:n4 [.Subscript (.Name x p1) j ko] e pos.line X.env=pure Ã:=by rfl) (hw:nZ [.Subscript (.Name x p1) j ko] e X.env=pure S:=by rfl)
  (h1:(eY [.Subscript (.Name x p1) j ko] X.env).map (·.2)=[kU (.Subscript (.Name x p1) j ko) X.env]:=by rfl) :
  XS X M L rk (.Assign [.Subscript (.Name x p1) j ko] e pos) (yP i fj f):=by
 obtain⟨t,pt,qt⟩:=he;obtain⟨tj,CP,CT⟩:=hj;refine⟨_,Lj pt (OL (yb hN hv hd iY) CP KO ha) hs hw h1,λF0 B F H O U o E rs e z=>?_⟩;obtain⟨d,g1,g2⟩:=dh e;obtain⟨d1,wH,g3,g4,g5⟩:=fE g2;refine qt F0 B F H O U d _ rs g1 λv0 F1 H1 x1 l0=>?_;have m9:=rs.ext x1;obtain⟨fq,hσ,ow,_⟩:=m9.pin hm<|zq g3;refine⟨_,hσ,CT F0 B F1 H1 O U wH _ m9 g4 λvj F2 H2 x2 lj=>?_⟩;cases d1 with
 |lst Y=>
  cases wH with
  |int zi=>obtain⟨rZ,g6,g7⟩:=dh g5;cases g7;obtain⟨jn,g8,g9⟩:=dh g6;cases g9;obtain⟨ad,vs,Cr,ea,ef,hF,hH,ol⟩:=ow.lst_inv;cases ea;cases ef;have e0:=ol.nil0;subst e0;have hA:H2 xa=Z (.lst vs):=x2.hh _ _ hH;have fA:F2 xa=S:=x2.nf xa _ hH nofun hF;refine⟨xa,vs,zi,jn,rfl,lj.int,hA,by rw[←ol.length];exact g8,?_⟩;exact z U F2 _<|m9.changeS hm (zq g3) rfl x2 fA<|.inr<|.lst fA zo<|iW.set0 ⟨Dt.mono x2.ff l0,rfl⟩ (λ_ _ _ q=>q.2) jn<|ol.mono λ_ _ _ _ q=>⟨q.1.mono x2.ff,q.2⟩
  |_=>cases g5
 |_=>cases g5
theorem ZQ (i:Nat){j:Expr}(hm:L[i]?=Z (.so xa))(hu:X.A.units+1<i8)(hj:XE X M L 0 j fj)(he:XE X M L 0 e f)(hN:X.N[i]?=Z x:=by rfl)(hv:pN X.env.scope x:=by walk_at "v1")(hd:iM x:=by decide)
  (iY:qD x:=by decide) (hs:gc e (Z<|.Subscript (.Name x p1) j ko) pos.line X.env=pure Ã:=by rfl) :
  XS X M L rk (.Assign [.Subscript (.Name x p1) j ko] e pos) (uB i fj f):=by
 obtain⟨t,pt,qt⟩:=he;obtain⟨tj,CP,CT⟩:=hj;refine⟨_,Sg hu (yb hN hv hd iY) CP pt hs,λF0 B F H O U o E rs e z=>?_⟩;obtain⟨d,g1,g2⟩:=dh e;obtain⟨d1,wH,g3,g4,g5⟩:=fE g2;refine qt F0 B F H O U d _ rs g1 λv0 F1 H1 x1 l0=>?_;have m9:=rs.ext x1;obtain⟨fq,hσ,ow,_⟩:=m9.pin hm<|zq g3;refine⟨_,hσ,CT F0 B F1 H1 O U wH _ m9 g4 λvj F2 H2 x2 lj=>?_⟩;have IM:Dt X.K M F2 d v0:=Dt.mono x2.ff l0;cases d1 with
 |dK ks Y=>
  dsimp only at g5;obtain⟨key,g6,g7⟩:=dh g5;by_cases hz:ks.length<16777216
  ·rw[if_pos hz]at g7;cases g7;obtain⟨ad,vs,Cr,ea,ef,hF,hH,hl,ol⟩:=ow.dK_inv;cases ea;cases ef;have e0:=ol.nil0;subst e0;have hA:=x2.hh _ _ hH;have fA:F2 xa=S:=x2.nf xa _ hH nofun hF;have hp:Pr (Dt X.K M F2) Y vs:=ol.pr λ_ _ _ _ q=>q.1.mono x2.ff;obtain⟨us,FU,FV,FW⟩:=KS IM key hl hp;have hk:=Lh g6 lj;subst hk;refine⟨xa,_,rfl,uR.k hA<|by rw[gx,←hl,iB,eD];exact hz,?_⟩;rw[FU];exact z U F2 _<|m9.changeS hm (zq g3) rfl x2 fA<|.inr<|.dK fA zo FV<|iW.ofPr<|FW.mono λ_ _ q=>⟨q,rfl⟩
  ·rw[if_neg hz]at g7;cases g7
 |dT ks Y=>
  cases wH with
  |tup js=>
   dsimp only at g5;obtain⟨key,g6,g7⟩:=dh g5;by_cases hz:ks.length<16777216
   ·rw[if_pos hz]at g7;cases g7;obtain⟨ad,vs,Cr,ea,ef,hF,hH,hl,ol⟩:=ow.dT_inv;cases ea;cases ef;have e0:=ol.nil0;subst e0;have hA:=x2.hh _ _ hH;have fA:F2 xa=S:=x2.nf xa _ hH nofun hF;have hp:Pr (Dt X.K M F2) Y vs:=ol.pr λ_ _ _ _ q=>q.1.mono x2.ff;obtain⟨us,FU,FV,FW⟩:=KS IM key hl hp;obtain⟨bd,ws,rfl,hb,Iz⟩:=lj.tup x2.fh;have hk:=OE g6 Iz;subst hk;refine⟨xa,_,rfl,uR.t hA hb<|by rw[gx,←hl,iB,eD];exact hz,?_⟩;rw[FU];exact z U F2 _<|m9.changeS hm (zq g3) rfl x2 fA<|.inr<|.dT fA zo FV<|iW.ofPr<|FW.mono λ_ _ q=>⟨q,rfl⟩
   ·rw[if_neg hz]at g7;cases g7
  |_=>cases g5
 |_=>cases g5
abbrev EM:=Env->Option (D×Env)
def By (X:Cx)(M:Nat->cZ)(L:List Mo)(st:List et)(f:EM):Prop:=∃t,tG X st t/\∀(F0 B F H:Hp) (O ρ':Env) (U:St) (d:D) (E:lO),RS X.K M F0 B L F H O U->f O=Z (d,ρ')->(∀v σ' F' G,RS X.K M F0 B L F' G ρ' σ'->Dt X.K M F' d v->E.rt v G)->t E U H
def Ö (f:SF)(g:EM):EM:=λO=>(f O).bind λo=>match o with
 |.nx ρ'=>g ρ'
 |_=>S
def à (f:EF):EM:=λO=>(f O).bind λd=>Z (d,O)
theorem jf (he:XE X M L 0 e f):By X M L [.Return (Z e) pos] (à f):=by obtain⟨t,pt,qt⟩:=he;refine⟨_,vw<|GO pt,λF0 B F H O ρ' U d E rs e z=>?_⟩;obtain⟨d',h1,h2⟩:=dh e;cases h2;exact qt F0 B F H O U _ _ rs h1 λv F' G x l=>z v U F' G (rs.ext x) l
theorem y2 {gm:EM}(h1:XS X M L 0 st u)(h2:By X M L Ê gm):By X M L (st::Ê) (Ö u gm):=by
 obtain⟨t,pt,qt⟩:=h1;obtain⟨t2,sR,sX⟩:=h2;refine⟨_,wx pt sR,λF0 B F H O ρ' U d E rs e z=>?_⟩;obtain⟨o1,e1,e2⟩:=dh e;refine qt F0 B F H O U o1 _ rs e1 ?_;cases o1 with
 |nx ρ1=>exactλσ' F' G Gp=>sX F0 B F' G ρ1 ρ' σ' d E Gp e2 z
 |rt d=>cases e2
 |bk ρ'=>cases e2
 |ct ρ'=>cases e2
theorem SL.app {P3:List Mo}{ρ2:Env}{σ2:St}{J1:List cZ}(h2:SL K M F B H P3 ρ2 σ2 J1)(h0:SL K M F B H L O U fp):SL K M F B H (L++P3) (O ++ ρ2) (U ++ σ2) (fp++J1):=by
 induction h0 with
 |nil=>exact h2
 |@no m0 o0 L O U fp t ih=>exact .no ih
 |@al n0 d0 v0 L O U fp h t ih=>exact .al h ih
 |@px d0 v0 L O U fp h t ih=>exact .px h ih
 |@so d0 x0 L O U f0 L9 h t ih=>rw[kQ];exact .so h ih
 |@ow n0 d0 v0 L O U f0 L9 h t ih=>rw[kQ];exact .ow h ih
theorem SL.none {K:cX}{M:Nat->cZ}{F B H:Hp}:∀(L:List Mo),SL K M F B H L (dg L.length S) (dg L.length S) []
 |[]=>.nil
 |m::L=>.no<|SL.none L
theorem SL.start0 {K:cX}{M:Nat->cZ}{F B H:Hp}:∀{Y:List D} {us:List V},Pr (Dt K M F) Y us->SL K M F B H (dg Y.length<|Mo.ow 0) (Y.map Z) (us.map Z) []
 |_,_,.nil=>.nil
 |_,_,.cons h t=>SL.ow (f:=[]) (Ow.zero h)<|SL.start0 t
variable {gm:EM}
def XM (X:Cx)(M:Nat->cZ)(L:List Mo)(e:Expr)(g:EM):Prop:=∃t,PE X e t/\∀(F0 B F H:Hp) (O ρ':Env) (U:St) (d:D) (Q:VK),RS X.K M F0 B L F H O U->g O=Z (d,ρ')->(∀v F' G,RS X.K M F0 B L F' G ρ' U->Dt X.K M F' d v->Q v G)->t U H Q
theorem Oq {v:V}(h:U[i]?=Z (Z v)):U.set i (Z v) = U:=by
 apply mL;intro k;rw[rl];by_cases e:i=k
 ·subst e;rw[if_pos rfl];by_cases hl:i < U.length
  ·rw[if_pos hl,h]
  ·rw[if_neg hl,yX<|by lia]
 ·rw[if_neg e]
theorem uf:∀(O:Env) (Y:List D),Å O=Z Y->Y.length=0:=λO Y e=>by cases e;rfl
theorem yy (h:∀(O:Env) (Y:List D),fs O=Z Y->Y.length=n):∀(O:Env) (Y:List D),Ä f fs O=Z Y->Y.length=n+1:=λO Y e=>by obtain⟨x,xs,h1,h2,h3⟩:=fE e;cases h3;rw[dw,h O xs h2]
def æ (i:Nat)(g:EM):SF:=λO=>(g O).bind λr=>Z<|.nx<|r.2.set i<|Z r.1
theorem SA (hm:L[i]?=Z (.ow 0))(hN:X.N.Nodup)(hi:X.N[i]?=Z x)(hx:ë X.env.scope x)(he:XM X M L e gm)(hs:G0 X e x pos' pos:=by rfl)
  (hf:xE X x:=by walk_at "v2"):XS X M L rk (.Assign [.Name x pos'] e pos) (æ i gm):=by
 obtain⟨t,pt,qt⟩:=he;refine⟨_,OM hN hi hx pt hs hf,λF0 B F H O U o E rs e w=>?_⟩;obtain⟨⟨d,ρ'⟩,h1,h2⟩:=dh e;cases h2;exact qt F0 B F H O ρ' U d _ rs h1 λv F' G r l=>w _ F' G (r.set hm (.refl r.fh) (Ow.zero l) d4 λa z=>(by cases z))
def qW (g:EM)(b:SF):Nat->SF
 |0,_=>S
 |n+1,O=>(g O).bind λr=>match r.1 with
  |.bl Â=>(b r.2).bind λo=>match o with
   |.nx ρ'=>qW g b n ρ'
   |.ct ρ'=>qW g b n ρ'
   |.bk ρ'=>Z<|.nx ρ'
   |.rt d=>Z<|.rt d
  |.bl Ã=>Z<|.nx r.2
  |_=>S
def Bh (g:EM)(b:SF):SF:=qW g b DC
theorem Zl (hc:XM X M L c gm)(hb:tH X M L rk Ê u)(hp:gE (dq X.prog X.w) X.A X.env X.xe)(hi:∀whole,vC c X.env whole=(do let v ← whole;ij c.pos;fH [v] (truthy v)):=by intro _;rfl):XS X M L rk (.While c Ê [] pos) (Bh gm u):=by
 obtain⟨t,pt,qt⟩:=hc;obtain⟨t1,yL,yO⟩:=hb;refine⟨_,RA hp (ON pt hi) yL,λF0 B F H O U o E rs e z=>?_⟩;refine⟨λm U H=>∃F O,RS X.K M F0 B L F H O U/\qW gm u m O=Z o,⟨DC,F,O,rs,e⟩,?_⟩;rintro m U H ⟨F,O,rs,e⟩;cases m with
 |zero=>cases e
 |succ m=>
  obtain⟨⟨x,ρ1⟩,h1,h2⟩:=dh e;refine qt F0 B F H O ρ1 U x _ rs h1 λv F1 H1 r1 l=>?_;cases x with
  |bl y=>
   cases l;refine⟨y,rfl,?_⟩;cases y with
   |true=>
    rw[if_pos rfl];obtain⟨o1,h3,h4⟩:=dh h2;refine⟨λU H=>∃F O,RS X.K M F0 B L F H O U/\qW gm u m O=Z o,λσ' G h=>⟨m,jX m,h⟩,?_⟩;refine yO F0 B F1 H1 ρ1 U o1 _ r1 h3 ?_;cases o1 with
    |nx ρ'=>exactλσ' F' G r=>⟨F',ρ',r,h4⟩
    |ct ρ'=>exactλσ' F' G r=>⟨F',ρ',r,h4⟩
    |bk ρ'=>cases h4;exact z
    |rt d=>cases h4;exact z
   |false=>rw[if_neg di];cases h2;exact z U F1 H1 r1
  |_=>cases h2
def gL (gs:List D->Env->Option Env):D->Env->Option Env:=λd O=>match d with
 |.lst Y=>gs Y O
 |_=>S
theorem ź (hc:X.calm=Â)(h:HQ X M L (n-1) pG gs)(hl:(eY pG X.env).length=pG.length:=by rfl)(jH:(eY pG X.env).findIdx? (·.1)=S:=by rfl):XG X M L n (.Tuple pG j pos) (gL gs):=by
 obtain⟨t,pt,lt,qt⟩:=h;refine⟨_,ŭ (n:=pG.length) hc pt hl jH,λF0 B F H O ρ' U d v Q rs l e w=>?_⟩;cases d with
 |lst Y=>
  have:∃a vs,v=.ref a/\i6 X.K H a vs/\Pr (Al X.K M F B<|n-1) Y vs:=by
   cases n with
   |zero=>
    have l:Dt X.K M F (.lst Y) v:=l;cases l with
    |lst q t=>exact⟨_,_,rfl,rs.fh.seq q,t.pr⟩
   |succ n=>
    rcases l with l|l
    ·cases l with
     |lst q t=>exact⟨_,_,rfl,rs.fh.seq q,t.pr.mono λ_ _=>Al.of⟩
    ·cases l with
     |lst q t=>exact⟨_,_,rfl,i6.of<|rs.bh _ _ q,t⟩
  obtain⟨a,vs,rfl,ha,hp⟩:=this;exact⟨a,vs,rfl,ha,hp.length.symm.trans<|lt _ _ _ e,qt F0 B F H O ρ' U Y vs Q rs hp e w⟩
 |_=>cases e
def JV (X:Cx)(M:Nat->cZ)(L:List Mo)(k i:Nat)(es:List Expr)(f:Env->Option (List D)):Prop:=∃t,PA X es t/\(∀O Y,f O=Z Y->Y.length=es.length)/\∀(F0 B F H:Hp) (O:Env) (U:St) (Y:List D) (Q:List V->Hp->Prop) (d:D) (v:V) (f1:List cZ),RS X.K M F0 B L F H O U->O[i]?=Z (Z d)->U[i]?=Z (Z v)->Ow X.K M F H k d v f1->f1.Nodup->f O=Z Y ->
 (∀vs F' G fp,iJ F H F' G->iW (Ow X.K M F' G k) Y vs fp->fp.Nodup->(∀a∈fp,H a=S\/a∈f1)->Q vs G)->t U H Q
theorem ϧ (hN:X.N[i]?=Z x:=by rfl)(hv:pN X.env.scope x:=by walk_at "v1")(hd:iM x:=by decide)(iY:qD x:=by decide) :
  JV X M L k i [.Name x p1] (Ä (J i) Å):=by
 refine⟨_,ya (yb hN hv hd iY) yz,λO Y e=>(by obtain⟨y,ys,h1,h2,h3⟩:=fE e;cases h3;cases h2;rfl),λF0 B F H O U Y Q d v f1 rs hρ hσ ow nd e z=>?_⟩;obtain⟨y,ys,h1,h2,h3⟩:=fE e;cases h3;cases h2;have ey:y=d:=by have:=zq h1;rw[hρ]at this;cases this;rfl
 subst ey;refine⟨_,hσ,z [v] F H f1 (.refl rs.fh) ?_ nd λa h=>.inr h⟩;have:=iW.cons (R:=Ow X.K M F H k) ow .nil;rw[d6]at this;exact this
theorem RK (h1:XO X M L k a f)(h2:JV X M L k i es fs)(hs:SE X a es:=by rfl):JV X M L k i (a::es) (Ä f fs):=by
 obtain⟨ta,pa,qa⟩:=h1;obtain⟨tb,pb,lb,qb⟩:=h2;refine⟨_,ya pa pb hs,λO Y e=>(by obtain⟨x,xs,h1,h2,h3⟩:=fE e;cases h3;rw[dw,dw,lb _ _ h2]),λF0 B F H O U Y Q d v f1 rs hρ hσ ow nd e z=>?_⟩;obtain⟨y,ys,h1,h2,h3⟩:=fE e;cases h3;refine qa F0 B F H O U y _ rs h1 λu F1 H1 fp x1 l Vv hf=>?_;refine qb F0 B F1 H1 O U ys _ d v f1 (rs.ext x1) hρ hσ (ow.ext x1) nd h2 λus F2 H2 J1 x2 l2 Nk Hc=>?_;refine z (u::us) F2 H2 (fp++J1) (x1.trans x2) (.cons (l.ext x2) l2) ?_ λa ha=>?_
 ·refine dm.mpr ⟨Vv,Nk,λa ha b hb e=>?_⟩;subst e;obtain⟨_,o,ho,_⟩:=l.cells a ha;rcases Hc a hb with h|h
  ·rw[ho]at h;cases h
  ·obtain⟨_,o',Ds,_⟩:=ow.cells a h;rw[hf a ha]at Ds;cases Ds
 ·rcases dD.mp ha with h|h
  ·exact .inl<|hf a h
  ·rcases Hc a h with h|h
   ·exact .inl<|x1.hh.free h
   ·exact .inr h
theorem ZR {x1}(hm:L[i]?=Z (.ow k))(h:JV X M L k i es fs)(hl:es.length<=1000:=by decide):XS X M L (k+1) (.Return (Z<|.Tuple es x1 p2) pos) (É<|λO=>(J i O).bind λ_=>(fs O).bind λY=>Z<|.tup Y):=by
 obtain⟨t,pt,lt,qt⟩:=h;refine⟨_,GO<|SO pt,λF0 B F H O U o E rs e w=>?_⟩;obtain⟨r,h1,h2⟩:=dh e;cases h2;obtain⟨d,h3,h4⟩:=dh h1;obtain⟨Y,h5,h6⟩:=dh h4;cases h6;obtain⟨f1,fr,n1,b1,n3,i4,cf,put⟩:=rs.put (F':=F) (G:=H) hm;obtain⟨v,hσ,ow⟩:=i4 d<|zq h3;refine qt F0 B F H O U Y _ d v f1 rs (zq h3) hσ ow n1 h5 λvs F1 H1 fp x1 l nd hf=>⟨?_,λp hp=>?_⟩
 ·rw[←l.length,lt _ _ h5];exact ò hl
 ·have x2:=iJ.newS x1.fh hp<|.tup vs;have r2:=rs.ext<|x1.trans x2;refine w _ _ _ fp r2.f0 r2.bh r2.fh r2.nf (.inr<|.tup zo<|l.mono λ_ _ _ _ o=>o.ext x2) nd λa ha=>?_;rcases hf a ha with h|h
  ·exact rs.bh.free h
  ·exact b1 a h
def Č (K:cX):V->List V->Hp->VK->Prop:=λx vs H Q=>∃sp p ys,x=.str sp/\vs=[.ref p]/\i6 K H p (ys.map V.str)/\(ys.map (·.length)).sum+ys.length*sp.length<=16777216/\Q (.str<|PySem.Str.join sp ys) H
theorem m5:∀{ys:List Str} {us:List cU},eh (ys.map V.str) us->StrsAre us ys
 |[],_,.nil=>.nil
 |y::ys,_,.cons r t=>by obtain⟨tk,rfl⟩:=r;exact .cons y tk<|m5 t
theorem Ϧ:FB X "str.join" (Č X.K):=by intro cW s U H x vs v us Q I rx rv h;obtain⟨sp,p,ys,rfl,rfl,hq,hl,q⟩:=h;obtain⟨tk,rfl⟩:=rx;obtain⟨u,rfl,ru⟩:=rv.one;cases ru;obtain⟨eG,r,pl,hz⟩:=I.list hq;refine PyProof.Rows.join_list pl.isList (by simpa using m5 r) hl λt' k=>⟨.str<|PySem.Str.join sp ys,H,I.tok _,⟨t',?_⟩,q⟩;have:PySem.Txt.join sp ys=PySem.Str.join sp ys:=PySem.StrLaws.glued_eq_join sp ys;rw[this]
def yT:List D->Option (List Str)
 |[]=>Z []
 |.str i::Y=>(yT Y).bind λns=>Z (i::ns)
 |_=>S
theorem QT:∀{Y:List D} {ns:List Str},yT Y=Z ns->Y=ns.map .str
 |[],_,e=>by cases e;rfl
 |d::Y,ns,e=>by
  cases d with
  |str i=>obtain⟨L,h1,h2⟩:=dh<|show(yT Y).bind _=_ from e;cases h2;rw[QT h1];rfl
  |_=>cases e
def se:D->D->Option D
 |.str sp,.lst Y=>(yT Y).bind λys=>if(ys.map (·.length)).sum+ys.length*sp.length<=16777216 then Z (.str<|PySem.Str.join sp ys)else S
 |_,_=>S
theorem S6 {F H:Hp}{K:cX}:∀{ys:List Str} {vs:List V},Pr (Al K M F H n) (ys.map D.str) vs->vs=ys.map V.str
 |[],_,.nil=>rfl
 |y::ys,_,.cons h t=>by have q:=Al.scal (F':=F) h rfl;cases q;rw[S6 t];rfl
theorem ju (ho:XE X M L n o f)(he:XE X M L m e g)(jH:SE X e []:=by rfl)
  (lr:Af X o "join":=by rfl)
  (oq:DD X fP [e]:=by rfl)
  (lz:(fG.endLine==fP.line)=Â:=by rfl) (jG:lV X fP []:=by rfl) :
  XE X M L k (.Call (.Attribute o "join" fG) [e] [] fP) (e2 se f g):=by
 obtain⟨ta,pa,qa⟩:=ho;obtain⟨tb,pb,qb⟩:=he;refine⟨_,Fv PySem.F.plainAttrs_str PySem.F.slot_str_join PySem.F.type_str_join Ϧ pa (ya pb yz jH) lr oq lz jH jG,λF0 B F H O U d Q rs e w=>?_⟩;obtain⟨d1,d2,h1,h2,h3⟩:=fE e;refine qa F0 B F H O U d1 _ rs h1 λv1 F1 H1 x1 l1=>?_;cases d1 with
 |str sp=>
  cases d2 with
  |lst Y=>
   obtain⟨ys,h4,h5⟩:=dh<|show(yT Y).bind _=_ from h3;by_cases hz:(ys.map (·.length)).sum+ys.length*sp.length<=16777216
   ·rw[if_pos hz]at h5;cases h5;have q1:=Al.scal (F':=F1) l1 rfl;cases q1;refine⟨rfl,qb F0 B F1 H1 O U _ _ (rs.ext x1) h2 λv2 F2 H2 x2 l2=>?_⟩;obtain⟨p,vs,rfl,hp,Ko⟩:=l2.lst x2.fh;rw[QT h4]at Ko;have hv:=S6 Ko;subst hv;exact⟨sp,p,ys,rfl,rfl,hp,hz,w _ F2 H2 (x1.trans x2)<|Al.of<|.str _⟩
   ·rw[if_neg hz]at h5;cases h5
  |_=>cases h3
 |_=>cases h3
variable {kq:Nat}
section
variable {fd:c9}
theorem eZ (h:XO X M L k e f):XO X M L 0 e f:=XE.ow<|XO.sh (n:=0) h
theorem nO {own:Nat}(hN:X.N.Nodup)(ho:i<own:=by decide)(hm:L[i]?=Z (.ow 0):=by rfl)(hi:X.N[i]?=Z x:=by rfl)(hx:ë X.env.scope x:=by walk_at "v3")
  (hf:xE X x:=by walk_at "v2"):Cm X M L own 0 (.Name x pos) (gV i):=Z9 ho hm hN hi hx hf
theorem jO (hN:X.N.Nodup)(he:XO X M L k e f)(hm:L[i]?=Z (.ow k):=by rfl)(hi:X.N[i]?=Z x:=by rfl)(hx:ë X.env.scope x:=by walk_at "v3")
  (hs:G0 X e x pos' pos:=by rfl)
  (hf:xE X x:=by walk_at "v2"):XS X M L rk (.Assign [.Name x pos'] e pos) (È i f):=ť hm hN hi hx he hs hf
theorem p0 (hN:X.N.Nodup)(hm:L[i]?=Z (.ow 0):=by rfl)(hi:X.N[i]?=Z x:=by rfl)(hx:ë X.env.scope x:=by walk_at "v3")
  (hf:xE X x:=by walk_at "v2"):XG X M L 0 (.Name x pos) (gV i):=ϻ hm hN hi hx hf
theorem jU (d:jN X.K X.mg x st ps fa fd)(Fn:dR X.prog X.w X.K X.mg X.base fL kk fa fd ps<|iP X.K M ns rk mf)(hr:fw kq X.A)(ha:XA X M L (e::es) ns fs)(rG:kk<=kq:=by decide)(hg:Gl X x:=by rfl)
  (jS:iM x:=by decide) (he:SE X e es:=by rfl) (iD:lV X pos es:=by rfl) :
  XO X M L rk (.Call (.Name x pp) (e::es) [] pos) (λO=>(fs O).bind λY=>mf<|Y++[]) :=
 R7 (ns:=ns) (nd:=[]) (lY:=[]) (by rw[d6];exact Fn) (hr.mono rG) hg d.mgx d.fn.kp d.bd .nil (λ_ _=>.nil) ha jS he iD
theorem Tr {own:Nat}(hi:å X M L n tg iter fi)
  (hg:∀cl C fp s₀ H₀,Cm (m8 X scope cl N C fp s₀ H₀) M (om++jZ L cap) own n tg gg) (ht:∀cl C fp s₀ H₀,DI (m8 X scope cl N C fp s₀ H₀) M (om++jZ L cap) ifs p) (he:∀cl C fp s₀ H₀,XO (m8 X scope cl N C fp s₀ H₀) M (om++jZ L cap) k pA f)
  (B:og X scope N own cap:=by exact Hv (by rfl)) (hc:X.calm=Â:=by rfl) (ho:om.length=own:=by rfl) (qL:∀i∈cap,i<L.length:=by decide)
  (hs:B4 X iter:=by intro _;rfl):XO X M L (k+1) (.ListComp pA [⟨tg,iter,ifs,0⟩] scope pos) (fY fi own cap gg p f):=OF B hc ho qL hi hg ht he hs
theorem eR {i:Int}{j}:XE X M L 0 (.Constant (.int i) j pos) (eC<|.int i):=ŧ
theorem qX {j}:XE X M L 0 (.Constant .none j pos) (eC .non):=Ŧ
theorem e8 (ha:XE X M L 0 a f)(hb:XE X M L 0 b g):XO X M L 1 (.BinOp a .Add b pos) (e2 dL f g):=Dy vb (vc (by decide)<|by decide) ha hb
theorem jA (ha:XE X M L 0 a f)(hb:XE X M L 0 b g)(hp:qE b:=by exactλ_ _=>rfl):XE X M L 0 (.Subscript a b pos) (e2 gK f g):=Lx (n:=0) Ll Lm ha hb hp
theorem oR (hm:X.mg "len"=S)(ha:XA X M L [e] [n] fs)(hg:Gl X "len":=by rfl)(he:SE X e []:=by rfl)(iD:lV X pos []:=by rfl):XE X M L 0 (.Call (.Name "len" pp) [e] [] pos) (eN iE fs):=xq (k:=0) Ze ϳ hg hm Ů ha (by decide) (by decide) he iD
theorem lA0 {P:List cU->Prop}(h:P [])(us:List cU)(e:us.length=0):P us:=by
 cases us with
 |nil=>exact h
 |cons a t=>cases e
theorem ī {P:List cU->Prop}(h:∀a1,P [a1])(us:List cU)(e:us.length=1):P us:=by
 cases us with
 |nil=>cases e
 |cons a t=>exact lA0 (P:=λt=>P (a::t)) (h a) t<|Nat.succ.inj e
theorem Ī {P:List cU->Prop}(h:∀a1 a2,P [a1,a2])(us:List cU)(e:us.length=2):P us:=by
 cases us with
 |nil=>cases e
 |cons a t=>exact ī (P:=λt=>P (a::t)) (h a) t<|Nat.succ.inj e
theorem đ {P:List cU->Prop}(h:∀a1 a2 a3,P [a1,a2,a3])(us:List cU)(e:us.length=3):P us:=by
 cases us with
 |nil=>cases e
 |cons a t=>exact Ī (P:=λt=>P (a::t)) (h a) t<|Nat.succ.inj e
theorem ċ {P:List cU->Prop}(h:∀a1 a2 a3 a4,P [a1,a2,a3,a4])(us:List cU)(e:us.length=4):P us:=by
 cases us with
 |nil=>cases e
 |cons a t=>exact đ (P:=λt=>P (a::t)) (h a) t<|Nat.succ.inj e
theorem č {P:List cU->Prop}(h:∀a1 a2 a3 a4 a5,P [a1,a2,a3,a4,a5])(us:List cU)(e:us.length=5):P us:=by
 cases us with
 |nil=>cases e
 |cons a t=>exact ċ (P:=λt=>P (a::t)) (h a) t<|Nat.succ.inj e
theorem İ {P:List cU->Prop}(h:∀a1 a2 a3 a4 a5 a6,P [a1,a2,a3,a4,a5,a6])(us:List cU)(e:us.length=6):P us:=by
 cases us with
 |nil=>cases e
 |cons a t=>exact č (P:=λt=>P (a::t)) (h a) t<|Nat.succ.inj e
end
inductive iS where
 |ok (d:D)|xc (d:D)
inductive vZ where
 |ok (o:é)|xc (O:Env) (d:D)
abbrev n9:=Env->Option vZ
abbrev B3:=Env->Option iS
def DJ (K:cX)(M:Nat->cZ)(F H:Hp)(d:D)(a:cZ):Prop:=∃c ns Y T dx,d=.exc c ns Y/\F a=S/\F T=S/\zR H a (M c) dx (Z T) /\
 ((ns=[]/\Y=[]/\dx=S)\/∃y vs,dx=Z y/\F y=Z (.xd<|ns.zip vs)/\ns.length=vs.length/\Ü K M F Y vs)
def rC (K:cX)(cl:Nat->cZ)(F0 B:Hp)(L:List Mo)(rk:Nat)(E:lO)(W':GK):vZ->Prop
 |.ok o=>nD K cl F0 B L rk E o
 |.xc O d=>∀a U F1 H0 F H,RS K cl F0 B L F1 H0 O U->iJ F1 H0 F H->H0 a=S->DJ K cl F H d a->W' U a H
theorem DJ.note {a:cZ}(h:DJ K M F H d a)(s:d9 F H):∃C dx T,zR H a C dx (Z T)/\∀T',H T'=S->DJ K M F (iO H a C dx T') d a/\d9 F (iO H a C dx T')/\∀b o,b≠a->H b=Z o->iO H a C dx T' b=Z o:=by
 obtain⟨c,ns,Y,T,dx,rfl,fa,fT,xr,r⟩:=h;refine⟨M c,dx,T,xr,λT' hT=>⟨⟨c,ns,Y,T',dx,rfl,fa,s.free hT,OA xr hT,r⟩,λb o e=>?_,λb o hb e=>?_⟩⟩
 ·unfold iO;rw[zn<|zp e fa,zn<|zp e<|s.free hT];exact s _ _ e
 ·unfold iO;rw[zn hb,zn<|zp e hT];exact e
theorem iJ.note {H0:Hp}{a:cZ}{dx:Option cZ}{T':cZ}(x:iJ F1 H0 F H)(ha:H0 a=S)(hT:H T'=S)(s:d9 F<|iO H a C dx T'):iJ F1 H0 F (iO H a C dx T') :=
 ⟨x.ff,λb o e=>by unfold iO;rw[zn<|zp e ha,zn<|zp (x.hh _ _ e) hT];exact x.hh _ _ e,s,x.nf⟩
section
variable (X:Cx)(W':GK)(M:Nat->cZ)(L:List Mo)(rk:Nat)
def Dj (st:et)(f:n9):Prop:=∃t,PS X st t/\∀(F0 B F H:Hp) (O:Env) (U:St) (o:vZ) (E:lO),RS X.K M F0 B L F H O U->f O=Z o->rC X.K M F0 B L rk E W' o->t E U H
def sL (st:List et)(f:n9):Prop:=∃t,tG X st t/\∀(F0 B F H:Hp) (O:Env) (U:St) (o:vZ) (E:lO),RS X.K M F0 B L F H O U->f O=Z o->rC X.K M F0 B L rk E W' o->t E U H
def EJ (k:Nat)(e:Expr)(f:B3):Prop:=∃t,PE X e t/\∀(F0 B F H:Hp) (O:Env) (U:St) (r:iS) (Q:VK),RS X.K M F0 B L F H O U->f O=Z r ->
 (match r with
  |.ok d=>∀v F' G fp,iJ F H F' G->Ow X.K M F' G k d v fp->fp.Nodup->(∀a∈fp,H a=S)->Q v G
  |.xc d=>∀a F' G,iJ F H F' G->H a=S->DJ X.K M F' G d a->W' U a G)->t U H Q
end
def sY (u:SF):n9:=λO=>(u O).map .ok
def jJ (f g:n9):n9:=λO=>(f O).bind λo=>match o with
 |.ok (.nx ρ')=>g ρ'
 |o=>Z o
def rK (c:BF)(f g:n9):n9:=λO=>(c O).bind λb=>if b=Â then f O else g O
def Bg (i:Nat)(f:B3):n9:=λO=>(f O).bind λr=>match r with
 |.ok d=>Z<|.ok<|.nx<|O.set i<|Z d
 |.xc d=>Z<|.xc O d
def pX (f:B3):n9:=λO=>(f O).bind λr=>match r with
 |.ok _=>Z<|.ok<|.nx O
 |.xc d=>Z<|.xc O d
def yQ (f:B3):n9:=λO=>(f O).bind λr=>match r with
 |.ok d=>Z<|.ok<|.rt d
 |.xc d=>Z<|.xc O d
def sO (g:D->Env->Option Env)(b:n9):List D->n9
 |[],O=>Z<|.ok<|.nx O
 |d::Y,O=>(g d O).bind λρ1=>(b ρ1).bind λo=>match o with
   |.ok (.nx ρ')=>sO g b Y ρ'
   |.ok (.ct ρ')=>sO g b Y ρ'
   |.ok (.bk ρ')=>Z<|.ok<|.nx ρ'
   |.ok (.rt d)=>Z<|.ok<|.rt d
   |.xc ρ' d=>Z<|.xc ρ' d
def Bf (f:Env->Option (List D))(g:D->Env->Option Env)(b:n9):n9:=λO=>(f O).bind λY=>sO g b Y O
section
variable {W':GK}{u w:n9}
theorem Fs {u:SF}(h:XS X M L rk st u):Dj X W' M L rk st (sY u):=by obtain⟨t,pt,qt⟩:=h;refine⟨t,pt,λF0 B F H O U o E rs e z=>?_⟩;obtain⟨o',h1,rfl⟩:=gr.mp e;exact qt F0 B F H O U o' E rs h1 z
theorem xz {u:SF}(h:tH X M L rk Ê u):sL X W' M L rk Ê (sY u):=by obtain⟨t,pt,qt⟩:=h;refine⟨t,pt,λF0 B F H O U o E rs e z=>?_⟩;obtain⟨o',h1,rfl⟩:=gr.mp e;exact qt F0 B F H O U o' E rs h1 z
theorem yo (h1:Dj X W' M L rk st u):sL X W' M L rk [st] u:=by obtain⟨t,pt,qt⟩:=h1;exact⟨_,vw pt,qt⟩
theorem ye (h1:Dj X W' M L rk st u)(h2:sL X W' M L rk Ê w):sL X W' M L rk (st::Ê) (jJ u w):=by
 obtain⟨t,pt,qt⟩:=h1;obtain⟨t2,sR,sX⟩:=h2;refine⟨_,wx pt sR,λF0 B F H O U o E rs e z=>?_⟩;obtain⟨o1,e1,e2⟩:=dh e;refine qt F0 B F H O U o1 _ rs e1 ?_;cases o1 with
 |xc ρ' d=>cases e2;exact z
 |ok o1=>
  cases o1 with
  |nx ρ'=>exactλσ' F' G Gp=>sX F0 B F' G ρ' σ' o E Gp e2 z
  |rt d=>cases e2;exact z
  |bk ρ'=>cases e2;exact z
  |ct ρ'=>cases e2;exact z
theorem Ft (hc:XT X M L c p)(h1:sL X W' M L rk Hi u)(h2:sL X W' M L rk CY w):Dj X W' M L rk (.If c Hi CY pos) (rK p u w):=by
 obtain⟨t,pt,qt⟩:=hc;obtain⟨t1,yL,yO⟩:=h1;obtain⟨t2,sR,sX⟩:=h2;refine⟨_,O3 pt yL sR,λF0 B F H O U o E rs e z=>?_⟩;obtain⟨x,h1,h2⟩:=dh e;refine qt F0 B F H O U x _ rs h1 λF1 H1 x1=>?_;cases x with
 |true=>rw[if_pos rfl]at h2 ⊢;exact yO F0 B F1 H1 O U o E (rs.ext x1) h2 z
 |false=>rw[if_neg di]at h2 ⊢;exact sX F0 B F1 H1 O U o E (rs.ext x1) h2 z
theorem ϥ {f:B3}(hm:L[i]?=Z (.ow k))(hN:X.N.Nodup)(hi:X.N[i]?=Z x)(hx:ë X.env.scope x)(he:EJ X W' M L k e f)(hs:G0 X e x pos' pos:=by rfl)
  (hf:xE X x:=by walk_at "v2"):Dj X W' M L rk (.Assign [.Name x pos'] e pos) (Bg i f):=by
 obtain⟨t,pt,qt⟩:=he;refine⟨_,OM hN hi hx pt hs hf,λF0 B F H O U o E rs e z=>?_⟩;obtain⟨r,h1,h2⟩:=dh e;refine qt F0 B F H O U r _ rs h1 ?_;cases r with
 |ok d=>cases h2;exactλv F' G fp x l nd hf=>z _ F' G<|rs.set hm x l nd hf
 |xc d=>cases h2;exactλa F' G x ha xd=>z a U F H F' G rs x ha xd
theorem RL {f:B3}(he:EJ X W' M L k e f)(hs:gc e S pos.line X.env=pure Ã:=by rfl):Dj X W' M L rk (.Expr e pos) (pX f):=by
 obtain⟨t,pt,qt⟩:=he;refine⟨_,w9 pt hs,λF0 B F H O U o E rs e z=>?_⟩;obtain⟨r,h1,h2⟩:=dh e;refine qt F0 B F H O U r _ rs h1 ?_;cases r with
 |ok d=>cases h2;exactλv F' G fp x l nd hf=>z U F' G<|rs.ext x
 |xc d=>cases h2;exactλa F' G x ha xd=>z a U F H F' G rs x ha xd
theorem SD {f:B3}(he:EJ X W' M L rk e f):Dj X W' M L rk (.Return (Z e) pos) (yQ f):=by
 obtain⟨t,pt,qt⟩:=he;refine⟨_,GO pt,λF0 B F H O U o E rs e z=>?_⟩;obtain⟨r,h1,h2⟩:=dh e;refine qt F0 B F H O U r _ rs h1 ?_;cases r with
 |ok d=>cases h2;intro v F' G fp x l nd hf;have q:=rs.ext x;exact z v F' G fp q.f0 q.bh q.fh q.nf l nd λy hy=>rs.bh.free<|hf y hy
 |xc d=>cases h2;exactλa F' G x ha xd=>z a U F H F' G rs x ha xd
theorem rC.re {E:lO}{o:vZ}(r:RS K M F0 B L F H O U)(z:rC K M F0 B L rk E W' o):rC K M F B L rk E W' o:=by
 cases o with
 |ok o=>exact nD.re (o:=o) r z
 |xc O d=>exactλa σ' F1 H0 F' G q=>z a σ' F1 H0 F' G<|r.back q
theorem OI (hi:XI X M L n tg iter fi)(hg:XG X M L n tg gg)(hb:sL X W' M L rk Ê u)(hp:gE (dq X.prog X.w) X.A X.env X.xe)(hc:X.calm=Â)
  (hs:B4 X iter:=by intro _;rfl):Dj X W' M L rk (.For tg iter Ê [] pos) (Bf fi gg u):=by
 obtain⟨wi,pi,qi⟩:=hi;obtain⟨NS,pg,qg⟩:=hg;obtain⟨t1,yL,yO⟩:=hb;refine⟨_,SK hp hc pi pg yL hs,λF0 B F H O U o E rs e z=>?_⟩;obtain⟨Y,h1,h2⟩:=dh e;refine qi F0 B F H O U Y _ rs h1 λL' F1 H1 x1 ok=>?_;refine⟨λi m U H=>m=Y.length-i/\i<=Y.length/\∃F O,d9 F1 F/\RS X.K M F0 B L F H O U/\sO gg u (Y.drop i) O=Z o,⟨Y.length,rfl,gQ _,F1,O,.refl _,rs.ext x1,h2⟩,?_⟩;rintro i m U H ⟨rfl,PQ,F,O,s1,rs,e⟩;obtain⟨k1,k2⟩:=ok i F H s1 rs.bh rs.fh;by_cases vI:i<Y.length
 ·right;have hd:Y[i]?=Z Y[i]:=by simp[vI]
  obtain⟨go,yl⟩:=k1 _ hd;rw[jV vI]at e;obtain⟨ρ1,h3,h4⟩:=dh e;obtain⟨o1,h5,h6⟩:=dh h4;refine⟨go,λU H=>i+1<=Y.length/\∃F O,d9 F1 F/\RS X.K M F0 B L F H O U/\sO gg u (Y.drop<|i+1) O=Z o,λσ' G h=>⟨Y.length-(i+1),by lia,rfl,h⟩,λx H2 y=>?_⟩;obtain⟨F2,x2,l⟩:=yl x H2 y;refine qg F0 B F2 H2 O ρ1 U _ x _ (rs.ext x2) l h3 λσ' r=>?_;have s2:=s1.trans x2.ff;refine yO F2 B F2 H2 ρ1 σ' o1 _ r.re h5 ?_;cases o1 with
  |xc ρ' d=>cases h6;exact rC.re (o:=.xc ρ' d) r z
  |ok o1=>
   cases o1 with
   |nx ρ'=>exactλσ' F' G q=>⟨vI,F',ρ',s2.trans q.f0,r.back q,h6⟩
   |ct ρ'=>exactλσ' F' G q=>⟨vI,F',ρ',s2.trans q.f0,r.back q,h6⟩
   |bk ρ'=>cases h6;exactλσ' F' G q=>z σ' F' G<|r.back q
   |rt d=>cases h6;exact nD.re (o:=.rt d) r z
 ·left;refine⟨k2<|by lia,?_⟩
  have:Y.drop i=[]:=nP (by lia);rw[this]at e;cases e;exact z U F H rs
end
def nS (K:cX)(M:Nat->cZ)(pm:List Nat)(rk:Nat)(m:List D->Option iS):Sp:=λvs H Q E=>∃(F:Hp) (Y:List D) (r:iS),d9 F H/\nh K M F H pm Y vs/\m Y=Z r /\
 match r with
  |.ok d=>∀v F' G fp,iJ F H F' G->Ow K M F' G rk d v fp->fp.Nodup->(∀a∈fp,H a=S)->Q v G
  |.xc d=>∀a F' G,iJ F H F' G->H a=S->DJ K M F' G d a->E (.ref a) S G
theorem nS.len {m:List D->Option iS}(h:pm.length=ps.length):∀vs H Q E,nS K M pm rk m vs H Q E->vs.length=ps.length:=by rintro vs H Q E ⟨F,Y,r,_,l,_⟩;rw[l.length,h]
theorem Lw {a:cZ}{W':GK}(x1:iJ F H F1 H1)(x2:iJ F1 H1 F' G)(ha:H1 a=S)(xd:DJ K M F' G d a)(w:∀a F' G,iJ F H F' G->H a=S->DJ K M F' G d a->W' U a G):EX W' U (.ref a) S G:=by obtain⟨C,dx,T,xr,nt⟩:=xd.note x2.fh;refine⟨a,C,dx,T,rfl,xr,λT' hT=>?_⟩;obtain⟨q1,q2,_⟩:=nt T' hT;exact w a F' _ ((x1.trans x2).note (x1.hh.free ha) hT q2) (x1.hh.free ha) q1
variable {z:Str}
section
variable {W':GK}{u w:n9}{fd:c9}{mf:List D->Option iS}
theorem Ot (hx:lp X W')(Fn:dR X.prog X.w X.K X.mg X.base (rg X.prog X.w) kk fa fd ps<|nS X.K M (ns++nd) rk mf)(hr:fw kk X.A)(hg:Gl X x)(hm:X.mg x=Z (.ref fa))(hk:dQ X.K (.ref fa)=Â)
  (hb:fK X.K fd ps sd) (hd:eh i9 sd) (Cu:∀F W',nh X.K M F W' nd lY i9) (ha:XA X M L (e::es) ns fs)
  (jS:iM x:=by decide) (he:SE X e es:=by rfl) (iD:lV X pos es:=by rfl) :
  EJ X W' M L rk (.Call (.Name x pp) (e::es) [] pos) (λO=>(fs O).bind λY=>mf<|Y++lY):=by
 obtain⟨t,pt,_,qt⟩:=ha;refine⟨_,ZM Fn hr hg hm hk hb hd hx pt jS he iD,λF0 B F H O U r Q rs e w=>?_⟩;obtain⟨Y,h1,h2⟩:=dh e;refine qt F0 B F H O U Y _ rs h1 λvs F1 H1 x1 l=>⟨F1,Y++lY,r,x1.fh,nh.append (Cu F1 H1) l,h2,?_⟩;cases r with
 |ok d=>exactλv F2 H2 fp x2 o nd hf=>w v F2 H2 fp (x1.trans x2) o nd λz hz=>x1.hh.free<|hf z hz
 |xc d=>exactλa F2 H2 x2 ha xd=>Lw x1 x2 ha xd w
def uW (N:List Str)(b:n9)(Y:List D):Option iS:=(b<|Î N Y).bind λo=>match o with
 |.ok (.rt d)=>Z<|.ok d
 |.ok (.nx _)=>Z<|.ok .non
 |.xc _ d=>Z<|.xc d
 |_=>S
theorem tP {w:d5}{fd:c9}{bf:n9}(Fn:Þ K x qual st fa fd)(S':eK N ps<|dH st)(Au:pm.length=ps.length)(CB:L.length=N.length)(rG:ps.length<=N.length)
  (CA:∀(i n:Nat),pm[i]?=Z n->L[i]?=Z (Mo.al n)\/(n=0/\L[i]?=Z (Mo.ow 0)))
  (body:∀(gH:cU) (A:dO) (outer:List PySem.Env) (s:de) (H:Hp) (E:XK),fw kk (A.deeper<|envOfC qual (dH st) s.heap.objs.size fa gH)->sL (nj (rg P w) P w K mg base N qual (dH st) fa gH A outer s H E) (λ_ a G=>E (.ref a) S G) M L rk (gz st) bf) :
  dR P w K mg base (rg P w) (kk+1) fa fd ps (nS K M pm rk<|uW N bf):=by
 obtain⟨oc,od,dV,kV,doc,Qc,an,gH,Ph,Bc,rfl,lk,iY⟩:=Fn.ex;refine O1 lk iY S' (nS.len Au) λA outer s H vs Q E hr h=>?_;obtain⟨F,Y,r,sF,l,hm,q⟩:=h;obtain⟨t,pt,qt⟩:=body gH A outer s H E hr;refine⟨t,pt,?_⟩;obtain⟨o,h1,h2⟩:=dh hm;have Vj:vs.length=pm.length:=l.length;have hdl:Y.length=vs.length:=l.length';refine qt F H F H (Î N Y) (L2.start N vs) o _ ⟨.refl _,.refl _,sF,λ_ _ _ _ h=>h,[],?_,d4,λa z=>(by cases z)⟩ h1 ?_
 ·unfold Î L2.start;rw[hdl];exact SL.start _ l CA (by lia)
 ·cases o with
  |xc O d=>cases h2;exactλa U F1 H0 F' G rs x ha xd=>q a F' G (iJ.trans ⟨rs.f0,rs.bh,rs.fh,rs.nf⟩ x) (rs.bh.free ha) xd
  |ok o=>
   cases o with
   |nx O=>cases h2;exactλU F' G r=>q .non F' G [] ⟨r.f0,r.bh,r.fh,r.nf⟩ (Ow.scal .non rfl) d4 λa z=>(by cases z)
   |rt d'=>cases h2;exactλv F' G fp s1 s2 s3 s4 o nd hf=>q v F' G fp ⟨s1,s2,s3,s4⟩ o nd hf
   |bk O=>cases h2
   |ct O=>cases h2
def XR (X:Cx)(M:Nat->cZ)(L:List Mo)(e:Expr)(f:EF):Prop:=∃t,PE X e t/\∀(F0 B F H:Hp) (O:Env) (U:St) (d:D) (Q:VK),RS X.K M F0 B L F H O U->f O=Z d ->
 (∀a F' G c ns Y dx,iJ F H F' G->H a=S->d=.exc c ns Y->F' a=S->wA X.K (M c)->zR G a (M c) dx S->((ns=[]/\Y=[]/\dx=S)\/∃y vs,dx=Z y/\F' y=Z (.xd<|ns.zip vs)/\ns.length=vs.length/\Ü X.K M F' Y vs)->Q (.ref a) G)->t U H Q
def nv (f:EF):n9:=λO=>(f O).bind λd=>Z<|.xc O d
theorem wr (hc:X.calm=Â)(hx:lp X W')(he:XR X M L e f):Dj X W' M L rk (.Raise (Z e) S pos) (nv f):=by
 obtain⟨t,pt,qt⟩:=he;refine⟨_,ZP hc hx pt,λF0 B F H O U o E rs e z=>?_⟩;obtain⟨d,h1,h2⟩:=dh e;cases h2;refine qt F0 B F H O U d _ rs h1 λa F' G c ns Y dx x ha hd fa cl xr r=>⟨a,M c,dx,rfl,cl,xr,λT hT=>?_⟩;have sN:d9 F' (iO G a (M c) dx T):=λb o e=>by unfold iO;rw[zn<|zp e fa,zn<|zp e<|x.fh.free hT];exact x.fh _ _ e
 exact z a U F H F' _ rs (x.note ha hT sN) ha ⟨c,ns,Y,T,dx,hd,fa,x.fh.free hT,OA xr hT,r⟩
def pP:D->Option D
 |.non=>Z .non
 |.int i=>if i.natAbs.log2<1920 then Z (.int i)else S
 |_=>S
theorem Zm {v:V}(h:pP d=Z d')(l:Al K M F G' n d v):d'=d/\vE v/\∀F',Dt K M F' d v:=by
 cases d with
 |non=>unfold pP at h;cases h;refine⟨rfl,.inl l.non,λF'=>?_⟩;rw[l.non];exact .non
 |int i=>
  unfold pP at h;dsimp only at h;by_cases hi:i.natAbs.log2<1920
  ·rw[if_pos hi]at h;cases h;refine⟨rfl,.inr ⟨i,l.int,hi⟩,λF'=>?_⟩;rw[l.int];exact .int i
  ·rw[if_neg hi]at h;cases h
 |_=>unfold pP at h;cases h
def xV (f:Str)(C:cZ):Sp:=λvs H Q _=>∃a u,vs=[.ref a,u]/\H a=Z (nN a C S S)/\vE u/\∀dx,H dx=S->dx≠a->Q .non (upd (upd H dx<|.xd [(f,u)]) a<|nN a C (Z dx) S)
theorem xV.len {f:Str}:∀vs H Q E,xV f C vs H Q E->vs.length=[y,z].length:=by rintro vs H Q E ⟨a,u,rfl,_⟩;rfl
theorem qo {fn:Str}(cl:wA X.K<|M c0)(FO:dQ X.K (.ref<|M c0)=Â)(hi:dI X.K (.ref<|M c0) "__init__"=Z (Z<|.ref fa))(zS:jM X.K (.ref fa)=Â)(Fn:dR X.prog X.w X.K X.mg X.base fL kk fa fd ps<|xV fn<|M c0)(hr:fw (kk+1) X.A)(hm:X.mg x=Z (.ref<|M c0))(hb:fK X.K fd ps [])
  (he:XE X M L n e f) (hg:Gl X x:=by rfl) (jS:iM x:=by decide) (jH:SE X e []:=by rfl) (iD:lV X pos []:=by rfl) :
  XR X M L (.Call (.Name x pp) [e] [] pos) (λO=>(f O).bind λd=>(pP d).bind λd=>Z<|.exc c0 [fn] [d]):=by
 obtain⟨t,pt,qt⟩:=he;refine⟨_,Ob cl FO hi zS Fn hr hg hm hb (ya pt yz jH) jS jH iD,λF0 B F H O U d Q rs e w=>?_⟩;obtain⟨d1,h1,h2⟩:=dh e;obtain⟨d2,h3,h4⟩:=dh h2;cases h4;refine qt F0 B F H O U d1 _ rs h1 λv F1 H1 x1 l=>⟨by simp,λa ha=>⟨a,v,rfl,zo,?_⟩⟩;obtain⟨rfl,fo,dt⟩:=Zm h3 l;refine⟨fo,λdx Dn oQ=>⟨rfl,?_⟩⟩;have Cv:H1 dx=S:=by rw[zn oQ]at Dn;exact Dn
 have hH:upd (upd (upd H1 a<|nN a (M c0) S S) dx<|.xd [(fn,v)]) a (nN a (M c0) (Z dx) S)=upd (upd H1 dx<|.xd [(fn,v)]) a (nN a (M c0) (Z dx) S):=by
  funext b;by_cases h1:b=a
  ·rw[h1,zo,zo]
  ·rw[zn h1,zn h1];by_cases h2:b=dx
   ·rw[h2,zo,zo]
   ·rw[zn h2,zn h2,zn h1]
 rw[hH];have x2:iJ F1 H1 (upd F1 dx<|.xd [(fn,v)]) (upd H1 dx<|.xd [(fn,v)]):=iJ.newS x1.fh Cv _;have DW:upd H1 dx (.xd [(fn,v)]) a=S:=by rw[zn<|Ne.symm oQ];exact ha
 have x3:=iJ.newO x2.fh DW<|nN a (M c0) (Z dx) S;refine w a _ _ c0 [fn] [d2] (Z dx) ((x1.trans x2).trans x3) (x1.hh.free ha) rfl ?_ cl ⟨zo,λT z=>by cases z⟩<|.inr ⟨dx,[v],rfl,zo,rfl,.cons (dt _) .nil⟩;rw[zn<|Ne.symm oQ];exact x1.fh.free ha
end
def vX (K:cX)(M:Nat->cZ)(cs:List Nat)(pm:List Nat)(mi:Nat->List D->Option iS):Sp:=λvs H Q E=>∃(F:Hp) (c:Nat) (Y:List D) (r:iS) (x dx:cZ) (us:List V),c∈cs/\vs=.ref x::us/\H x=Z (.ins (M c) dx [])/\F x=S/\d9 F H/\nh K M F (oZ H x) pm Y us/\mi c Y=Z r /\
 match r with
  |.ok d=>∀F' G f,d9 F F'->d9 (oZ H x) G->d9 F' G->(∀a o,oZ H x a=Z o->mh o->F a=S->F' a=S)->Ow K M F' G 1 d (.ref x) f->f.Nodup->(∀a∈f,a=x\/H a=S)->Q .non G
  |.xc d=>∀a F' G,d9 F F'->d9 (oZ H x) G->d9 F' G->(∀a o,oZ H x a=Z o->mh o->F a=S->F' a=S)->oZ H x a=S->DJ K M F' G d a->E (.ref a) S G
theorem vX.len {mi:Nat->List D->Option iS}(h:pm.length+1=ps.length):∀vs H Q E,vX K M cs pm mi vs H Q E->vs.length=ps.length:=by rintro vs H Q E ⟨F,c,Y,r,x,dx,us,_,rfl,_,_,_,l,_⟩;rw[dw,l.length,h]
def Av (N:List Str)(b:n9)(c:Nat)(Y:List D):Option iS:=(b (Z (.obj c [] [])::Î N.tail Y)).bind λo=>match o with
 |.ok (.nx O)=>((O[0]?).join).map .ok
 |.xc _ d=>Z<|.xc d
 |_=>S
variable {N1:Str}
section
variable {W':GK}{fd:c9}
theorem QU {w:d5}{fd:c9}{bf:n9}(Fn:Þ K x qual st fa fd)(S':eK (N0::N) ps<|dH st)(Au:pm.length+1=ps.length)(CB:L.length=N.length)(rG:pm.length<=N.length)
  (CA:∀(i n:Nat),pm[i]?=Z n->L[i]?=Z (Mo.al n)\/(n=0/\L[i]?=Z (Mo.ow 0)))
  (body:∀(x:cZ) (gH:cU) (A:dO) (outer:List PySem.Env) (s:de) (H:Hp) (E:XK),fw kk (A.deeper<|envOfC qual (dH st) s.heap.objs.size fa gH)->sL (nj (rg P w) P w K mg base (N0::N) qual (dH st) fa gH A outer s H E) (λ_ a G=>E (.ref a) S G) M (.so x::L) rk (gz st) bf) :
  dR P w K mg base (rg P w) (kk+1) fa fd ps (vX K M cs pm<|Av (N0::N) bf):=by
 obtain⟨oc,od,dV,kV,doc,Qc,an,gH,Ph,Bc,rfl,lk,iY⟩:=Fn.ex;refine O1 lk iY S' (vX.len Au) λA outer s H vs Q E hr h=>?_;obtain⟨F,c,Y,r,x,dx,us,hc,rfl,hx,hF,sF,l,hm,q⟩:=h;obtain⟨t,pt,qt⟩:=body x gH A outer s H E hr;refine⟨t,pt,?_⟩;obtain⟨o,h1,h2⟩:=dh hm;have hdl:Y.length=us.length:=l.length';have MU:us.length=pm.length:=l.length;have ow:Ow K M F H 1 (.obj c [] []) (.ref x) [x]:=.inr<|Aj.obj (vs:=[]) (fb:=[]) hF hx rfl rfl .nil;refine qt F (oZ H x) F H (Z (.obj c [] [])::Î N Y) (L2.start (N0::N) (.ref x::us)) o _ ⟨.refl _,wz H x,sF,λ_ _ _ _ h=>h,[x],?_,by simp,λa z=>by rw[dW]at z;subst z;exact JO H _⟩ h1 ?_
 ·have e:L2.start (N0::N) (.ref x::us)=Z (.ref x)::(us.map Z++dg (N.length-us.length) S):=by unfold L2.start;simp
  rw[e];unfold Î;rw[hdl];exact SL.so (f:=[x]) (fp:=[]) ow (SL.start _ l CA<|by lia)
 ·cases o with
  |xc O d=>cases h2;exactλa U F1 H0 F' G rs x ha xd=>q a F' G (rs.f0.trans x.ff) (rs.bh.trans x.hh) x.fh (λb o h t n=>x.nf b o (rs.bh _ _ h) t<|rs.nf b o h t n) (rs.bh.free ha) xd
  |ok o=>
   cases o with
   |nx O=>
    obtain⟨d,h3,rfl⟩:=gr.mp h2;intro U F' G r;obtain⟨fp,sl,nd,hb⟩:=r.sl;cases sl with
    |no _=>cases h3
    |so Jb _=>cases h3;exact q F' G _ r.f0 r.bh r.fh r.nf Jb (dm.mp nd).1 λa z=>(Classical.em<|a=x).imp id λne=>(xx ne).symm.trans<|hb a<|dc _ z
   |rt d'=>cases h2
   |bk O=>cases h2
   |ct O=>cases h2
theorem Ou {mi:Nat->List D->Option iS}(hx:lp X W')(J':Mk X.K (M c0) fa)(yA:c0∈cs)(Fn:dR X.prog X.w X.K X.mg X.base (rg X.prog X.w) kk fa fd ps<|vX X.K M cs (ns++nd) mi)(hr:fw (kk+1) X.A)(hg:Gl X x)(hm:X.mg x=Z (.ref<|M c0))
  (hb:fK X.K fd ps sd) (hd:eh i9 sd) (Cu:∀F W',nh X.K M F W' nd lY i9) (ha:XA X M L (e::es) ns fs)
  (jS:iM x:=by decide) (he:SE X e es:=by rfl) (iD:lV X pos es:=by rfl) :
  EJ X W' M L 1 (.Call (.Name x pp) (e::es) [] pos) (λO=>(fs O).bind λY=>mi c0<|Y++lY):=by
 obtain⟨t,pt,_,qt⟩:=ha;refine⟨_,ZN J' Fn hr hg hm hb hd hx pt jS he iD,λF0 B F H O U r Q rs e w=>?_⟩;obtain⟨Y,h1,h2⟩:=dh e;refine qt F0 B F H O U Y _ rs h1 λvs F1 H1 x1 l y dy hy Il oQ=>?_;have sH:d9 H1 (oZ (upd (upd H1 dy<|.own y) y<|.ins (M c0) dy []) y):=λb o h=>by have n1:b≠y:=zp h hy;rw[xx n1,zn n1,zn<|zp h Il];exact h
 have Jp:d9 H1 (upd (upd H1 dy<|.own y) y<|.ins (M c0) dy []):=sH.trans<|wz _ _;refine⟨F1,c0,Y++lY,r,y,dy,vs++i9,yA,rfl,zo,x1.fh.free hy,x1.fh.trans Jp,nh.mono (.refl _) sH<|nh.append (Cu F1 H1) l,h2,?_⟩;cases r with
 |ok d=>
  refineλF' G fq s1 s2 s3 s4 ow nq hq=>⟨rfl,?_⟩;refine w _ F' G fq ⟨x1.ff.trans s1,(x1.hh.trans sH).trans s2,s3,λb o h t n=>s4 b o (sH _ _<|x1.hh _ _ h) t<|x1.nf b o h t n⟩ ow nq λb z=>?_;rcases hq b z with rfl|wK
  ·exact x1.hh.free hy
  ·exact x1.hh.free<|Jp.free wK
 |xc d=>refineλa F' G s1 s2 s3 s4 ha xd=>Lw x1 (F':=F') (G:=G) ⟨s1,sH.trans s2,s3,λb o h n=>s4 b o (sH _ _ h) n⟩ (sH.free ha) xd w
theorem Ov {w:d5}{fn:Str}{fd:c9}(Fn:Þ K "__init__" qual st fa fd)(S':eK [N0,N1] [N0,N1]<|dH st)(cl:wA K C)(hd:eF K C=Â/\dI K (.ref C) "__setattr__"=Z (Z<|.builtin "object.__setattr__")/\ft K C fn=Z S)
  (body:∀(gH:cU) (A:dO) (outer:List PySem.Env) (s:de) (H:Hp) (E:XK),∃tf:TF,(∀U H v (Q:Hp->Prop),U[1]?=Z (Z v)->vE v->Q H->tf U H Q)/\tG (nj fL P w K mg base [N0,N1] qual (dH st) fa gH A outer s H E).nox (gz st) (Eo (Bk<|wZ K (rM 0)<|λU H Q=>tf U H λH1=>∀x,Q (.str x) H1)<|Bl K fn (rM 1)<|rM 0)) :
  dR P w K mg base fL (kk+1) fa fd [N0,N1] (xV fn C):=by
 refine Fn.ok S' xV.len λgH A outer s H vs Q E hr h=>?_;obtain⟨a,u,rfl,ha,fo,q⟩:=h;obtain⟨tf,MT,p⟩:=body gH A outer s H E;exact⟨_,p,.ref a,rfl,MT _ _ u _ rfl fo λx=>⟨a,C,S,S,rfl,cl,ha,u,rfl,.ref a,rfl,a,C,S,rfl,cl,hd.1,hd.2.1,hd.2.2,ha,λdx h1 h2=>q dx h1 h2⟩⟩
theorem NR {v:V}{Q:Hp->Prop}(h1:U[1]?=Z (Z v))(h2:vE v)(h3:Q H):rM 1 U H (λv H1=>vE v/\Q H1):=⟨v,h1,h2,h3⟩
def GG (hit:Nat->Option Bool)(i:Option Nat)(u:SF)(Ê:Nat->D->SF):Nat->D->SF:=λc d O=>(hit c).bind λb=>if b=Â then
  (match i with
   |none=>u O
   |some i=>(u<|O.set i<|Z d).bind λo=>match o with
    |.nx ρ'=>Z<|.nx<|ρ'.set i S
    |.bk ρ'=>Z<|.bk<|ρ'.set i S
    |.ct ρ'=>Z<|.ct<|ρ'.set i S
    |.rt d=>Z<|.rt d)
 else Ê c d O
def Eg (b:n9)(h:Nat->D->SF):SF:=λO=>(b O).bind λo=>match o with
 |.ok o=>Z o
 |.xc ρ' (.exc c ns Y)=>h c (.exc c ns Y) ρ'
 |.xc _ _=>S
def JW (X:Cx)(M:Nat->cZ)(L:List Mo)(rk:Nat)(hs:List ExceptHandler)(h:Nat->D->SF):Prop:=∃th,PH X hs th/\∀(F0 B F H:Hp) (O:Env) (U:St) (o:é) (E:lO) (a:cZ) (c:Nat) (d:D),RS X.K M F0 B L F H O U->Dt X.K M F d (.ref a)->h c d O=Z o->nD X.K M F0 B L rk E o->th a (M c) E U H
theorem Ϥ:JW X M L rk [] (λ_ _ _=>S):=⟨_,Ŷ,λF0 B F H O U o E a c d rs dt e z=>by cases e⟩
theorem SL.unset (h0:SL K M F B H L O U fp)(hm:L[i]?=Z (.ow 0)):∃iy,SL K M F B H L (O.set i Option.none) (U.set i Option.none) iy/\(∀a∈iy,a∈fp)/\(fp.Nodup->iy.Nodup):=by
 induction h0 generalizing i with
 |nil=>simp at hm
 |no t ih=>
  cases i with
  |zero=>exact⟨_,.no t,λ_ z=>z,λz=>z⟩
  |succ i=>obtain⟨iy,h1,h2,h3⟩:=ih (by simpa using hm);exact⟨iy,.no h1,h2,h3⟩
 |al h t ih=>
  cases i with
  |zero=>simp at hm
  |succ i=>obtain⟨iy,h1,h2,h3⟩:=ih (by simpa using hm);exact⟨iy,.al h h1,h2,h3⟩
 |px h t ih=>
  cases i with
  |zero=>simp at hm
  |succ i=>obtain⟨iy,h1,h2,h3⟩:=ih (by simpa using hm);exact⟨iy,.px h h1,h2,h3⟩
 |so h t ih=>
  cases i with
  |zero=>simp at hm
  |succ i=>obtain⟨iy,h1,h2,h3⟩:=ih (by simpa using hm);refine⟨_,.so h h1,λa z=>(dD.mp z).elim (λz=>dc _ z) λz=>c8 _ (h2 a z),λz=>?_⟩;obtain⟨n1,n2,n3⟩:=dm.mp z;exact dm.mpr ⟨n1,h3 n2,λa z b y=>n3 a z b<|h2 b y⟩
 |ow h t ih=>
  cases i with
  |zero=>exact⟨_,.no t,λa z=>c8 _ z,λz=>(dm.mp z).2.1⟩
  |succ i=>obtain⟨iy,h1,h2,h3⟩:=ih (by simpa using hm);refine⟨_,.ow h h1,λa z=>(dD.mp z).elim (λz=>dc _ z) λz=>c8 _ (h2 a z),λz=>?_⟩;obtain⟨n1,n2,n3⟩:=dm.mp z;exact dm.mpr ⟨n1,h3 n2,λa z b y=>n3 a z b<|h2 b y⟩
theorem RS.unset (r:RS K M F0 B L F H O U)(hm:L[i]?=Z (.ow 0)):RS K M F0 B L F H (O.set i S) (U.set i S):=by obtain⟨fp,sl,nd,hb⟩:=r.sl;obtain⟨iy,h1,h2,h3⟩:=sl.unset hm;exact⟨r.f0,r.bh,r.fh,r.nf,iy,h1,h3 nd,λa z=>hb a<|h2 a z⟩
theorem Ź {body:List et}{h0:ExceptHandler}{hs:List ExceptHandler}{bf:n9}{hf:Nat->D->SF}(hb:∀(E:cU->de->Prop) (cW:List<|cZ×gM) (W':GK),gE (dq X.prog X.w) X.A X.env E->lp (X.tr E cW) W'->sL (X.tr E cW) W' M L rk body bf)(hh:JW X M L rk (h0::hs) hf)
  (jH:X.stack=X.env::X.outer:=by rfl) (Im:X.env.frame=Z X.env.locals:=by rfl):XS X M L rk (.Try body (h0::hs) [] [] pos) (Eg bf hf):=by
 obtain⟨th,ph,qh⟩:=hh;refine⟨_,ŵ (tb:=λE cW W' h1 h2=>(hb E cW W' h1 h2).choose) jH Im (λE cW W' h1 h2=>(hb E cW W' h1 h2).choose_spec.1) ph,λF0 B F H O U o E rs e z E' cW h1 h2=>?_⟩;obtain⟨r,g1,g2⟩:=dh e;refine(hb E' cW (GH th E) h1 h2).choose_spec.2 F0 B F H O U r E rs g1 ?_;cases r with
 |ok o'=>cases g2;exact z
 |xc ρ' d=>
  intro a σ' F1 H0 F' G Gp x ha xd;obtain⟨c,ns,Y,T,dx,rfl,fa,fT,xr,rr⟩:=xd;refine⟨M c,dx,T,xr,?_⟩;have x2:iJ F1 H0 (upd F' a<|nN a (M c) dx<|Z T) G:=⟨x.ff.trans<|xl fa _,x.hh,λb o q=>by
   by_cases hb:b=a
   ·rw[hb,zo]at q;rw[hb,xr.1];exact q
   ·rw[zn hb]at q;exact x.fh _ _ q,λb o h n=>by rw[zn<|zp h ha];exact x.nf b o h n⟩
  refine qh F0 B _ G ρ' σ' o E a c _ (Gp.ext x2) ?_ g2 z;rcases rr with⟨rfl,rfl,rfl⟩|⟨y,vs,rfl,hy,hl,LU⟩
  ·exact .exc0 zo
  ·exact .exc (vs:=vs) zo (xl fa _ _ _ hy) hl<|LU.mono<|xl fa _
end
theorem Al.dtx {c:Nat}{ns:List Str}{v:V}(h:Al K M F W' n (.exc c ns Y) v):Dt K M F (.exc c ns Y) v:=by
 cases n with
 |zero=>exact h
 |succ n=>
  rcases h with h|h
  ·exact h
  ·cases h
theorem Dt.exc_inv {c:Nat}{ns:List Str}{v:V}(h:Dt K M F (.exc c ns Y) v):∃a dx tb,v=.ref a/\F a=Z (nN a (M c) dx tb)/\((ns=[]/\Y=[]/\dx=S)\/∃y vs,dx=Z y/\F y=Z (.xd<|ns.zip vs)/\ns.length=vs.length/\Ü K M F Y vs):=by
 cases h with
 |exc0 h=>exact⟨_,S,_,rfl,h,.inl ⟨rfl,rfl,rfl⟩⟩
 |exc h h' l t=>exact⟨_,Z _,_,rfl,h,.inr ⟨_,_,rfl,h',l,t⟩⟩
def Aq (cs:List Nat)(x:Str):D->Option D
 |.exc c ns Y=>if cs.contains c=Â then(ns.zip Y).lookup x else S
 |_=>S
def rJ (all sub:List Nat):D->Option D
 |.exc c _ _=>if all.contains c=Â then Z (.bl<|sub.contains c)else S
 |.non=>Z<|.bl Ã
 |_=>S
theorem JH (he:XE X M L n e f)(hc:∀c∈cs,Ć X.K (M c) x)(hb:Af X e x):XE X M L k (.Attribute e x pos) (e1 (Aq cs x) f):=by
 obtain⟨t,pt,qt⟩:=he;refine⟨_,zra pt hb,λF0 B F H O U r Q rs e w=>?_⟩;obtain⟨o,h1,h2⟩:=dh e;refine qt F0 B F H O U o _ rs h1 λv F1 H1 x1 l=>?_;cases o with
 |exc c ns Y=>
  obtain⟨a,dx,tb,rfl,ha,rr⟩:=l.dtx.exc_inv;unfold Aq at h2;dsimp only at h2;by_cases yA:cs.contains c=Â
  ·rw[if_pos yA]at h2;rcases rr with⟨rfl,rfl,rfl⟩|⟨y,vs,rfl,hy,hl,LU⟩
   ·simp at h2
   ·obtain⟨u,hu,du⟩:=vo LU.pr h2;exact⟨a,_,y,tb,_,u,rfl,x1.fh _ _ ha,x1.fh _ _ hy,hc c<|by simpa using yA,hu,w u F1 H1 x1<|Al.of du⟩
  ·rw[if_neg yA]at h2;cases h2
 |_=>cases h2
theorem Fu (hI:∀c∈all,L2.å X.K (M c)/\dN X.K (.ref<|M c) (.ref C)=Z (sub.contains c))(hN:dN X.K (.type "NoneType") (.ref C)=Z Ã)(hm:X.mg "isinstance"=S)(B7:X.mg x=Z (.ref C))(he:XE X M L n e f)(hg:Gl X "isinstance":=by rfl)(Cw:Gl X x:=by rfl)(hd2:iM x:=by decide)
  (A0:dM [e,.Name x p2] X.env=(Ã,eP e X.env)::dM [.Name x p2] X.env:=by rfl) (vJ:dM [.Name x p2] X.env=(Ã,eP (.Name x p2) X.env)::dM [] X.env:=by rfl) (iD:(gR pos<|dM [.Name x p2] X.env).any (·.1)=Ã:=by rfl) :
  XE X M L k (.Call (.Name "isinstance" pp) [e,.Name x p2] [] pos) (e1 (rJ all sub) f):=by
 obtain⟨t,pt,qt⟩:=he;refine⟨_,u5 Rv hg hm wk (ya pt (ya (K2 (v:=.ref C) Cw B7 rfl hd2) yz vJ) A0) (by decide) (by decide) A0 iD,λF0 B F H O U d Q rs e w=>?_⟩;obtain⟨d1,h1,h2⟩:=dh e;refine qt F0 B F H O U d1 _ rs h1 λv F' G x l=>?_;cases d1 with
 |exc c ns Y=>
  unfold rJ at h2;dsimp only at h2;by_cases hc:all.contains c=Â
  ·rw[if_pos hc]at h2;cases h2;obtain⟨a,dx,tb,rfl,ha,rr⟩:=l.dtx.exc_inv;obtain⟨ic,IL⟩:=hI c (by simpa using hc);refine⟨_,.ref C,_,rfl,λu ru=>.inl ⟨a,_,dx,tb,rfl,x.fh _ _ ha,?_,ic,?_⟩,w _ F' G x<|Al.of<|.bl _⟩
   ·rcases rr with⟨_,_,z⟩|⟨y,vs,z,hy,_⟩
    ·exact .inl z
    ·exact .inr ⟨y,_,z,x.fh _ _ hy⟩
   ·cases ru;exact IL
  ·rw[if_neg hc]at h2;cases h2
 |non=>cases h2;exact⟨_,.ref C,_,rfl,λu ru=>.inr ⟨l.non,by cases ru;exact hN⟩,w _ F' G x<|Al.of<|.bl _⟩
 |_=>cases h2
theorem ϣ (hI:∀c∈all,L2.å X.K (M c)/\dN X.K (.ref<|M c) (.type "ValueError")=Z Â)(hN:dN X.K (.type "NoneType") (.type "ValueError")=Z Ã)(hm:X.mg "isinstance"=S)(B7:X.mg "ValueError"=S)(he:XE X M L n e f)(hg:Gl X "isinstance":=by rfl)(Cw:Gl X "ValueError":=by rfl)
  (A0:dM [e,.Name "ValueError" p2] X.env=(Ã,eP e X.env)::dM [.Name "ValueError" p2] X.env:=by rfl) (vJ:dM [.Name "ValueError" p2] X.env=(Ã,eP (.Name "ValueError" p2) X.env)::dM [] X.env:=by rfl) (iD:(gR pos<|dM [.Name "ValueError" p2] X.env).any (·.1)=Ã:=by rfl) :
  XE X M L k (.Call (.Name "isinstance" pp) [e,.Name "ValueError" p2] [] pos) (e1 (rJ all all) f):=by
 obtain⟨t,pt,qt⟩:=he;refine⟨_,u5 Rv hg hm wk (ya pt (ya (R4 (v:=.ty "ValueError") (u:=.type "ValueError") Cw B7 rfl rfl) yz vJ) A0) (by decide) (by decide) A0 iD,λF0 B F H O U d Q rs e w=>?_⟩;obtain⟨d1,h1,h2⟩:=dh e;refine qt F0 B F H O U d1 _ rs h1 λv F' G x l=>?_;cases d1 with
 |exc c ns Y=>
  unfold rJ at h2;dsimp only at h2;by_cases hc:all.contains c=Â
  ·rw[if_pos hc,hc]at h2;cases h2;obtain⟨a,dx,tb,rfl,ha,rr⟩:=l.dtx.exc_inv;obtain⟨ic,IL⟩:=hI c (by simpa using hc);refine⟨_,.ty "ValueError",Â,rfl,λu ru=>.inl ⟨a,_,dx,tb,rfl,x.fh _ _ ha,?_,ic,?_⟩,w _ F' G x<|Al.of<|.bl _⟩
   ·rcases rr with⟨_,_,z⟩|⟨y,vs,z,hy,_⟩
    ·exact .inl z
    ·exact .inr ⟨y,_,z,x.fh _ _ hy⟩
   ·cases ru;exact IL
  ·rw[if_neg hc]at h2;cases h2
 |non=>cases h2;exact⟨_,.ty "ValueError",Ã,rfl,λu ru=>.inr ⟨l.non,by cases ru;exact hN⟩,w _ F' G x<|Al.of<|.bl _⟩
 |_=>cases h2
theorem ą {B:cZ}{b:Bool}(h1:Bu K B=Â)(h2:B1 K (.ref B)=Z (.type "type"))(h3:Cf K (.ref C) (.ref B)=Z b)(h4:Cf K (.ref B) (.type "BaseException")=Z Â):fR K (.ref C) (.ref B)=Z b:=by unfold fR PySem.W.kitCls;rw[h4,if_pos<|by decide];dsimp only;rw[if_pos,h3];unfold Bu at h1;rw[h1,h2];rfl
noncomputable def yC (all sub:List Nat):Nat->Option Bool:=λc=>if all.contains c=Â then Z (sub.contains c)else S
theorem Hw {B:cZ}(h:∀c∈all,fR K (.ref<|M c) (.ref B)=Z (sub.contains c)):∀c b,yC all sub c=Z b->fR K (.ref<|M c) (.ref B)=Z b:=by
 intro c b e;unfold yC at e;by_cases hc:all.contains c=Â
 ·rw[if_pos hc]at e;cases e;exact h c (by simpa using hc)
 ·rw[if_neg hc]at e;cases e
noncomputable def mw:List D->List D->List D->List D
 |x::xs,y::ys,u::us=>.tup [x,y,u]::mw xs ys us
 |_,_,_=>[]
theorem Rn:∀{xs ys us:List D} {i:Nat} {d:D},(mw xs ys us)[i]?=Z d->∃x y u,xs[i]?=Z x/\ys[i]?=Z y/\us[i]?=Z u/\d=.tup [x,y,u]
 |[],_,_,_,_,h=>by simp[mw]at h
 |_::_,[],_,_,_,h=>by simp[mw]at h
 |_::_,_::_,[],_,_,h=>by simp[mw]at h
 |x::xs,y::ys,u::us,0,d,h=>by simp[mw]at h;subst h;exact⟨x,y,u,rfl,rfl,rfl,rfl⟩
 |x::xs,y::ys,u::us,i+1,d,h=>by obtain⟨a,b,c,h1,h2,h3,h4⟩:=Rn (xs:=xs) (ys:=ys) (us:=us) (i:=i) (d:=d) (by simpa[mw]using h);exact⟨a,b,c,by simpa using h1,by simpa using h2,by simpa using h3,h4⟩
theorem Ro:∀{xs ys us:List D},(mw xs ys us).length=min xs.length (min ys.length us.length)
 |[],_,_=>by simp[mw]
 |_::_,[],_=>by simp[mw]
 |_::_,_::_,[]=>by simp[mw]
 |x::xs,y::ys,u::us=>by simp only[mw,dw,Ro (xs:=xs) (ys:=ys) (us:=us)];lia
theorem Ÿ {a b c:cZ}{vs ws:List V}{es fs:List D}(hp:Pr (Al K M F B n) Y vs)(As:Pr (Al K M F B n) es us)(Hf:Pr (Al K M F B n) fs ws)(keep:∀F' G,d9 F F'->d9 B G->d9 F' G->i6 K G a vs/\i6 K G b us/\i6 K G c ws):Bx K M F B (n+1) (LF K [(a,Ã),(b,Ã),(c,Ã)]) (mw Y es fs):=by
 intro i F' G s1 s2 s3;obtain⟨hs,CC,vJ⟩:=keep F' G s1 s2 s3;refine⟨λd hd=>?_,λhl=>⟨λq hq=>?_,?_⟩⟩
 ·obtain⟨x,y,u,hx,hy,hu,rfl⟩:=Rn hd;obtain⟨v,hv,l⟩:=hp.get' hx;obtain⟨v',EZ,l'⟩:=As.get' hy;obtain⟨v2,Kn,l2⟩:=Hf.get' hu;refine⟨λq hq=>?_,λz H2 q=>?_⟩
  ·simp only[dn,iK,or_false]at hq;rcases hq with rfl|rfl|rfl
   ·exact⟨vs,hs,v,hv⟩
   ·exact⟨us,CC,v',EZ⟩
   ·exact⟨ws,vJ,v2,Kn⟩
  ·obtain⟨r,g,hr,rfl,rfl,q⟩:=q;have e1:=hv.symm.trans (q (a,Ã) (by simp) vs hs);have e2:=EZ.symm.trans (q (b,Ã) (by simp) us CC);have e3:=Kn.symm.trans (q (c,Ã) (by simp) ws vJ);rw[dJ,dJ,dJ,nQ,←Option.some.inj e1,←Option.some.inj e2,←Option.some.inj e3];have sm:=s1.trans<|xl (s3.free hr)<|.tup [v,v',v2];exact⟨_,iJ.newS s3 hr _,.inr<|.tup zo<|.cons (l.mono sm<|.refl _)<|.cons (l'.mono sm<|.refl _)<|.cons (l2.mono sm<|.refl _) .nil⟩
 ·simp only[dn,iK,or_false]at hq;rcases hq with rfl|rfl|rfl
  ·exact⟨vs,hs⟩
  ·exact⟨us,CC⟩
  ·exact⟨ws,vJ⟩
 ·rw[Ro,hp.length,As.length,Hf.length]at hl;rcases(by lia:vs.length<=i\/us.length<=i\/ws.length<=i)with h|h|h
  ·exact⟨(a,Ã),by simp,vs,hs,h⟩
  ·exact⟨(b,Ã),by simp,us,CC,h⟩
  ·exact⟨(c,Ã),by simp,ws,vJ,h⟩
def Fz:List D->Option (List D)
 |[.lst xs,.lst ys,.lst us]=>Z<|mw xs ys us
 |_=>S
theorem ZS {kt:Nat}(hm:X.mg "zip"=S)(ha:XA X M L [a,b,c] [n,n,n] fs)(hg:Gl X "zip":=by rfl)(he:dM [a,b,c] X.env=(Ã,eP a X.env)::dM [b,c] X.env:=by rfl)(hp:(gR pos<|dM [b,c] X.env).any (·.1)=Ã:=by rfl) :
  å X M L (n-1+1) (.Tuple uU kt pt) (.Call (.Name "zip" pp) [a,b,c] [] pos) (λO=>(fs O).bind Fz):=by
 obtain⟨t,pt,_,qt⟩:=ha;refine⟨_,Qb (by decide) (by decide) zrk hg hm pt he hp,λF0 B F H O U Y R rs e w=>?_⟩;obtain⟨rZ,h1,h2⟩:=dh e;refine qt F0 B F H O U _ _ rs h1 λvs F' G x l=>?_;cases l with
 |cons h t=>
  cases t with
  |cons h' t=>
   cases t with
   |cons h3 t=>
    cases t;rename_i d v d' v' d3 v3;cases d with
    |lst xs=>
     cases d' with
     |lst ys=>
      cases d3 with
      |lst us=>
       cases h2;obtain⟨a,vs,rfl,ha,hp⟩:=h.lst x.fh;obtain⟨b,us,rfl,hb,As⟩:=h'.lst x.fh;obtain⟨c,ws,rfl,hc,Hf⟩:=h3.lst x.fh;refine⟨[(a,Ã),(b,Ã),(c,Ã)],rfl,rfl,λq hq=>?_,w _ F' G x<|Ÿ hp As Hf λF2 H2 s1 s2 s3=>⟨s2.seq ha,s2.seq hb,s2.seq hc⟩⟩;simp only[dn,iK,or_false]at hq;rcases hq with rfl|rfl|rfl
       ·exact⟨vs,ha⟩
       ·exact⟨us,hb⟩
       ·exact⟨ws,hc⟩
      |_=>cases h2
     |_=>cases h2
    |_=>cases h2
def Gm (T:Str->Int->Str):V->List V->Hp->VK->Prop:=λx vs H Q=>∃y i,x=.str y/\vs=[.int i]/\PadOk i=Â/\Q (.str<|T y i) H
def BO (T:Str->Int->Str):D->D->Option D
 |.str y,.int i=>if PadOk i=Â then Z (.str<|T y i)else S
 |_,_=>S
theorem ZT:FB X "str.ljust" (Gm Txt.ljust):=by intro cW s U H x vs v us Q I rx rv h;obtain⟨y,i,rfl,rfl,hp,q⟩:=h;obtain⟨tk,rfl⟩:=rx;obtain⟨u,rfl,ru⟩:=rv.one;obtain⟨tu,rfl⟩:=ru;exact PySem.SC.ljust hp λt' k=>⟨.str<|Txt.ljust y i,H,I.tok _,⟨t',rfl⟩,q⟩
theorem ZU (ho:XE X M L n o f)(he:XE X M L m e g)(jH:SE X e []:=by rfl)
  (lr:Af X o "ljust":=by rfl)
  (oq:DD X fP [e]:=by rfl)
  (lz:(fG.endLine==fP.line)=Â:=by rfl) (jG:lV X fP []:=by rfl) :
  XE X M L k (.Call (.Attribute o "ljust" fG) [e] [] fP) (e2 (BO Txt.ljust) f g):=by
 obtain⟨ta,pa,qa⟩:=ho;obtain⟨tb,pb,qb⟩:=he;refine⟨_,Fv PySem.F.plainAttrs_str PySem.F.slot_str_ljust PySem.F.type_str_ljust ZT pa (ya pb yz jH) lr oq lz jH jG,λF0 B F H O U d Q rs e w=>?_⟩;obtain⟨d1,d2,h1,h2,h3⟩:=fE e;refine qa F0 B F H O U d1 _ rs h1 λv1 F1 H1 x1 l1=>?_;cases d1 with
 |str y=>
  cases d2 with
  |int i=>
   have h3:(if PadOk i=Â then Z (D.str<|Txt.ljust y i)else S)=Z d:=h3;by_cases hp:PadOk i=Â
   ·rw[if_pos hp]at h3;cases h3;have q1:=Al.scal (F':=F1) l1 rfl;cases q1;refine⟨rfl,qb F0 B F1 H1 O U _ _ (rs.ext x1) h2 λv2 F2 H2 x2 l2=>?_⟩;have q2:=Al.scal (F':=F2) l2 rfl;cases q2;exact⟨y,i,rfl,rfl,hp,w _ F2 H2 (x1.trans x2)<|Al.of<|.str _⟩
   ·rw[if_neg hp]at h3;cases h3
  |_=>cases h3
 |_=>cases h3
theorem ZV:FB X "str.rjust" (Gm Txt.rjust):=by intro cW s U H x vs v us Q I rx rv h;obtain⟨y,i,rfl,rfl,hp,q⟩:=h;obtain⟨tk,rfl⟩:=rx;obtain⟨u,rfl,ru⟩:=rv.one;obtain⟨tu,rfl⟩:=ru;exact PySem.SC.rjust hp λt' k=>⟨.str<|Txt.rjust y i,H,I.tok _,⟨t',rfl⟩,q⟩
theorem ZW (ho:XE X M L n o f)(he:XE X M L m e g)(jH:SE X e []:=by rfl)
  (lr:Af X o "rjust":=by rfl)
  (oq:DD X fP [e]:=by rfl)
  (lz:(fG.endLine==fP.line)=Â:=by rfl) (jG:lV X fP []:=by rfl) :
  XE X M L k (.Call (.Attribute o "rjust" fG) [e] [] fP) (e2 (BO Txt.rjust) f g):=by
 obtain⟨ta,pa,qa⟩:=ho;obtain⟨tb,pb,qb⟩:=he;refine⟨_,Fv PySem.F.plainAttrs_str PySem.F.slot_str_rjust PySem.F.type_str_rjust ZV pa (ya pb yz jH) lr oq lz jH jG,λF0 B F H O U d Q rs e w=>?_⟩;obtain⟨d1,d2,h1,h2,h3⟩:=fE e;refine qa F0 B F H O U d1 _ rs h1 λv1 F1 H1 x1 l1=>?_;cases d1 with
 |str y=>
  cases d2 with
  |int i=>
   have h3:(if PadOk i=Â then Z (D.str<|Txt.rjust y i)else S)=Z d:=h3;by_cases hp:PadOk i=Â
   ·rw[if_pos hp]at h3;cases h3;have q1:=Al.scal (F':=F1) l1 rfl;cases q1;refine⟨rfl,qb F0 B F1 H1 O U _ _ (rs.ext x1) h2 λv2 F2 H2 x2 l2=>?_⟩;have q2:=Al.scal (F':=F2) l2 rfl;cases q2;exact⟨y,i,rfl,rfl,hp,w _ F2 H2 (x1.trans x2)<|Al.of<|.str _⟩
   ·rw[if_neg hp]at h3;cases h3
  |_=>cases h3
 |_=>cases h3
theorem ZX:FB X "str.zfill" (Gm Txt.zfill):=by intro cW s U H x vs v us Q I rx rv h;obtain⟨y,i,rfl,rfl,hp,q⟩:=h;obtain⟨tk,rfl⟩:=rx;obtain⟨u,rfl,ru⟩:=rv.one;obtain⟨tu,rfl⟩:=ru;exact PySem.SC.zfill hp λt' k=>⟨.str<|Txt.zfill y i,H,I.tok _,⟨t',rfl⟩,q⟩
theorem ZY (ho:XE X M L n o f)(he:XE X M L m e g)(jH:SE X e []:=by rfl)
  (lr:Af X o "zfill":=by rfl)
  (oq:DD X fP [e]:=by rfl)
  (lz:(fG.endLine==fP.line)=Â:=by rfl) (jG:lV X fP []:=by rfl) :
  XE X M L k (.Call (.Attribute o "zfill" fG) [e] [] fP) (e2 (BO Txt.zfill) f g):=by
 obtain⟨ta,pa,qa⟩:=ho;obtain⟨tb,pb,qb⟩:=he;refine⟨_,Fv PySem.F.plainAttrs_str PySem.F.slot_str_zfill PySem.F.type_str_zfill ZX pa (ya pb yz jH) lr oq lz jH jG,λF0 B F H O U d Q rs e w=>?_⟩;obtain⟨d1,d2,h1,h2,h3⟩:=fE e;refine qa F0 B F H O U d1 _ rs h1 λv1 F1 H1 x1 l1=>?_;cases d1 with
 |str y=>
  cases d2 with
  |int i=>
   have h3:(if PadOk i=Â then Z (D.str<|Txt.zfill y i)else S)=Z d:=h3;by_cases hp:PadOk i=Â
   ·rw[if_pos hp]at h3;cases h3;have q1:=Al.scal (F':=F1) l1 rfl;cases q1;refine⟨rfl,qb F0 B F1 H1 O U _ _ (rs.ext x1) h2 λv2 F2 H2 x2 l2=>?_⟩;have q2:=Al.scal (F':=F2) l2 rfl;cases q2;exact⟨y,i,rfl,rfl,hp,w _ F2 H2 (x1.trans x2)<|Al.of<|.str _⟩
   ·rw[if_neg hp]at h3;cases h3
  |_=>cases h3
 |_=>cases h3
noncomputable def BR (c n:Nat):Str:=⟨B9 n c⟩
theorem Û (c:Nat):∀(n:Nat) (kD:Array Nat),(dg n #[c]).foldl (· ++ ·) kD=kD++B9 n c
 |0,kD=>by simp
 |n+1,kD=>by rw[fQ,C6,Û c n,AH];congr 1;apply rO.mp;simp[fQ]
theorem Ϣ (c:Nat)(i:Int):Txt.mul ⟨#[c]⟩ i=BR c i.toNat:=by
 unfold Txt.mul BR;by_cases h:i<1
 ·rw[if_pos h,show i.toNat=0 by lia];rfl
 ·rw[if_neg h];by_cases h1:i=1
  ·subst h1;rfl
  ·rw[if_neg (by
    have:(i==1)=Ã:=by simpa using h1
    rw[this];exact di)]
   rw[Û];simp
def Fd:R2:=λx y H Q=>∃c i,x=.str ⟨#[c]⟩/\y=.int i/\-1000000<=i/\i<=1000000/\Q (.str<|BR c i.toNat) H
def Ge:D->D->Option D
 |.str y,.int i=>match y.cps.toList with
  |[c]=>if -1000000<=i/\i<=1000000 then Z (.str<|BR c i.toNat)else S
  |_=>S
 |_,_=>S
theorem Rp:lI X (iu .Mult) Fd:=by
 intro cW s U H x y v u Q I rx ry h;obtain⟨c,i,rfl,rfl,h1,h2,q⟩:=h;obtain⟨t,rfl⟩:=rx;obtain⟨t',rfl⟩:=ry;refine PySem.SB.mul ⟨?_,λh3 h4=>?_,λh3 h4=>?_⟩ λtk kk=>⟨.str<|BR c i.toNat,H,I.tok _,⟨tk,by rw[Ϣ]⟩,q⟩
 ·rw[decide_eq_false<|by lia,decide_eq_false<|by lia];rfl
 ·have h5:((⟨#[c]⟩:Str).length:Int)=1:=rfl;rw[h5];have:1<=(2 ^ 63-1:Int)/i:=Int.le_ediv_of_mul_le (by lia) (by lia);lia
 ·unfold Builtin.Str.tooLong;have h5:(⟨#[c]⟩:Str).length=1:=rfl;rw[h5];apply decide_eq_false;unfold sizeLine;lia
theorem RM:sK K M n m k Fd Ge:=by
 intro F H x y d1 d2 d Q s l1 l2 e w;cases d1 with
 |str z=>
  cases d2 with
  |int i=>
   have e:(match z.cps.toList with|[c]=>if -1000000<=i/\i<=1000000 then Z (D.str<|BR c i.toNat)else S|_=>S)=Z d:=e;split at e
   ·rename_i c hz;by_cases hb:-1000000<=i/\i<=1000000
    ·rw[if_pos hb]at e;cases e;have q1:=Al.scal (F':=F) l1 rfl;cases q1;have q2:=Al.scal (F':=F) l2 rfl;cases q2;have:z=⟨#[c]⟩:=by cases z with|mk cps=>exact congrArg Str.mk (rO.mp hz)
     exact⟨c,i,by rw[this],rfl,hb.1,hb.2,w _ F H (.refl s)<|Al.of<|.str _⟩
    ·rw[if_neg hb]at e;cases e
   ·cases e
  |_=>cases e
 |_=>cases e
def gSb (i:Nat)(fj:EF):D->Env->Option Env:=λd O=>(J i O).bind λo=>(fj O).bind λj=>match o,j with
 |.lst Y,.int z=>(Bi Y z d).bind λrZ=>Z<|O.set i<|Z<|.lst rZ
 |_,_=>S
def Qi (f g:EF):SF:=λO=>(f O).bind λo=>(g O).bind λ_=>match o with
 |.lst Y=>if Y.length<16777216 then Z (.nx O)else S
 |_=>S
def A9:List D->Option (List Int)
 |[]=>Z []
 |.int i::Y=>if 0<=i/\i<16384 then(A9 Y).bind λns=>Z (i::ns)else S
 |_=>S
def HX:D->Option D
 |.lst Y=>(A9 Y).bind λns=>if ns.length<=100 then Z (.lst Y)else S
 |_=>S
theorem QW {K:cX}{F:Hp}:∀{Y:List D} {ns:List Int} {vs:List V},A9 Y=Z ns->Pr (Dt K M F) Y vs->vs=ns.map V.int/\Y=ns.map D.int/\∀i∈ns,0<=i/\i<16384
 |[],_,_,h,.nil=>by cases h;exact⟨rfl,rfl,λ_ z=>by cases z⟩
 |.int i::Y,ns,_,h,.cons l t=>by
  unfold A9 at h;by_cases hi:0<=i/\i<16384
  ·rw[if_pos hi]at h;obtain⟨L,h1,h2⟩:=dh h;cases h2;obtain⟨r1,r2,r3⟩:=QW h1 t;cases l;refine⟨by rw[r1];rfl,by rw[r2];rfl,λj z=>?_⟩;rcases dn.mp z with rfl|z
   ·exact hi
   ·exact r3 j z
  ·rw[if_neg hi]at h;cases h
theorem CO {K:cX}{F:Hp}:∀ns:List Int,Pr (Dt K M F) (ns.map D.int) (ns.map V.int)
 |[]=>.nil
 |n::ns=>.cons (.int n)<|CO ns
def vG (K:cX)(f:Str)(C:cZ):Sp:=λvs H Q _=>∃a p ns,vs=[.ref a,.ref p]/\H a=Z (nN a C S S)/\i6 K H p (ns.map V.int)/\Ak ns /\
 ∀l dx,H l=S->H dx=S->l≠a->dx≠a->dx≠l->Q .non (upd (upd (upd H l<|.lst<|ns.map V.int) dx<|.xd [(f,.ref l)]) a<|nN a C (Z dx) S)
theorem vG.len {f:Str}:∀vs H Q E,vG K f C vs H Q E->vs.length=[y,z].length:=by rintro vs H Q E ⟨a,p,ns,rfl,_⟩;rfl
theorem Zn {w:d5}{fn:Str}{fd:c9}(Fn:Þ K "__init__" qual st fa fd)(S':eK [N0,N1] [N0,N1]<|dH st)(cl:wA K C)(hd:eF K C=Â/\dI K (.ref C) "__setattr__"=Z (Z<|.builtin "object.__setattr__")/\ft K C fn=Z S)
  (body:∀(gH:cU) (A:dO) (outer:List PySem.Env) (s:de) (H:Hp) (E:XK),fw kk (A.deeper<|envOfC qual (dH st) s.heap.objs.size fa gH)->tG (nj fL P w K mg base [N0,N1] qual (dH st) fa gH A outer s H E).nox (gz st) (Eo (Bk<|wZ K (rM 0)<|λU H Q=>rM 1 U H λv H1=>HE K H1 v/\∀x,Q (.str x) H1)<|Bl K fn (NG (λxs H Q=>∃p ys,xs=[.ref p]/\(i6 K H p ys\/oP K H p ys)/\∀l,H l=S->Q (.ref l) (upd H l<|.lst ys))<|Fi (rM 1) El)<|rM 0)) :
  dR P w K mg base fL (kk+1) fa fd [N0,N1] (vG K fn C):=by
 refine Fn.ok S' vG.len λgH A outer s H vs Q E hr h=>?_;obtain⟨a,p,ns,rfl,ha,hq,hs,q⟩:=h;refine⟨_,body gH A outer s H E hr,.ref a,rfl,.ref p,rfl,⟨p,ns,rfl,hq,hs⟩,λx=>⟨a,C,S,S,rfl,cl,ha,?_⟩⟩;refine⟨.ref p,rfl,p,_,rfl,.inl hq,λl hl=>⟨.ref a,rfl,a,C,S,rfl,cl,hd.1,hd.2.1,hd.2.2,?_,λdx h1 h2=>?_⟩⟩
 ·rw[zn<|zp ha hl];exact ha
 ·have hdl:dx≠l:=λz=>by rw[z,zo]at h1;cases h1
  rw[zn hdl]at h1;exact q l dx hl h1 (Ne.symm<|zp ha hl) h2 hdl
theorem zpa {fn:Str}{fd:c9}(cl:wA X.K<|M c0)(FO:dQ X.K (.ref<|M c0)=Â)(hi:dI X.K (.ref<|M c0) "__init__"=Z (Z<|.ref fa))(zS:jM X.K (.ref fa)=Â)(Fn:dR X.prog X.w X.K X.mg X.base fL kk fa fd ps<|vG X.K fn<|M c0)(hr:fw (kk+1) X.A)(hm:X.mg x=Z (.ref<|M c0))(hb:fK X.K fd ps [])
  (he:XE X M L 0 e f) (hg:Gl X x:=by rfl) (jS:iM x:=by decide) (jH:SE X e []:=by rfl) (iD:lV X pos []:=by rfl) :
  XR X M L (.Call (.Name x pp) [e] [] pos) (λO=>(f O).bind λd=>(HX d).bind λd=>Z<|.exc c0 [fn] [d]):=by
 obtain⟨t,pt,qt⟩:=he;refine⟨_,Ob cl FO hi zS Fn hr hg hm hb (ya pt yz jH) jS jH iD,λF0 B F H O U d Q rs e w=>?_⟩;obtain⟨d1,h1,h2⟩:=dh e;obtain⟨d2,h3,h4⟩:=dh h2;cases h4;refine qt F0 B F H O U d1 _ rs h1 λv F1 H1 x1 l=>⟨by simp,λa ha=>?_⟩;cases d1 with
 |lst Y=>
  obtain⟨ns,h5,h6⟩:=dh h3;by_cases hl:ns.length<=100
  ·rw[if_pos hl]at h6;cases h6;have l:Dt X.K M F1 (.lst Y) v:=l;cases l with
   |@lst p vs _ q t=>
    obtain⟨rfl,rfl,hs⟩:=QW h5 t.pr;refine⟨a,p,ns,rfl,zo,?_,⟨hl,hs⟩,λl dx Do Dn MI oQ hdl=>⟨rfl,?_⟩⟩
    ·exact(x1.fh.trans<|xl ha _).seq q
    ·have U6:H1 l=S:=by rw[zn MI]at Do;exact Do
     have Cv:H1 dx=S:=by rw[zn oQ]at Dn;exact Dn
     have hH:upd (upd (upd (upd H1 a<|nN a (M c0) S S) l<|.lst<|ns.map V.int) dx<|.xd [(fn,.ref l)]) a (nN a (M c0) (Z dx) S)=upd (upd (upd H1 l<|.lst<|ns.map V.int) dx<|.xd [(fn,.ref l)]) a (nN a (M c0) (Z dx) S):=by
      funext b;by_cases h1:b=a
      ·rw[h1,zo,zo]
      ·rw[zn h1,zn h1];by_cases h2:b=dx
       ·rw[h2,zo,zo]
       ·rw[zn h2,zn h2];by_cases h3:b=l
        ·rw[h3,zo,zo]
        ·rw[zn h3,zn h3,zn h1]
     rw[hH];have x2:iJ F1 H1 (upd F1 l<|.lst<|ns.map V.int) (upd H1 l<|.lst<|ns.map V.int):=iJ.newS x1.fh U6 _;have MB:upd H1 l (.lst<|ns.map V.int) dx=S:=by rw[zn hdl];exact Cv
     have x3:=iJ.newS x2.fh MB<|.xd [(fn,.ref l)];have DW:upd (upd H1 l<|.lst<|ns.map V.int) dx (.xd [(fn,.ref l)]) a=S:=by rw[zn<|Ne.symm oQ,zn<|Ne.symm MI];exact ha
     have x4:=iJ.newO x3.fh DW<|nN a (M c0) (Z dx) S;refine w a _ _ c0 [fn] [.lst<|ns.map D.int] (Z dx) (((x1.trans x2).trans x3).trans x4) (x1.hh.free ha) rfl ?_ cl ⟨zo,λT z=>by cases z⟩ (.inr ⟨dx,[.ref l],rfl,zo,rfl,.cons (.lst (i6.of<|by rw[zn<|Ne.symm hdl,zo])<|.of ?_) .nil⟩)
     ·rw[zn<|Ne.symm oQ,zn<|Ne.symm MI];exact x1.fh.free ha
     ·exact CO ns
  ·rw[if_neg hl]at h6;cases h6
 |_=>cases h3
def oI:D->D->Option D
 |.str y,.str z=>if(z.length==0)=Ã/\y.length<=16777216/\(Txt.split y z).length<=16777216 then Z (.lst<|(Txt.split y z).map .str)else S
 |_,_=>S
theorem Si {K:cX}{F:Hp}:∀l:List Str,Pr (Dt K M F) (l.map D.str) (l.map V.str)
 |[]=>.nil
 |x::l=>.cons (.str x)<|Si l
theorem RN (ho:XE X M L n o f)(he:XE X M L m e g)(jH:SE X e []:=by rfl)
  (lr:Af X o "split":=by rfl)
  (oq:DD X fP [e]:=by rfl)
  (lz:(fG.endLine==fP.line)=Â:=by rfl) (jG:lV X fP []:=by rfl) :
  XO X M L 1 (.Call (.Attribute o "split" fG) [e] [] fP) (e2 oI f g):=by
 obtain⟨ta,pa,qa⟩:=ho;obtain⟨tb,pb,qb⟩:=he;refine⟨_,Fv PySem.F.plainAttrs_str PySem.F.slot_str_split PySem.F.type_str_split Z0 pa (ya pb yz jH) lr oq lz jH jG,λF0 B F H O U d Q rs e w=>?_⟩;obtain⟨d1,d2,h1,h2,h3⟩:=fE e;refine qa F0 B F H O U d1 _ rs h1 λv1 F1 H1 x1 l1=>?_;cases d1 with
 |str y=>
  cases d2 with
  |str z=>
   have h3:(if(z.length==0)=Ã/\y.length<=16777216/\(Txt.split y z).length<=16777216 then Z (D.lst<|(Txt.split y z).map .str)else S)=Z d:=h3;by_cases hp:(z.length==0)=Ã/\y.length<=16777216/\(Txt.split y z).length<=16777216
   ·rw[if_pos hp]at h3;cases h3;have q1:=Al.scal (F':=F1) l1 rfl;cases q1;refine⟨rfl,qb F0 B F1 H1 O U _ _ (rs.ext x1) h2 λv2 F2 H2 x2 l2=>?_⟩;have q2:=Al.scal (F':=F2) l2 rfl;cases q2;refine⟨y,z,rfl,rfl,hp.1,by rw[eD];exact hp.2.1,by rw[eD];exact hp.2.2,vz x2.fh (Si _) λv F' G fp x o nd hf=>w v F' G fp ((x1.trans x2).trans x) o nd λz hz=>(x1.trans x2).hh.free<|hf z hz⟩
   ·rw[if_neg hp]at h3;cases h3
  |_=>cases h3
 |_=>cases h3
theorem Pr.every2 {vs:List V}(h:Pr R Y vs):Pr R (L2.every2 Y) (L2.every2 vs):=by
 have:∀(n:Nat) (Y:List D) (vs:List V),Y.length<=n->Pr R Y vs->Pr R (L2.every2 Y) (L2.every2 vs):=by
  intro n;induction n with
  |zero=>
   intro xs us hl r;cases r with
   |nil=>exact .nil
   |cons _ _=>simp at hl
  |succ n ih=>
   intro xs us hl r;cases r with
   |nil=>exact .nil
   |cons h t=>
    cases t with
    |nil=>exact .cons h .nil
    |cons h2 t2=>exact .cons h (ih _ _ (by simp at hl;lia) t2)
 exact this _ _ _ (dE _) h
theorem K4 {sl sp:Expr}(hn:n<=1)(he:XE X M L n e f)(hl:XE X M L m sl<|eC<|.int i)(hp:XE X M L k sp<|eC<|.int 2):XO X M L 1 (.Subscript e (.Slice (Z sl) S (Z sp) p1) pos) (λO=>((Ú f) O).bind λY=>Z<|.lst<|every2<|Y.drop i):=by obtain⟨t,pt,qt⟩:=he;obtain⟨t1,yL,yO⟩:=hl;obtain⟨t2,sR,sX⟩:=hp;refine⟨_,zrm pt (Oz yL)<|Oz sR,λF0 B F H O U r Q rs e w=>?_⟩;obtain⟨Y,h1,h2⟩:=dh e;cases h2;obtain⟨d,h3,h4⟩:=dh h1;rw[qj h4]at h3;refine qt F0 B F H O U _ _ rs h3 λv F1 H1 x1 l1=>?_;refine yO F0 B F1 H1 O U (.int i) _ (rs.ext x1) rfl λu F2 H2 x2 l2=>⟨_,l2.int,?_⟩;refine sX F0 B F2 H2 O U (.int 2) _ ((rs.ext x1).ext x2) rfl λu F3 H3 x3 l3=>⟨_,l3.int,?_⟩;have pf:=x2.trans x3;obtain⟨a,vs,rfl,ha,hp⟩:=Al.lst1 hn (l1.mono pf.ff pf.hh) pf.fh;exact⟨i,a,vs,rfl,rfl,rfl,ha,vz pf.fh (hp.drop i).every2 λv F' G fp x o nd hf=>w v F' G fp ((x1.trans pf).trans x) o nd λz hz=>(x1.trans pf).hh.free<|hf z hz⟩
def mH:List D->Option D
 |[.str y]=>if y.length<=640 then(PySem.intText? y).bind λi=>Z (.int i)else S
 |_=>S
theorem yg:Dh K M [n] k (λxs H Q=>∃y i,xs=[.str y]/\PySem.intText? y=Z i/\y.length<=640/\Q (.int i) H) mH:=by
 intro F H vs Y d Q s l e w;cases l with
 |cons h t=>
  cases t;rename_i d0 v0;cases d0 with
  |str y=>
   have e:(if y.length<=640 then(PySem.intText? y).bind λi=>Z (D.int i)else S)=Z d:=e;by_cases hl:y.length<=640
   ·rw[if_pos hl]at e;obtain⟨i,h1,h2⟩:=dh e;cases h2;exact⟨y,i,by rw[h.str],h1,hl,w _ F H (.refl s)<|Al.of<|.int i⟩
   ·rw[if_neg hl]at e;cases e
  |_=>cases e
def yB (H:Hp)(f:List cZ):Hp:=λb=>if b∈f then S else H b
theorem Y9 (H:Hp)(f:List cZ):d9 (yB H f) H:=λb o h=>by
 unfold yB at h;by_cases e:b∈f
 ·rw[if_pos e]at h;cases h
 ·rw[if_neg e]at h;exact h
theorem ϡ {f:List cZ}{b:cZ}(h:b∈f):yB H f b=S:=if_pos h
theorem OJ {f:List cZ}{b:cZ}(h:b∉f):yB H f b=H b:=if_neg h
def uN (K:cX)(M:Nat->cZ)(n m:Nat)(mf:List D->Option D):Sp:=λvs H Q _=>∃(F:Hp) (Y es:List D) (us ws:List V) (d p p':D) (a:cZ) (f:List cZ),vs=us ++ .ref a::ws/\Y.length=n/\es.length=m/\d9 F H/\Pr (Dt K M F) Y us/\Pr (Dt K M F) es ws/\Ow K M F H 1 p (.ref a) f/\f.Nodup/\mf (Y++p::es)=Z (.tup [d,p']) /\
 ∀v F' G f',d9 F F'->(∀x o,H x=Z o->x∉f->G x=Z o)->d9 F' G->(∀x o,H x=Z o->x∉f->mh o->F x=S->F' x=S)->Ow K M F' G 1 p' (.ref a) f'->f'.Nodup->(∀x∈f',x∈f\/H x=S)->Dt K M F' d v->Q v G
theorem uN.len (h:n+1+m=ps.length):∀vs H Q E,uN K M n m mf vs H Q E->vs.length=ps.length:=by rintro vs H Q E ⟨F,Y,es,us,ws,d,p,p',a,f,rfl,hn,hm,_,l,l2,_⟩;rw[←h,←hn,←hm,l.length,l2.length,d7,dw];lia
def á (n:Nat)(N:List Str)(bf:EM)(Y:List D):Option D:=(bf<|Î N Y).bind λr=>(r.2[n]?).join.bind λp=>Z<|.tup [r.1,p]
theorem xk {w:d5}{fd:c9}{bf:EM}(Fn:Þ K x qual st fa fd)(S':eK N ps<|dH st)(Au:n+1+m=ps.length)(CB:n+1+m+L.length=N.length)
  (body:∀(a:cZ) (gH:cU) (A:dO) (outer:List PySem.Env) (s:de) (H:Hp) (E:XK),fw kk (A.deeper<|envOfC qual (dH st) s.heap.objs.size fa gH)->By (nj fL P w K mg base N qual (dH st) fa gH A outer s H E).nox M (dg n (Mo.ow 0) ++ .so a::(dg m (Mo.ow 0)++L)) (gz st) bf) :
  dR P w K mg base fL (kk+1) fa fd ps (uN K M n m<|á n N bf):=by
 refine Fn.ok S' (uN.len Au) λgH A outer s H vs Q E hr h=>?_;obtain⟨F,Y,es,us,ws,d,p,p',a,f,rfl,hn,Iv,sF,l,l2,oa,nf,hm,z⟩:=h;subst hn Iv;obtain⟨t,pt,qt⟩:=body a gH A outer s H E hr;refine⟨t,pt,?_⟩;obtain⟨⟨d1,ρ'⟩,h1,h2⟩:=dh hm;obtain⟨p1,h3,h4⟩:=dh h2;cases h4;refine qt F (yB H f) F H (Î N (Y++p::es)) ρ' (L2.start N (us ++ .ref a::ws)) d1 _ ⟨.refl _,Y9 _ _,sF,λ_ _ _ _ h=>h,f++[],?_,by rw[d6];exact nf,λy hy=>ϡ<|by rwa[d6]at hy⟩ h1 ?_
 ·have e1:Î N (Y++p::es)=Y.map Z++(Z p::(es.map Z++dg L.length S)):=by unfold Î;rw[show N.length-(Y++p::es).length=L.length by rw[d7,dw];lia];simp
  have e2:L2.start N (us ++ .ref a::ws)=us.map Z++(Z (.ref a)::(ws.map Z++dg L.length S)):=by unfold L2.start;rw[show N.length-(us++V.ref a::ws).length=L.length by rw[d7,dw,←l.length,←l2.length];lia];simp
  rw[e1,e2];have q2:=SL.app (SL.none (K:=K) (M:=M) (F:=F) (B:=yB H f) (H:=H) L)<|SL.start0 (B:=yB H f) (H:=H) l2;have q3:=SL.app (SL.so oa q2)<|SL.start0 (B:=yB H f) (H:=H) l;exact q3
 ·intro v σ' F' G r dt;obtain⟨f',_,o1,n1,b1,_⟩:=r.pin (i:=Y.length) (x0:=a) (by simp)<|zq h3;refine z v F' G f' r.f0 (λy o hy n1=>r.bh _ _<|by rw[OJ n1];exact hy) r.fh (λy o hy ny t hn=>r.nf y o (by rw[OJ ny];exact hy) t hn) o1 n1 (λy hy=>?_) dt;by_cases e:y∈f
  ·exact .inl e
  ·exact .inr<|(OJ e).symm.trans<|b1 y hy
section
def oh (K:cX)(M:Nat->cZ)(L:List Mo)(i:Nat):Prop:=∀(F0 B F H:Hp) (O:Env) (U:St) (p:D),RS K M F0 B L F H O U->O[i]?=Z (Z p)->nk p=Â ->
 ∃a f,U[i]?=Z (Z<|.ref a)/\Ow K M F H 1 p (.ref a) f/\f.Nodup/\(∀y∈f,B y=S) /\
  ∀(F' G:Hp) (p':D) (f':List cZ),d9 F F'->(∀x o,H x=Z o->x∉f->G x=Z o)->d9 F' G->(∀x o,H x=Z o->x∉f->mh o->F x=S->F' x=S)->Ow K M F' G 1 p' (.ref a) f'->f'.Nodup->(∀x∈f',x∈f\/H x=S)->RS K M F0 B L F' G (O.set i<|Z p') U
theorem An (Dp:L[i]?=Z (.ow 1)):oh K M L i:=λF0 B F H O U p rs hp cp=>by
 obtain⟨f1,fr,n1,b1,dj,i4,cf,put⟩:=rs.put (F':=F) (G:=H) Dp;obtain⟨v,hσ,ow⟩:=i4 p hp;obtain⟨a,f,rfl,rfl⟩:=ow.cell cp;refine⟨a,_,hσ,ow,n1,b1,λF' G p' f' s1 kH s3 nf o1 D6 DV=>?_⟩;have nB:∀{y o},B y=Z o->y∉a::f:=λhy z=>by rw[b1 _ z]at hy;cases hy
 have r:=put F' G p' (.ref a) f' s1 (λy o hy=>kH y o (rs.bh _ _ hy)<|nB hy) s3 (λy o hy t hn=>nf y o (rs.bh _ _ hy) (nB hy) t<|rs.nf y o hy t hn) (λy hy=>by
  obtain⟨hn,o,ho,nt⟩:=cf y hy;have ny:y∉a::f:=λz=>dj y z hy;exact⟨(kH y o ho ny).trans ho.symm,nf y o ho ny nt hn⟩) o1 D6 (λy hy zb=>(DV y hy).elim (λz=>dj y z zb) λe=>by
  obtain⟨hn,o,ho,nt⟩:=cf y zb;rw[e]at ho;cases ho)<|λy hy=>(DV y hy).elim (b1 y) λe=>rs.bh.free e
 rw[Oq hσ]at r;exact r
theorem rF {a:cZ}(h:L[i]?=Z (.so a)):oh K M L i:=λF0 B F H O U p rs hp hc=>by obtain⟨f,h1,h2,n,hB,put⟩:=rs.pin h hp;refine⟨a,f,h1,h2,n,hB,λF' G p' f' s1 kH s3 nf o1 D6 DV=>put F' G p' f' s1 kH s3 nf (λy o hy t hn=>nf y o (rs.bh _ _ hy) (λz=>by rw[hB _ z]at hy;cases hy) t<|rs.nf y o hy t hn) o1 D6 DV⟩
def G2 (X:Cx)(M:Nat->cZ)(L:List Mo)(es:List Expr)(g:Env->Option (List D)):Prop:=∃t,PA X es t/\∀(F0 B F H:Hp) (O:Env) (U:St) (es:List D) (Q:List V->Hp->Prop),RS X.K M F0 B L F H O U->g O=Z es->(∀ws F' G,iJ F H F' G->Pr (Dt X.K M F') es ws->Q ws G)->t U H Q
theorem wt:G2 X M L [] Å:=⟨_,yz,λF0 B F H O U es Q rs e z=>by cases e;exact z [] F H (.refl rs.fh) .nil⟩
theorem yn (h1:XE X M L 0 a f)(h2:G2 X M L es fs)(hs:SE X a es:=by rfl):G2 X M L (a::es) (Ä f fs):=by obtain⟨t,pt,qt⟩:=h1;obtain⟨t2,sR,sX⟩:=h2;refine⟨_,ya pt sR hs,λF0 B F H O U Y Q rs e z=>?_⟩;obtain⟨d,rZ,g1,g2,g3⟩:=fE e;cases g3;refine qt F0 B F H O U d _ rs g1 λv F1 H1 x1 l=>?_;exact sX F0 B F1 H1 O U rZ _ (rs.ext x1) g2 λus F2 H2 x2 l2=>z (v::us) F2 H2 (x1.trans x2)<|.cons (Dt.mono x2.ff l) l2
variable {fd:c9}
end
mutual
inductive KC (K:cX):D->cU->Prop
 |non:KC K .non .none
 |int {i:Int} {t:Tok}:KC K (.int i) (.int i t)
 |str {x:Str} {t:Tok}:KC K (.str x) (.str x t)
 |kt {a:cZ} {od:Option cZ} {eG:Array cU} {n:Nat} {sl:Array (Option cU)} {Y:List D}:K.lookup a=Z ⟨.type "tuple",od,.seq eG n,sl⟩->eG.size<=1000->û K Y eG.toList->KC K (.kt Y) (.ref a)
inductive û (K:cX):List D->List cU->Prop
 |nil:û K [] []
 |cons {d:D} {u:cU} {Y:List D} {us:List cU}:KC K d u->û K Y us->û K (d::Y) (u::us)
end
theorem KC.dt {u:cU}(h:KC K d u):∃v,Ì v u/\∀F,Dt K M F d v :=
 KC.rec (motive_1:=λd u _=>∃v,Ì v u/\∀F,Dt K M F d v) (motive_2:=λY us _=>∃vs,eh vs us/\∀F,Ü K M F Y vs) ⟨.non,rfl,λ_=>.non⟩ (λ{i t}=>⟨.int i,⟨t,rfl⟩,λ_=>.int i⟩) (λ{x t}=>⟨.str x,⟨t,rfl⟩,λ_=>.str x⟩)
  (λ{a} _ _ _ _ _ l z _ ⟨vs,r,q⟩=>⟨.ref a,rfl,λF=>.kt ⟨_,_,_,l,rfl,rfl,ò z,r⟩<|q F⟩) ⟨[],.nil,λ_=>.nil⟩ (λ_ _ ⟨v,r,q⟩ ⟨vs,rs,qs⟩=>⟨v::vs,.cons r rs,λF=>.cons (q F)<|qs F⟩) h
class inductive KL (K:cX):List (Str×D)->List (Str×cU)->Prop
 |nil:KL K [] []
 |cons {k:Str} {d:D} {u:cU} {ts:List (Str×D)} {U':List (Str×cU)}:KC K d u->KL K ts U'->KL K ((k,d)::ts) ((k,u)::U')
variable {U':List (Str×cU)}{ts:List (Str×D)}
theorem KL.look (h:KL K ts U')(x:Str):(U'.lookup x).isSome=(ts.lookup x).isSome/\∀d,ts.lookup x=Z d->∃u,U'.lookup x=Z u/\KC K d u:=by
 induction h with
 |nil=>exact⟨rfl,λd e=>by cases e⟩
 |@cons k d u ts U' q t ih=>
  rw[dC,dC];cases x==k with
  |true=>exact⟨rfl,λd' e=>by cases e;exact⟨u,rfl,q⟩⟩
  |false=>exact ih
def KG (K:cX)(w:d5)(mg:Str->Option cU)(x:Str)(ts:List<|Str×D):Prop:=∃da U',KD K w mg x da U'/\KL K ts U'
def M9 (ts:List<|Str×D):D->Option D
 |.str k=>ts.lookup k
 |_=>S
def CI (neg:Bool)(ts:List<|Str×D):D->Option D
 |.str k=>Z<|.bl<|if neg then !(ts.lookup k).isSome else(ts.lookup k).isSome
 |_=>S
section
variable {p:my}
theorem Tw (h:∃u,X.mg x=Z u/\KC X.K d u)(hg:Gl X x:=by rfl)(hd:iM x:=by decide):XE X M L n (.Name x pos) (eC d):=by obtain⟨u,hm,q⟩:=h;obtain⟨v,r,q⟩:=q.dt (M:=M);refine⟨_,K2 hg hm r hd,λF0 B F H O U d' Q rs e w=>?_⟩;cases e;exact w _ F H (.refl rs.fh)<|Al.of<|q F
theorem Tx (W':KG X.K X.w X.mg x ts)(he:XE X M L n e f)(hg:Gl X x:=by rfl)(hs:vY e:=by exactλ_ _=>rfl)(hd:iM x:=by decide):XE X M L k (.Subscript (.Name x p) e pos) (e1 (M9 ts) f):=by
 obtain⟨da,U',D,l⟩:=W';obtain⟨t,pt,qt⟩:=he;refine⟨_,Ņ D hg pt hs hd,λF0 B F H O U d Q rs e w=>?_⟩;obtain⟨y,h1,h2⟩:=dh e;refine qt F0 B F H O U y _ rs h1 λv F1 H1 x1 l1=>?_;cases y with
 |str z=>obtain⟨u,h3,h4⟩:=(l.look z).2 d h2;obtain⟨v',r,q⟩:=h4.dt (M:=M);exact⟨z,u,v',l1.str,h3,r,w v' F1 H1 x1<|Al.of<|q F1⟩
 |_=>cases h2
theorem Ϡ (W':KG X.K X.w X.mg x ts)(he:XE X M L n e f)(hg:Gl X x:=by rfl)(hd:iM x:=by decide)(hm:gh .In (.Name x p)=Ã:=by rfl):XT X M L (.Compare e [.In] [.Name x p] pos) (tb<|e1 (CI Ã ts) f):=by
 obtain⟨da,U',D,l⟩:=W';obtain⟨t,pt,qt⟩:=he;refine⟨_,Li (zrh D hg pt hd) hm,λF0 B F H O U b Q rs e w=>?_⟩;obtain⟨d,h0,h4⟩:=dh e;obtain⟨y,h1,h2⟩:=dh h0;refine qt F0 B F H O U y _ rs h1 λv F1 H1 x1 l1=>?_;cases y with
 |str z=>cases h2;cases h4;refine⟨z,l1.str,_,rfl,?_⟩;rw[(l.look z).1];exact w F1 H1 x1
 |_=>cases h2
theorem YA (W':KG X.K X.w X.mg x ts)(he:XE X M L n e f)(hg:Gl X x:=by rfl)(hd:iM x:=by decide)(hm:gh .NotIn (.Name x p)=Ã:=by rfl):XT X M L (.Compare e [.NotIn] [.Name x p] pos) (tb<|e1 (CI Â ts) f):=by
 obtain⟨da,U',D,l⟩:=W';obtain⟨t,pt,qt⟩:=he;refine⟨_,Li (Yv D hg pt hd) hm,λF0 B F H O U b Q rs e w=>?_⟩;obtain⟨d,h0,h4⟩:=dh e;obtain⟨y,h1,h2⟩:=dh h0;refine qt F0 B F H O U y _ rs h1 λv F1 H1 x1 l1=>?_;cases y with
 |str z=>cases h2;cases h4;refine⟨z,l1.str,_,rfl,?_⟩;rw[(l.look z).1];exact w F1 H1 x1
 |_=>cases h2
def GS:List D->Option (List D)
 |[.lst xs,.kt ys]=>Z<|uF xs ys
 |_=>S
theorem ϟ (us:List cU)(h:us.length=2):checkTypeCall "zip" ⟨us,[]⟩=pure ()/\checkBuiltinCall "zip.__new__" ⟨.type "zip"::us,[]⟩=pure ()/\∀obj,argsOk "object.__init__" ⟨obj::us,[]⟩:=by
 match us,h with
 |[a,b],_=>exact⟨F.typeCall_zip_2 _ _,F.newCall_zip_2 _ _,λobj=>F.args_object_init_3 obj _ _⟩
theorem S7 {kt:Nat}(hm:X.mg "zip"=S)(ha:XA X M L [a,b] [0,0] fs)(hg:Gl X "zip":=by rfl)(he:dM [a,b] X.env=(Ã,eP a X.env)::dM [b] X.env:=by rfl)(hp:(gR pos<|dM [b] X.env).any (·.1)=Ã:=by rfl) :
  å X M L 1 (.Tuple uU kt pt) (.Call (.Name "zip" pp) [a,b] [] pos) (λO=>(fs O).bind GS):=by
 obtain⟨t,pt,_,qt⟩:=ha;refine⟨_,Qb (by decide) (by decide) ϟ hg hm pt he hp,λF0 B F H O U Y R rs e w=>?_⟩;obtain⟨rZ,h1,h2⟩:=dh e;refine qt F0 B F H O U _ _ rs h1 λvs F' G x l=>?_;cases l with
 |cons h t=>
  cases t with
  |cons h' t=>
   cases t;rename_i d v d' v';cases d with
   |lst xs=>
    cases d' with
    |kt ys=>
     cases h2;obtain⟨a,vs,rfl,ha,hp⟩:=Dt.lst_inv h;obtain⟨b,us,rfl,hb,As⟩:=Al.kt (n:=0) (W':=G) h';have sq:∀{H2:Hp},i6 X.K H2 a vs->∀q∈[(a,Ã),(b,Â)],∃xs,Sq X.K H2 q xs:=λhs q hq=>by
      simp only[dn,iK,or_false]at hq;rcases hq with rfl|rfl
      ·exact⟨vs,hs⟩
      ·exact⟨us,.inr hb⟩
     refine⟨[(a,Ã),(b,Â)],rfl,rfl,sq<|x.fh.seq ha,w _ F' G x λi F2 H2 s1 s2 s3=>?_⟩;have hs:i6 X.K H2 a vs:=s3.seq<|s1.seq ha;have CC:oP X.K H2 b us:=.inr hb;refine⟨λd hd=>?_,λhl=>⟨sq hs,?_⟩⟩
     ·obtain⟨x,y,hx,hy,rfl⟩:=RI hd;obtain⟨v,hv,l⟩:=hp.pr.get' hx;obtain⟨u,hu,l'⟩:=As.get' hy;refine⟨λq hq=>?_,λz H3 q=>?_⟩
      ·simp only[dn,iK,or_false]at hq;rcases hq with rfl|rfl
       ·exact⟨vs,hs,v,hv⟩
       ·exact⟨us,CC,u,hu⟩
      ·obtain⟨r,g,hr,rfl,rfl,q⟩:=q;have e1:=hv.symm.trans (q (a,Ã) (by simp) vs hs);have e2:=hu.symm.trans (q (b,Â) (by simp) us CC);rw[dJ,dJ,nQ,←Option.some.inj e1,←Option.some.inj e2];exact⟨_,iJ.newS s3 hr _,.inr<|.tup zo<|.cons (Dt.mono (s1.trans<|xl (s3.free hr) _) l)<|.cons (Dt.mono (s1.trans<|xl (s3.free hr) _) l') .nil⟩
     ·rw[RJ,hp.pr.length,As.length]at hl;rcases(by lia:vs.length<=i\/us.length<=i)with h|h
      ·exact⟨(a,Ã),by simp,vs,hs,h⟩
      ·exact⟨(b,Â),by simp,us,CC,h⟩
    |_=>cases h2
   |_=>cases h2
end
variable {da:cZ}{qn:Str}{Hk:et}
section
open PySem PySem.Spec L2
open PyProof.Rows hiding St
open PySem.W
noncomputable def kj {α:Type}(f:Str)(y:α):List Str->List α->List α
 |n::ns,v::vs=>if n=f then y::vs else v::kj f y ns vs
 |_,vs=>vs
theorem KU {f:Str}{y:V}:∀{ns:List Str} {vs:List V},ns.length=vs.length->ns.contains f=Â->mK f y (ns.zip vs)=ns.zip (kj f y ns vs)
 |[],_,_,h=>by cases h
 |_::_,[],h,_=>by simp at h
 |n::ns,v::vs,h,hc=>by
  show(if n=f then _ else _)=_;unfold kj;by_cases e:n=f
  ·rw[if_pos e,if_pos e];rfl
  ·rw[if_neg e,if_neg e,ez];show(n,v)::mK f y (ns.zip vs)=_;rw[KU (by simpa using h)<|by rw[hW,iV]at hc;exact hc.resolve_left λz=>e (eq_of_beq z).symm]
theorem Of {α:Type}{f:Str}{y:α}:∀{ns:List Str} {vs:List α},(kj f y ns vs).length=vs.length
 |[],_=>by unfold kj;rfl
 |_::_,[]=>by unfold kj;rfl
 |n::ns,v::vs=>by
  unfold kj;by_cases e:n=f
  ·rw[if_pos e];rfl
  ·rw[if_neg e,dw,Of,dw]
theorem K5 {R:D->V->Prop}{f:Str}{d:D}{y:V}(r:R d y):∀{ns:List Str} {Y:List D} {vs:List V},Pr R Y vs->Pr R (kj f d ns Y) (kj f y ns vs)
 |[],_,_,h=>by unfold kj;exact h
 |_::_,_,_,.nil=>by unfold kj;exact .nil
 |n::ns,_,_,.cons h t=>by
  unfold kj;by_cases e:n=f
  ·rw[if_pos e,if_pos e];exact .cons r t
  ·rw[if_neg e,if_neg e];exact .cons h<|K5 r t
theorem Og {α:Type}{x y:Str}{v:α}(h:x≠y):∀{ns:List Str} {vs:List α},(ns.zip<|kj x v ns vs).lookup y=(ns.zip vs).lookup y
 |[],_=>by unfold kj;rfl
 |_::_,[]=>by unfold kj;rfl
 |n::ns,w::vs=>by
  unfold kj;by_cases e:n=x
  ·subst e;rw[if_pos rfl,ez,ez,dC,dC,beq_eq_false_iff_ne.mpr<|Ne.symm h]
  ·rw[if_neg e,ez,ez,dC,dC,Og h]
theorem kE.set {y:V}{ns:List Str}{vs:List V}(h:kE K M F H ns Y vs fb)(hx:x≠"puts"):kE K M F H ns (kj x d ns Y) (kj x y ns vs) fb:=by unfold kE at h ⊢;rw[Og hx,Og hx];exact h
section
def sx (i:Nat)(cs:List Nat)(x:Str)(f:EF):SF:=λO=>(f O).bind λd=>(J i O).bind λo=>match o with
 |.obj c ns Y=>if cs.contains c=Â/\ns.contains x=Â/\ns.length<900 then Z (.nx<|O.set i<|Z<|.obj c ns<|kj x d ns Y)else S
 |_=>S
theorem Sj {dx:cZ}{cc:Nat}{ns:List Str}{vs:List V}{y:V}(hF:F xa=S)(hl:ns.length=vs.length)(cf:kE K M F H ns Y vs fb)(hx:x≠"puts")(nb:xa∉fb)(ol:Pr (Dt K M F) Y vs)(l:Dt K M F d y) :
  Ow K M F (upd H xa<|.ins (M cc) dx<|ns.zip<|kj x y ns vs) 1 (.obj cc ns<|kj x d ns Y) (.ref xa) (xa::(fb++[])) :=
 .inr (Aj.obj (vs:=kj x y ns vs) hF zo (by rw[Of];exact hl) ((cf.set hx).frame (.refl _) λb z=>⟨zn λe=>nb (e▸z),(cf.cells b z).1⟩)<|iW.ofPr<|(K5 l ol).mono λ_ _ q=>⟨q,rfl⟩)
theorem JI (hC:oh X.K M L i)(hc:∀c∈cs,mQ X.K (M c)/\gk X.K (M c) x)(he:XE X M L 0 e f)(hx:x≠"puts":=by decide)(hN:X.N[i]?=Z s:=by rfl)(hv:pN X.env.scope s:=by walk_at "v1")(hd:iM s:=by decide)
  (iY:qD s:=by decide) (hs:gc e (Z<|.Attribute (.Name s p1) x pos') pos.line X.env=pure Ã:=by rfl):XS X M L rk (.Assign [.Attribute (.Name s p1) x pos'] e pos) (sx i cs x f):=by
 obtain⟨t,pt,qt⟩:=he;refine⟨_,JK (yb hN hv hd iY) pt hs,λF0 B F H O U o E rs e z=>?_⟩;obtain⟨d,h1,h2⟩:=dh e;obtain⟨ob,h3,h4⟩:=dh h2;refine qt F0 B F H O U d _ rs h1 λy F1 H1 x1 l=>?_;cases ob with
 |obj c ns Y=>
  dsimp only at h4;by_cases hz:cs.contains c=Â/\ns.contains x=Â/\ns.length<900
  ·rw[if_pos hz]at h4;cases h4;obtain⟨xa,fq,hσ,ow,nq,hB,put⟩:=hC _ _ _ _ _ _ _ (rs.ext x1) (zq h3) rfl;obtain⟨a,dx,vs,fr,e1,⟨fb,rfl,cf⟩,hF,hH,hl,ol⟩:=ow.obj_inv;cases e1;have e0:=ol.nil0;subst e0;have hh:=hc c (by simpa using hz.1);refine⟨_,hσ,xa,_,dx,_,rfl,hH,hh.1,hh.2,by rw[gx,←hl,iB];lia,?_⟩;rw[KU hl hz.2.1];exact z U F1 _ (put F1 _ _ _ (.refl _) (λb o h ne=>by rw[zn<|λe=>ne<|by rw[e];exact cV];exact h) (λb o h=>by rw[zn<|λe=>by rw[e,hF]at h;cases h];exact x1.fh _ _ h) (λb o h _ _ hn=>hn) (Sj hF hl cf hx (λz=>(eJ.mp nq).1<|dc _ z) (ol.pr λ_ _ _ _ q=>q.1) l) nq λb z=>.inl z)
  ·rw[if_neg hz]at h4;cases h4
 |_=>cases h4
def Fe (i:Nat)(cs:List Nat)(x:Str)(f:EF):SF:=λO=>(J i O).bind λo=>(f O).bind λd=>match o,d with
 |.obj c ns Y,.int b=>if cs.contains c=Â/\ns.contains x=Â/\ns.length<900 then match (ns.zip Y).lookup x with
  |some (.int a)=>Z<|.nx<|O.set i<|Z<|.obj c ns<|kj x (.int<|a+b) ns Y
  |_=>S else S
 |_,_=>S
theorem Ϟ (hC:oh X.K M L i)(hc:∀c∈cs,mQ X.K (M c)/\gk X.K (M c) x)(he:XE X M L 0 e f)(hx:x≠"puts":=by decide)(hN:X.N[i]?=Z s:=by rfl)(hv:pN X.env.scope s:=by walk_at "v1")(hd:iM s:=by decide)
  (iY:qD s:=by decide):XS X M L rk (.AugAssign (.Attribute (.Name s p1) x ko) .Add e pos) (Fe i cs x f):=by
 obtain⟨t,pt,qt⟩:=he;refine⟨_,YV (yb hN hv hd iY) pt Ϗ,λF0 B F H O U o E rs e z=>?_⟩;obtain⟨ob,d,h3,h1,h4⟩:=fE e;cases ob with
 |obj c ns Y=>
  cases d with
  |int bi=>
   dsimp only at h4;by_cases hz:cs.contains c=Â/\ns.contains x=Â/\ns.length<900
   ·rw[if_pos hz]at h4;have hh:=hc c (by simpa using hz.1);cases BD:(ns.zip Y).lookup x with
    |none=>rw[BD]at h4;cases h4
    |some d1=>
     rw[BD]at h4;cases d1 with
     |int ai=>cases h4;obtain⟨xa,fq,hσ,ow,_⟩:=hC _ _ _ _ _ _ _ rs (zq h3) rfl;obtain⟨a,dx,vs,fr,e1,_,hF,hH,hl,ol⟩:=ow.obj_inv;cases e1;obtain⟨v1,Vi,l1⟩:=vo (ol.pr (R':=Dt X.K M F) λ_ _ _ _ q=>q.1) BD;cases l1;refine⟨_,hσ,xa,_,dx,_,_,rfl,hH,hh.1,hh.2,Vi,qt F0 B F H O U _ _ rs h1 λy F1 H1 x1 l=>?_⟩;have ey:=Al.int l;subst ey;refine⟨ai,bi,rfl,rfl,?_⟩;obtain⟨xa',fq',Du,Jb,P7,hB',Nx⟩:=hC _ _ _ _ _ _ _ (rs.ext x1) (zq h3) rfl;rw[hσ]at Du;cases Du;obtain⟨a,DT,Hm,fr,e1,⟨fb,rfl,cf⟩,Pp,UM,Do,P9⟩:=Jb.obj_inv;cases e1;have e0:=P9.nil0;subst e0;refine⟨DT,_,UM,by rw[gx,←Do,iB];lia,?_⟩;rw[KU Do hz.2.1];exact z U F1 _ (Nx F1 _ _ _ (.refl _) (λb o h ne=>by rw[zn<|λe=>ne<|by rw[e];exact cV];exact h) (λb o h=>by rw[zn<|λe=>by rw[e,Pp]at h;cases h];exact x1.fh _ _ h) (λb o h _ _ hn=>hn) (Sj Pp Do cf hx (λz=>(eJ.mp P7).1<|dc _ z) (P9.pr λ_ _ _ _ q=>q.1)<|.int _) P7 λb z=>.inl z)
     |_=>cases h4
   ·rw[if_neg hz]at h4;cases h4
  |_=>cases h4
 |_=>cases h4
variable {fd:c9}
def CN (i:Nat)(O:Env):D->Option (D×Env)
 |.tup [d,p']=>Z (d,O.set i<|Z p')
 |_=>S
theorem Za {r:D}(h:CN i O r=Z (d,ρ')):∃p',r=.tup [d,p']/\ρ' = O.set i (Z p'):=by
 unfold CN at h;split at h
 ·cases h;exact⟨_,rfl,rfl⟩
 ·cases h
def rX (i:Nat)(gs:Env->Option (List D))(mf:List D->Option D):EM:=λO=>(J i O).bind λp=>(gs O).bind λes=>if nk p=Â then(mf (p::es)).bind (CN i O)else S
theorem OV {pd:D}{es:List D}{ws:List V}{a0:cZ}(hC:oh K M L i)(rs:RS K M F0 B L F H O U)(x1:iJ F H F1 H1)(hp:O[i]?=Z (Z pd))(hc:nk pd=Â)(hσ:U[i]?=Z (Z<|.ref a0))(l2:Pr (Dt K M F1) es ws)(hm:es.length=m)
  (h7:(mf (pd::es)).bind (CN i O)=Z (d,ρ')) (z:∀v F' G,RS K M F0 B L F' G ρ' U->Dt K M F' d v->Q v G):uN K M 0 m mf (.ref a0::ws) H1 Q E:=by
 obtain⟨r,h6,h8⟩:=dh h7;obtain⟨p',rfl,rfl⟩:=Za h8;obtain⟨a,f,Du,oa,nf,Ba,put⟩:=hC _ _ _ _ _ _ _ (rs.ext x1) hp hc;rw[hσ]at Du;cases Du;exact⟨F1,[],es,[],ws,d,pd,p',a0,f,rfl,rfl,hm,x1.fh,.nil,l2,oa,nf,h6,λv F' G f' s1 kH s3 Vx o1 D6 DV dt=>z v F' G (put F' G p' f' s1 kH s3 Vx o1 D6 DV) dt⟩
theorem Oh {gs:Env->Option (List D)}(hC:oh X.K M L i)(d:jN X.K X.mg x Hk ps fa fd)(Fn:dR X.prog X.w X.K X.mg X.base fL kk fa fd ps<|uN X.K M 0 m mf)(hr:fw kq X.A)(hn:∀O Y,gs O=Z Y->Y.length=m)(ha:G2 X M L es gs)(rG:kk<=kq:=by decide)(hg:Gl X x:=by rfl)
  (hN:X.N[i]?=Z s:=by rfl) (hv:pN X.env.scope s:=by walk_at "v1") (hd:iM s:=by decide) (iY:qD s:=by decide)
  (jS:iM x:=by decide) (he:dM (.Name s p1::es) X.env=(Ã,eP (.Name s p1) X.env)::dM es X.env:=by rfl) (iD:lV X pos es:=by rfl) :
  XM X M L (.Call (.Name x pp) (.Name s p1::es) [] pos) (rX i gs mf):=by
 obtain⟨t,pt,qt⟩:=ha;refine⟨_,Oy (i9:=[]) (E:=E0) Fn (hr.mono rG) hg d.mgx d.fn.kp d.bd .nil oF (ya (yb hN hv hd iY) pt he) jS he iD,λF0 B F H O ρ' U d Q rs e z=>?_⟩;obtain⟨pd,DU,h1,h2,h3⟩:=fE e;by_cases hc:nk pd=Â
 ·rw[if_pos hc]at h3;obtain⟨a0,_,hσ,_⟩:=hC _ _ _ _ _ _ _ rs (zq h1) hc;refine⟨_,hσ,qt F0 B F H O U DU _ rs h2 λws F1 H1 x1 l2=>?_⟩;show uN X.K M 0 m mf ((V.ref a0::ws)++[]) H1 Q E0;rw[d6];exact OV hC rs x1 (zq h1) hc hσ l2 (hn _ _ h2) h3 z
 ·rw[if_neg hc]at h3;cases h3
def mE (i c0:Nat)(m:Str)(gs:Env->Option (List D))(mf:List D->Option D):EM:=λO=>(J i O).bind λp=>(gs O).bind λes=>match p with
 |.obj c ns _=>if c=c0/\ns.contains m=Ã then(mf (p::es)).bind (CN i O)else S
 |_=>S
theorem jv {gs:Env->Option (List D)}{mm:Str}(hC:oh X.K M L i)(c:mQ X.K<|M c0)(d:Dm X.K (M c0) mm qn Hk ps fa fd)(Fn:dR X.prog X.w X.K X.mg X.base fL kk fa fd ps<|uN X.K M 0 m mf)(hr:fw kq X.A)(hn:∀O Y,gs O=Z Y->Y.length=m)(ha:G2 X M L (e::es) gs)(rG:kk<=kq:=by decide)
  (hN:X.N[i]?=Z s:=by rfl) (hv:pN X.env.scope s:=by walk_at "v1") (hd:iM s:=by decide) (iY:qD s:=by decide)
  (jH:SE X e es:=by rfl) (iD:lV X pos es:=by rfl)
  (ht:eP (.Call (.Attribute (.Name s p1) mm fG) (e::es) [] pos) X.env=(do
   let ov ← eP (.Name s p1) X.env
   ij fG.atName
   let(f,first) ← fH [ov] (iU ov mm pl)
   jK pos f first (gR pos<|dM (e::es) X.env) (ir pos<|fO [] X.env)):=by rfl) :
  XM X M L (.Call (.Attribute (.Name s p1) mm fG) (e::es) [] pos) (mE i c0 mm gs mf):=by
 obtain⟨t,pt,qt⟩:=ha;refine⟨_,R9 (i9:=[]) (E:=E0) (yb hN hv hd iY) c d.me Fn (hr.mono rG) d.bd .nil oF pt jH iD ht,λF0 B F H O ρ' U d Q rs e z=>?_⟩;obtain⟨pd,DU,h1,h2,h3⟩:=fE e;cases pd with
 |obj c ns Y=>
  dsimp only at h3;by_cases hz:c=c0/\ns.contains mm=Ã
  ·rw[if_pos hz]at h3;obtain⟨rfl,hz⟩:=hz;obtain⟨a0,_,hσ,oa,_⟩:=hC _ _ _ _ _ _ _ rs (zq h1) rfl;obtain⟨a,dx,vs,fr,e1,_,hF,hH,hl,ol⟩:=oa.obj_inv;cases e1;refine⟨_,hσ,a0,dx,_,rfl,hH,j9 (vs:=vs) hz,qt F0 B F H O U DU _ rs h2 λws F1 H1 x1 l2=>?_⟩;show uN X.K M 0 m mf (V.ref a0::(ws++[])) H1 Q E0;rw[d6];exact OV hC rs x1 (zq h1) rfl hσ l2 (hn _ _ h2) h3 z
  ·rw[if_neg hz]at h3;cases h3
 |_=>cases h3
def DL (X:Cx)(M:Nat->cZ)(m:Nat)(U':List<|Str×cU)(tb:List<|Str×(List D->Option D)):Prop:=∀k mf,tb.lookup k=Z mf->∃f kk fd ps,U'.lookup k=Z (.ref f)/\dR X.prog X.w X.K X.mg X.base fL kk f fd ps (uN X.K M 0 m mf)/\fw kk X.A/\dQ X.K (.ref f)=Â/\fK X.K fd ps []
theorem ŗ:DL X M m U' []:=λk mf h=>by cases h
theorem ur {tb:List (Str×(List D->Option D))}{k:Str}(hl:U'.lookup k=Z (.ref fa))(d:jN X.K X.mg x Hk ps fa fd)(Fn:dR X.prog X.w X.K X.mg X.base fL kk fa fd ps<|uN X.K M 0 m mf)(hr:fw kq X.A)(t:DL X M m U' tb)(rG:kk<=kq:=by decide):DL X M m U' ((k,mf)::tb):=λk' Nh h=>by
 rw[dC]at h;cases e:k'==k with
 |true=>rw[e]at h;cases h;rw[eq_of_beq e];exact⟨fa,kk,fd,ps,hl,Fn,hr.mono rG,d.fn.kp,d.bd⟩
 |false=>rw[e]at h;exact t k' Nh h
def wG (i:Nat)(f:EF)(gs:Env->Option (List D))(tb:List<|Str×(List D->Option D)):EM:=λO=>(f O).bind λk=>match k with
 |.str z=>(tb.lookup z).bind λmf=>rX i gs mf O
 |_=>S
theorem ϝ {gs:Env->Option (List D)}{p3:my}{tb:List (Str×(List D->Option D))}(hC:oh X.K M L i)(K:KD X.K X.w X.mg x da U')(hT:DL X M m U' tb)(hk:XE X M L n c f)(hn:∀O Y,gs O=Z Y->Y.length=m)(ha:G2 X M L es gs)(hg:Gl X x:=by rfl)(hs:vY c:=by exactλ_ _=>rfl)
  (hN:X.N[i]?=Z s:=by rfl) (hv:pN X.env.scope s:=by walk_at "v1") (hd:iM s:=by decide) (iY:qD s:=by decide)
  (jS:iM x:=by decide) (he:dM (.Name s p1::es) X.env=(Ã,eP (.Name s p1) X.env)::dM es X.env:=by rfl) (iD:lV X pos es:=by rfl) :
  XM X M L (.Call (.Subscript (.Name x p2) c p3) (.Name s p1::es) [] pos) (wG i f gs tb):=by
 obtain⟨t,pt,qt⟩:=ha;obtain⟨tk,Nw,Ny⟩:=hk;refine⟨_,Ŭ (F:=λk f sp=>∃mf,tb.lookup k=Z mf/\U'.lookup k=Z (.ref f)/\sp=uN X.K M 0 m mf) (E:=E0) K (λk f sp ⟨mf,h1,h2,h3⟩=>?_) oF hg Nw hs (ya (yb hN hv hd iY) pt he) jS he iD,λF0 B F H O ρ' U d Q rs e z=>?_⟩
 ·obtain⟨f',kk,fd,ps,q1,q2,q3,q4,q5⟩:=hT k mf h1;rw[h2]at q1;cases q1;rw[h3];exact⟨kk,fd,ps,q2,q3,q4,q5⟩
 ·obtain⟨y,h1,h2⟩:=dh e;cases y with
  |str zz=>
   obtain⟨mf,h3,h4⟩:=dh h2;obtain⟨f',kk,fd,ps,q1,q2,q3,q4,q5⟩:=hT zz mf h3;refine Ny F0 B F H O U _ _ rs h1 λv F1 H1 x1 l1=>⟨zz,f',_,l1.str,q1,⟨mf,h3,q1,rfl⟩,?_⟩;have m9:=rs.ext x1;obtain⟨pd,DU,g1,g2,g3⟩:=fE h4;by_cases hc:nk pd=Â
   ·rw[if_pos hc]at g3;obtain⟨a0,_,hσ,_⟩:=hC _ _ _ _ _ _ _ m9 (zq g1) hc;refine⟨_,hσ,qt F0 B F1 H1 O U DU _ m9 g2 λws F2 H2 x2 l2=>?_⟩;exact OV hC m9 x2 (zq g1) hc hσ l2 (hn _ _ g2) g3 z
   ·rw[if_neg hc]at g3;cases g3
  |_=>cases h2
theorem Ϝ (he:XM X M L e gm):By X M L [.Return (Z e) pos] gm:=by obtain⟨t,pt,qt⟩:=he;exact⟨_,vw<|GO pt,λF0 B F H O ρ' U d E rs e z=>qt F0 B F H O ρ' U d _ rs e λv F' G r l=>z v U F' G r l⟩
theorem ϛ {op:Bq}{o:D->D->Option D}(ho:lI X (e9 op) r)(hs:sK X.K M 0 m 0 r o)(ha:XM X M L a gm)(hb:XE X M L m b g)(hm:gh op b=Ã):XM X M L (.Compare a [op] [b] pos) (λO=>(gm O).bind λr=>(g r.2).bind λy=>(o r.1 y).bind λd=>Z (d,r.2)):=by obtain⟨ta,pa,qa⟩:=ha;obtain⟨tb,pb,qb⟩:=hb;refine⟨_,R0 ho pa pb hm,λF0 B F H O ρ' U d Q rs e w=>?_⟩;obtain⟨⟨d1,ρ1⟩,h1,h2⟩:=dh e;obtain⟨d2,h3,h4⟩:=dh h2;obtain⟨d',h5,h6⟩:=dh h4;cases h6;refine qa F0 B F H O ρ1 U d1 _ rs h1 λx F1 H1 r1 l1=>?_;refine qb F0 B F1 H1 ρ1 U d2 _ r1 h3 λy F2 H2 x2 l2=>?_;exact hs F2 H2 x y d1 d2 _ _ x2.fh (Dt.mono x2.ff l1) l2 h5 λv F3 H3 x3 l=>w v F3 H3 (r1.ext<|x2.trans x3) l
theorem Ϛ (he:XM X M L e gm):XS X M L 0 (.Return (Z e) pos) (λO=>(gm O).bind λr=>Z<|.rt r.1):=by obtain⟨t,pt,qt⟩:=he;refine⟨_,GO pt,λF0 B F H O U o E rs e z=>?_⟩;obtain⟨⟨d,ρ'⟩,h1,h2⟩:=dh e;cases h2;exact qt F0 B F H O ρ' U d _ rs h1 λv F' G r l=>z v F' G [] r.f0 r.bh r.fh r.nf (Ow.zero l) d4 λa z=>(by cases z)
abbrev BM:=Env->Option (Bool×Env)
def DH (X:Cx)(M:Nat->cZ)(L:List Mo)(e:Expr)(g:BM):Prop:=∃t,PT X e t/\∀(F0 B F H:Hp) (O ρ':Env) (U:St) (b:Bool) (Q:Bool->Hp->Prop),RS X.K M F0 B L F H O U->g O=Z (b,ρ')->(∀F' G,RS X.K M F0 B L F' G ρ' U->Q b G)->t U H Q
def FF (X:Cx)(M:Nat->cZ)(L:List Mo)(e:Expr)(g:BM):Prop:=∃t,PW X e t/\∀(F0 B F H:Hp) (O ρ':Env) (U:St) (b:Bool) (Q:Bool->Hp->Prop),RS X.K M F0 B L F H O U->g O=Z (b,ρ')->(∀F' G,RS X.K M F0 B L F' G ρ' U->Q b G)->t U H Q
def mT (p:BF):BM:=λO=>(p O).bind λb=>Z (b,O)
def Gb (p q:BM):BM:=λO=>(p O).bind λr=>if r.1=Â then Z (Â,r.2)else q r.2
def yG (o:D->D->Option D)(f:EM)(g:EF):BM:=λO=>(f O).bind λr=>(g r.2).bind λy=>(o r.1 y).bind λd=>(DM d).bind λb=>Z (b,r.2)
theorem Ŗ (h:XT X M L e p):DH X M L e (mT p):=by obtain⟨t,pt,qt⟩:=h;refine⟨t,pt,λF0 B F H O ρ' U b Q rs e z=>?_⟩;obtain⟨b',h1,h2⟩:=dh e;cases h2;exact qt F0 B F H O U _ _ rs h1 λF' G x=>z F' G<|rs.ext x
theorem FF.t {g:BM}(h:FF X M L e g):DH X M L e g:=by obtain⟨t,pt,qt⟩:=h;exact⟨t,pt.pt,qt⟩
theorem Sk {g:BM}(ha:DH X M L a g):FF X M L (.BoolOp .Or [a] pos) g:=by obtain⟨t,pt,qt⟩:=ha;exact⟨t,SX pt,qt⟩
theorem S8 {Ê:List Expr}{g1 g2:BM}(ha:DH X M L a g1)(hb:FF X M L (.BoolOp .Or (b::Ê) pos) g2):FF X M L (.BoolOp .Or (a::b::Ê) pos) (Gb g1 g2):=by
 obtain⟨t,pt,qt⟩:=ha;obtain⟨u,pu,qu⟩:=hb;refine⟨_,To pt pu,λF0 B F H O ρ' U r Q rs e w=>?_⟩;obtain⟨⟨x,ρ1⟩,h1,h2⟩:=dh e;refine qt F0 B F H O ρ1 U x _ rs h1 λF1 H1 r1=>?_;cases x with
 |true=>rw[if_pos rfl]at h2 ⊢;cases h2;exact w F1 H1 r1
 |false=>rw[if_neg di]at h2 ⊢;exact qu F0 B F1 H1 ρ1 ρ' U r _ r1 h2 w
theorem JJ {op:Bq}{o:D->D->Option D}(ho:lI X (e9 op) r)(hs:sK X.K M 0 m k r o)(ha:XM X M L a gm)(hb:XE X M L m b g)(hm:gh op b=Ã):DH X M L (.Compare a [op] [b] pos) (yG o gm g):=by obtain⟨ta,pa,qa⟩:=ha;obtain⟨tb,pb,qb⟩:=hb;refine⟨_,R1 ho pa pb hm,λF0 B F H O ρ' U b Q rs e w=>?_⟩;obtain⟨⟨d1,ρ1⟩,h1,h2⟩:=dh e;obtain⟨d2,h3,h4⟩:=dh h2;obtain⟨d,h5,h6⟩:=dh h4;obtain⟨b',h7,h8⟩:=dh h6;cases h8;rw[wy h7]at h5;refine qa F0 B F H O ρ1 U d1 _ rs h1 λx F1 H1 r1 l1=>?_;refine qb F0 B F1 H1 ρ1 U d2 _ r1 h3 λy F2 H2 x2 l2=>?_;exact hs F2 H2 x y d1 d2 _ _ x2.fh (Dt.mono x2.ff l1) l2 h5 λv F3 H3 x3 l=>⟨b,l.bl,w F3 H3<|r1.ext<|x2.trans x3⟩
def wV (p:BM)(u w:SF):SF:=λO=>(p O).bind λr=>if r.1=Â then u r.2 else w r.2
theorem Hx {g:BM}(hc:DH X M L c g)(h1:tH X M L rk Hi u)(h2:tH X M L rk CY w):XS X M L rk (.If c Hi CY pos) (wV g u w):=by
 obtain⟨t,pt,qt⟩:=hc;obtain⟨t1,yL,yO⟩:=h1;obtain⟨t2,sR,sX⟩:=h2;refine⟨_,O3 pt yL sR,λF0 B F H O U o E rs e z=>?_⟩;obtain⟨⟨x,ρ1⟩,h1,h2⟩:=dh e;refine qt F0 B F H O ρ1 U x _ rs h1 λF1 H1 r1=>?_;cases x with
 |true=>rw[if_pos rfl]at h2 ⊢;exact yO F0 B F1 H1 ρ1 U o E r1 h2 z
 |false=>rw[if_neg di]at h2 ⊢;exact sX F0 B F1 H1 ρ1 U o E r1 h2 z
theorem zpb (J':Dc X.K X.mg x<|M c0)(d:Dm X.K (M c0) "__init__" qn Hk ps fa fd)(Fn:dR X.prog X.w X.K X.mg X.base fL kk fa fd ps<|xG X.K M cs [] mi)(hr:fw kq X.A)(yA:c0∈cs:=by decide)(rG:kk+1<=kq:=by decide)(hg:Gl X x:=by rfl)(jS:iM x:=by decide) :
  XO X M L 1 (.Call (.Name x pp) [] [] pos) (λ_=>mi c0 []):=by
 refine⟨_,ZJ (i9:=[]) (E:=E0) ⟨J'.mks,d.me.at_,d.me.fn,J'.kp⟩ Fn (hr.mono rG) hg J'.mgx d.bd .nil oF jS,λF0 B F H O U r Q rs e w y dy hy Il oQ=>?_⟩;have sH:d9 H (oZ (upd (upd H dy<|.own y) y<|.ins (M c0) dy []) y):=λb o h=>by have n1:b≠y:=zp h hy;rw[xx n1,zn n1,zn<|zp h Il];exact h
 refine⟨F,c0,[],r,y,dy,[],yA,rfl,zo,rs.fh.free hy,rs.fh.trans<|sH.trans<|wz _ _,.nil,e,λF' G fq s1 s2 s3 s4 ow nq hq=>⟨rfl,?_⟩⟩;refine w _ F' G fq ⟨s1,sH.trans s2,s3,λb o h t n=>s4 b o (sH _ _ h) t n⟩ ow nq λb z=>?_;rcases hq b z with rfl|wK
 ·exact hy
 ·exact(sH.trans<|wz _ _).free wK
end
def DQ (U':List<|Str×cU):List (Str×cZ)->Prop
 |[]=>True
 |(k,f)::t=>U'.lookup k=Z (.ref f)/\DQ U' t
def KF (K:cX)(w:d5)(mg:Str->Option cU)(x:Str)(fF:List<|Str×cZ):Prop:=∃da U',KD K w mg x da U'/\DQ U' fF
section
variable {K:Frag}{h:dz}{es:Array DictEntry}{ep:Nat}{w:d5}{fF:List (Str×cZ)}{u:cU}
theorem Ĩ (X:K.In h)(W':h.Ns eQ mg)(a:nsIn K eQ x=Z (Z u))(q:KC K d u):∃u,mg x=Z u/\KC K d u:=⟨u,mg_of X W' a,q⟩
theorem Ħ (X:K.In h)(W':h.Ns eQ mg)(a:nsIn K eQ x=Z (Z<|.ref da))(l:K.lookup da=Z ⟨.type "dict",S,.dict es ep,#[]⟩)(sy:(da==hJ)=Ã)(e:EL w es.toList U')(q:KL K ts U'):KG K w mg x ts:=⟨da,U',⟨mg_of X W' a,sy,es,ep,l,e⟩,q⟩
theorem ħ (X:K.In h)(W':h.Ns eQ mg)(a:nsIn K eQ x=Z (Z<|.ref da))(l:K.lookup da=Z ⟨.type "dict",S,.dict es ep,#[]⟩)(sy:(da==hJ)=Ã)(e:EL w es.toList U')(q:DQ U' fF):KF K w mg x fF:=⟨da,U',⟨mg_of X W' a,sy,es,ep,l,e⟩,q⟩
end
end
def Gg (i:Nat):vZ->vZ
 |.ok o=>.ok<|Bd i o
 |.xc O d=>.xc (O.set i S) d
def Ef (i:Nat)(u:n9):n9:=λO=>(u O).bind λo=>Z<|Gg i o
section
variable {W':GK}{fd:c9}
theorem ϙ {w:n9}(hm:L[i]?=Z (.ow k))(h:sL X W' M (L.set i<|.ow 0) rk Gr w):sL X W' M L rk Gr (Ef i w):=by
 obtain⟨t,pt,qt⟩:=h;refine⟨t,pt,λF0 B F H O U o E rs e z=>?_⟩;obtain⟨F',r2⟩:=rs.fz hm;obtain⟨o1,e1,e2⟩:=dh e;refine qt F0 B F' H O U o1 E r2 e1 ?_;have back:∀{ρ':Env} {σ':St} {F2 H2:Hp},RS X.K M F0 B (L.set i<|.ow 0) F2 H2 ρ' σ'->RS X.K M F0 B L F2 H2 (ρ'.set i S) σ':=λr=>by have:=r.forget (.ow k) i;rw[QS hm]at this;exact this
 cases o1 with
 |xc ρ' d=>cases e2;exactλa U F1 H0 F H rs x ha xd=>z a U F1 H0 F H (back rs) x ha xd
 |ok o1=>
  cases o1 with
  |nx ρ'=>cases e2;exactλσ' F2 H2 r=>z σ' F2 H2<|back r
  |rt d=>cases e2;exact z
  |bk ρ'=>cases e2;exactλσ' F2 H2 r=>z σ' F2 H2<|back r
  |ct ρ'=>cases e2;exactλσ' F2 H2 r=>z σ' F2 H2<|back r
def wI:D->Option D
 |.str x=>if dX.strOk x=Â/\x.length<=100 then Z (.str x)else S
 |_=>S
theorem Zb {v:V}(h:wI d=Z d')(l:Al K M F G' n d v):d'=d/\Bv v/\∀F',Dt K M F' d v:=by
 cases d with
 |str x=>
  unfold wI at h;dsimp only at h;split at h
  ·next hx=>cases h;refine⟨rfl,⟨x,l.str,hx.1,hx.2⟩,λF'=>?_⟩;rw[l.str];exact .str x
  ·cases h
 |_=>unfold wI at h;cases h
def vH (f:Str)(C:cZ):Sp:=λvs H Q _=>∃a u,vs=[.ref a,u]/\H a=Z (nN a C S S)/\Bv u/\∀dx,H dx=S->dx≠a->Q .non (upd (upd H dx<|.xd [(f,u)]) a<|nN a C (Z dx) S)
theorem vH.len {f:Str}:∀vs H Q E,vH f C vs H Q E->vs.length=[y,z].length:=by rintro vs H Q E ⟨a,u,rfl,_⟩;rfl
theorem Zc {w:d5}{fn:Str}{fd:c9}(Fn:Þ K "__init__" qual st fa fd)(S':eK [N0,N1] [N0,N1]<|dH st)(cl:wA K C)(hd:eF K C=Â/\dI K (.ref C) "__setattr__"=Z (Z<|.builtin "object.__setattr__")/\ft K C fn=Z S)
  (body:∀(gH:cU) (A:dO) (outer:List PySem.Env) (s:de) (H:Hp) (E:XK),∃tf:TF,(∀U H v (Q:Hp->Prop),U[1]?=Z (Z v)->Bv v->Q H->tf U H Q)/\tG (nj fL P w K mg base [N0,N1] qual (dH st) fa gH A outer s H E).nox (gz st) (Eo (Bk<|wZ K (rM 0)<|λU H Q=>tf U H λH1=>∀x,Q (.str x) H1)<|Bl K fn (rM 1)<|rM 0)) :
  dR P w K mg base fL (kk+1) fa fd [N0,N1] (vH fn C):=by
 refine Fn.ok S' vH.len λgH A outer s H vs Q E hr h=>?_;obtain⟨a,u,rfl,ha,fo,q⟩:=h;obtain⟨tf,MT,p⟩:=body gH A outer s H E;exact⟨_,p,.ref a,rfl,MT _ _ u _ rfl fo λx=>⟨a,C,S,S,rfl,cl,ha,u,rfl,.ref a,rfl,a,C,S,rfl,cl,hd.1,hd.2.1,hd.2.2,ha,λdx h1 h2=>q dx h1 h2⟩⟩
theorem V1 {v:V}{Q:Hp->Prop}(h1:U[1]?=Z (Z v))(h2:Bv v)(h3:Q H):rM 1 U H (λv H1=>Bv v/\Q H1):=⟨v,h1,h2,h3⟩
theorem zpc {fn:Str}(cl:wA X.K<|M c0)(FO:dQ X.K (.ref<|M c0)=Â)(hi:dI X.K (.ref<|M c0) "__init__"=Z (Z<|.ref fa))(zS:jM X.K (.ref fa)=Â)(Fn:dR X.prog X.w X.K X.mg X.base fL kk fa fd ps<|vH fn<|M c0)(hr:fw (kk+1) X.A)(hm:X.mg x=Z (.ref<|M c0))(hb:fK X.K fd ps [])
  (he:XE X M L n e f) (hg:Gl X x:=by rfl) (jS:iM x:=by decide) (jH:SE X e []:=by rfl) (iD:lV X pos []:=by rfl) :
  XR X M L (.Call (.Name x pp) [e] [] pos) (λO=>(f O).bind λd=>(wI d).bind λd=>Z<|.exc c0 [fn] [d]):=by
 obtain⟨t,pt,qt⟩:=he;refine⟨_,Ob cl FO hi zS Fn hr hg hm hb (ya pt yz jH) jS jH iD,λF0 B F H O U d Q rs e w=>?_⟩;obtain⟨d1,h1,h2⟩:=dh e;obtain⟨d2,h3,h4⟩:=dh h2;cases h4;refine qt F0 B F H O U d1 _ rs h1 λv F1 H1 x1 l=>⟨by simp,λa ha=>⟨a,v,rfl,zo,?_⟩⟩;obtain⟨rfl,fo,dt⟩:=Zb h3 l;refine⟨fo,λdx Dn oQ=>⟨rfl,?_⟩⟩;have Cv:H1 dx=S:=by rw[zn oQ]at Dn;exact Dn
 have hH:upd (upd (upd H1 a<|nN a (M c0) S S) dx<|.xd [(fn,v)]) a (nN a (M c0) (Z dx) S)=upd (upd H1 dx<|.xd [(fn,v)]) a (nN a (M c0) (Z dx) S):=by
  funext b;by_cases h1:b=a
  ·rw[h1,zo,zo]
  ·rw[zn h1,zn h1];by_cases h2:b=dx
   ·rw[h2,zo,zo]
   ·rw[zn h2,zn h2,zn h1]
 rw[hH];have x2:iJ F1 H1 (upd F1 dx<|.xd [(fn,v)]) (upd H1 dx<|.xd [(fn,v)]):=iJ.newS x1.fh Cv _;have DW:upd H1 dx (.xd [(fn,v)]) a=S:=by rw[zn<|Ne.symm oQ];exact ha
 have x3:=iJ.newO x2.fh DW<|nN a (M c0) (Z dx) S;refine w a _ _ c0 [fn] [d2] (Z dx) ((x1.trans x2).trans x3) (x1.hh.free ha) rfl ?_ cl ⟨zo,λT z=>by cases z⟩<|.inr ⟨dx,[v],rfl,zo,rfl,.cons (dt _) .nil⟩;rw[zn<|Ne.symm oQ];exact x1.fh.free ha
theorem RS.setP {a:cZ}(rs:RS K M F0 B L F H O U)(dt:Dt K M F d<|.ref a):RS K M F0 B (L.set i<|.px<|.ref a) F H (O.set i<|Z d) (U.set i<|Z<|.ref a):=by
 obtain⟨fp,sl,nd,hb⟩:=rs.sl;have key:∀{L:List Mo} {O:Env} {U:St} {fp:List cZ} (i:Nat),SL K M F B H L O U fp->∃iy,SL K M F B H (L.set i<|.px<|.ref a) (O.set i<|Z d) (U.set i<|Z<|.ref a) iy/\iy.Sublist fp:=by
  intro L O U fp i h;induction h generalizing i with
  |nil=>exact⟨[],.nil,.refl _⟩
  |no t ih=>
   cases i with
   |zero=>exact⟨_,.px (Al.of dt) t,.refl _⟩
   |succ i=>obtain⟨iy,h1,h2⟩:=ih i;exact⟨iy,.no h1,h2⟩
  |al h t ih=>
   cases i with
   |zero=>exact⟨_,.px (Al.of dt) t,.refl _⟩
   |succ i=>obtain⟨iy,h1,h2⟩:=ih i;exact⟨iy,.al h h1,h2⟩
  |px h t ih=>
   cases i with
   |zero=>exact⟨_,.px (Al.of dt) t,.refl _⟩
   |succ i=>obtain⟨iy,h1,h2⟩:=ih i;exact⟨iy,.px h h1,h2⟩
  |so h t ih=>
   cases i with
   |zero=>exact⟨_,.px (Al.of dt) t,jW _ _⟩
   |succ i=>obtain⟨iy,h1,h2⟩:=ih i;exact⟨_,.so h h1,(rj.refl _).append h2⟩
  |ow h t ih=>
   cases i with
   |zero=>exact⟨_,.px (Al.of dt) t,jW _ _⟩
   |succ i=>obtain⟨iy,h1,h2⟩:=ih i;exact⟨_,.ow h h1,(rj.refl _).append h2⟩
 obtain⟨iy,h1,h2⟩:=key i sl;exact⟨rs.f0,rs.bh,rs.fh,rs.nf,iy,h1,h2.nodup nd,λa z=>hb a<|h2.subset z⟩
theorem Hr {hs:List ExceptHandler}{np:my}{nm:Str}{body:List et}{Ba:cZ}{hit:Nat->Option Bool}{r:Nat->D->SF}(hN:X.N.Nodup)(hi:X.N[i]?=Z nm)(Dp:L[i]?=Z (.ow 0))(hm:X.mg x=Z (.ref Ba))(hh:∀c b,hit c=Z b->fR X.K (.ref<|M c) (.ref Ba)=Z b)(hb:∀a,tH (X.hd a) M (L.set i<|.px<|.ref a) rk body u)(hr:JW X M L rk hs r)
  (hl:X.env.scope.names.lookup nm=Z .local:=by rfl) (hg:Gl X x:=by rfl) (oQ:body≠[]:=by simp) (jS:iM x:=by decide) :
  JW X M L rk (.ExceptHandler (Z<|.Name x np) (Z nm) body pos::hs) (GG hit (Z i) u r):=by
 obtain⟨th,ph,qh⟩:=hr;refine⟨_,ř hN hi hl hg hm (λa=>(hb a).choose_spec.1) ph oQ jS,λF0 B F H O U o E a c d rs dt e z=>?_⟩;obtain⟨b,h1,h2⟩:=dh e;refine⟨b,hh c b h1,?_⟩;cases b with
 |true=>
  rw[if_pos rfl]at h2 ⊢;obtain⟨o1,h3,h4⟩:=dh h2;have back:∀{ρ':Env} {σ':St} {F2 H2:Hp},RS X.K M F0 B (L.set i<|.px<|.ref a) F2 H2 ρ' σ'->RS X.K M F0 B L F2 H2 (ρ'.set i S) (σ'.set i S):=λq=>by
   have q2:=q.forget (.ow 0) i;rw[rn]at q2;have e2:L.set i (.ow 0)=L:=by
    apply mL;intro j;rw[rl];split
    ·next h=>subst h;rw[Dp,if_pos (ee.mp Dp).1]
    ·rfl
   rw[e2]at q2;have q3:=q2.unset Dp;rw[rn]at q3;exact q3
  refine(hb a).choose_spec.2 F0 B F H (O.set i<|Z d) (U.set i<|Z<|.ref a) o1 _ (rs.setP dt) h3 ?_;cases o1 with
  |nx ρ'=>cases h4;exactλσ' F' G q=>z _ F' G<|back q
  |bk ρ'=>cases h4;exactλσ' F' G q=>z _ F' G<|back q
  |ct ρ'=>cases h4;exactλσ' F' G q=>z _ F' G<|back q
  |rt d=>cases h4;exact z
 |false=>rw[if_neg di]at h2 ⊢;exact qh F0 B F H O U o E a c d rs dt h2 z
theorem SL.atP {v:V}(h:SL K M F B H L O U fp):L[i]?=Z (.px v)->O[i]?=Z (Z d)->U[i]?=Z (Z v)/\Al K M F B 1 d v:=by
 induction h generalizing i with
 |nil=>intro e;simp at e
 |no t ih=>intro e e';cases i with
  |zero=>simp at e'
  |succ i=>simpa using ih (by simpa using e) (by simpa using e')
 |al h t ih=>intro e e';cases i with
  |zero=>simp at e
  |succ i=>simpa using ih (by simpa using e) (by simpa using e')
 |so h t ih=>intro e e';cases i with
  |zero=>simp at e
  |succ i=>simpa using ih (by simpa using e) (by simpa using e')
 |ow h t ih=>intro e e';cases i with
  |zero=>simp at e
  |succ i=>simpa using ih (by simpa using e) (by simpa using e')
 |px h t ih=>intro e e';cases i with
  |zero=>simp at e e';subst e;subst e';exact⟨rfl,h⟩
  |succ i=>simpa using ih (by simpa using e) (by simpa using e')
theorem jc {a:cZ}{pn:my}(Fn:vF JP X.prog X.w X.K X.mg X.base kk fa fd ps<|iP X.K M [1] rk mf)(hr:lq kk X.A)(hA:X.A.handled=Z (.ref a))(hm:X.mg x=Z (.ref fa))(hk:dQ X.K (.ref fa)=Â)(hb:fK X.K fd ps [])
  (hi:L[i]?=Z (.px<|.ref a):=by rfl) (hg:Gl X x:=by rfl) (hN:X.N[i]?=Z y:=by rfl) (hv:pN X.env.scope y:=by walk_at "v1") (hd:iM y:=by decide) (iY:qD y:=by decide)
  (jS:iM x:=by decide) (he:dM [.Name y pn] X.env=(Ã,eP (.Name y pn) X.env)::dM [] X.env:=by rfl) (iD:lV X pos []:=by rfl) :
  XO X M L rk (.Call (.Name x pp) [.Name y pn] [] pos) (λO=>(J i O).bind λd=>mf [d]):=by
 refine⟨_,Z2 Fn hr hA hg hm hk hb oF hN hv hd iY jS he iD,λF0 B F H O U r Q rs e w=>?_⟩;obtain⟨d,h1,h2⟩:=dh e;obtain⟨fp,sl,_,_⟩:=rs.sl;obtain⟨q1,q2⟩:=sl.atP hi<|zq h1;exact⟨q1,F,[d],r,rs.fh,.cons (q2.mono (.refl _) rs.bh) .nil,h2,w⟩
theorem Nc {w:d5}(Fn:Þ K x qual st fa fd)(S':eK (N0::N) [N0]<|dH st)
  (body:∀(a:cZ) (gH:cU) (A:dO) (outer:List PySem.Env) (s:de) (H:Hp) (E:XK),lq kk (A.deeper<|envOfC qual (dH st) s.heap.objs.size fa gH)->A.handled=Z (.ref a)->tH (JY P w K mg base (N0::N) qual (dH st) fa gH A outer s H E).nox M (.px (.ref a)::L) rk (gz st) bf)
  (CB:L.length=N.length:=by rfl) :
  vF JP P w K mg base (kk+1) fa fd [N0] (iP K M [1] rk<|Ñ (N0::N) bf):=by
 obtain⟨oc,od,dV,kV,doc,Qc,an,gH,Ph,Bc,rfl,lk,iY⟩:=Fn.ex;refine ũ lk iY S' (iP.len rfl) λA outer s H vs Q E hr Ib h=>?_;obtain⟨a,Hm,hA,rfl⟩:=Ib;obtain⟨F,Y,d,sF,l,hm,q⟩:=h;obtain⟨t,pt,qt⟩:=body a gH A outer s H E hr hA;refine⟨t,pt.nox,?_⟩;obtain⟨o,h1,h2⟩:=dh hm;cases l with
 |cons l1 l2=>
  cases l2;refine qt F H F H (Î (N0::N) [_]) (L2.start (N0::N) [.ref a]) o _ ⟨.refl _,.refl _,sF,λ_ _ _ _ h=>h,[],?_,d4,λa z=>(by cases z)⟩ h1 ?_
  ·unfold Î L2.start;have:=SL.start (K:=K) (M:=M) (F:=F) (B:=H) (H:=H) (L:=L) (pm:=[]) N.length .nil (λi n e=>by simp at e) (by simpa using CB);refine .px l1 ?_;have z:SL K M F H H L (dg N.length S) (dg N.length S) []:=by simpa using this
   exact z
  ·cases o with
   |nx O=>cases h2;exactλU F' G r=>q .non F' G [] ⟨r.f0,r.bh,r.fh,r.nf⟩ (Ow.scal .non rfl) d4 λa z=>(by cases z)
   |rt d'=>cases h2;exactλv F' G fp s1 s2 s3 s4 o nd hf=>q v F' G fp ⟨s1,s2,s3,s4⟩ o nd hf
   |bk O=>cases h2
   |ct O=>cases h2
def Nd (i:Nat)(f:EF):Env->Option (List D):=λO=>(J i O).bind λd=>match d with
 |.exc _ _ _=>Ú f O
 |_=>S
theorem Zd {a:cZ}(hA:X.A.handled=Z (.ref a))(hi:L[i]?=Z (.px<|.ref a))(he:XE X M L n e f):DG X True M L (n-1) tg e (Nd i f):=by
 obtain⟨t,pt,qt⟩:=he;refine⟨_,Z1 hA pt,λF0 B F H O U Y R rs e w=>?_⟩;unfold Nd at e;obtain⟨dx,h0,e⟩:=dh e;obtain⟨fp,sl,_,_⟩:=rs.sl;obtain⟨q1,q2⟩:=sl.atP hi<|zq h0;cases dx with
 |exc c ns es=>obtain⟨d,h1,h2⟩:=dh e;rw[qj h2]at h1;refine qt F0 B F H O U _ _ rs h1 λv F' G x l=>?_;obtain⟨b,vs,rfl,ha,hp⟩:=l.lst x.fh;obtain⟨a',dx,tb,ea,hx,_⟩:=q2.dtx.exc_inv;cases ea;refine⟨b,rfl,⟨vs,ha⟩,w _ F' G x ?_⟩;have ok:=JN (M:=M) (K:=X.K) (W':=G) hp λF2 H2 s1 s2 s3=>s2.seq ha;intro j F2 H2 s1 s2 s3;obtain⟨k1,k2⟩:=ok j F2 H2 s1 s2 s3;exact⟨k1,λhl=>⟨k2 hl,_,dx,tb,s3 _ _<|s1 _ _<|x.ff _ _ hx⟩⟩
 |_=>cases e
end
section
variable {a b c d e f g h i j k l m n o p q r s t x:Option D}{z:Env}
@[simp 2000] theorem ev0:J 0 (a::z)=a:=rfl
@[simp 2000] theorem es0:gC (a::z) 0 x=x::z:=rfl
@[simp 2000] theorem ev1:J 1 (a::b::z)=b:=rfl
@[simp 2000] theorem es1:gC (a::b::z) 1 x=a::x::z:=rfl
@[simp 2000] theorem ev2:J 2 (a::b::c::z)=c:=rfl
@[simp 2000] theorem es2:gC (a::b::c::z) 2 x=a::b::x::z:=rfl
@[simp 2000] theorem ev3:J 3 (a::b::c::d::z)=d:=rfl
@[simp 2000] theorem es3:gC (a::b::c::d::z) 3 x=a::b::c::x::z:=rfl
@[simp 2000] theorem ev4:J 4 (a::b::c::d::e::z)=e:=rfl
@[simp 2000] theorem es4:gC (a::b::c::d::e::z) 4 x=a::b::c::d::x::z:=rfl
@[simp 2000] theorem ev5:J 5 (a::b::c::d::e::f::z)=f:=rfl
@[simp 2000] theorem es5:gC (a::b::c::d::e::f::z) 5 x=a::b::c::d::e::x::z:=rfl
@[simp 2000] theorem ev6:J 6 (a::b::c::d::e::f::g::z)=g:=rfl
@[simp 2000] theorem es6:gC (a::b::c::d::e::f::g::z) 6 x=a::b::c::d::e::f::x::z:=rfl
@[simp 2000] theorem ev7:J 7 (a::b::c::d::e::f::g::h::z)=h:=rfl
@[simp 2000] theorem es7:gC (a::b::c::d::e::f::g::h::z) 7 x=a::b::c::d::e::f::g::x::z:=rfl
@[simp 2000] theorem ev8:J 8 (a::b::c::d::e::f::g::h::i::z)=i:=rfl
@[simp 2000] theorem es8:gC (a::b::c::d::e::f::g::h::i::z) 8 x=a::b::c::d::e::f::g::h::x::z:=rfl
@[simp 2000] theorem ev9:J 9 (a::b::c::d::e::f::g::h::i::j::z)=j:=rfl
@[simp 2000] theorem es9:gC (a::b::c::d::e::f::g::h::i::j::z) 9 x=a::b::c::d::e::f::g::h::i::x::z:=rfl
@[simp 2000] theorem Um:J 10 (a::b::c::d::e::f::g::h::i::j::k::z)=k:=rfl
@[simp 2000] theorem Ua:gC (a::b::c::d::e::f::g::h::i::j::k::z) 10 x=a::b::c::d::e::f::g::h::i::j::x::z:=rfl
@[simp 2000] theorem Uo:J 11 (a::b::c::d::e::f::g::h::i::j::k::l::z)=l:=rfl
@[simp 2000] theorem Ub:gC (a::b::c::d::e::f::g::h::i::j::k::l::z) 11 x=a::b::c::d::e::f::g::h::i::j::k::x::z:=rfl
@[simp 2000] theorem Uq:J 12 (a::b::c::d::e::f::g::h::i::j::k::l::m::z)=m:=rfl
@[simp 2000] theorem Uc:gC (a::b::c::d::e::f::g::h::i::j::k::l::m::z) 12 x=a::b::c::d::e::f::g::h::i::j::k::l::x::z:=rfl
@[simp 2000] theorem Ur:J 13 (a::b::c::d::e::f::g::h::i::j::k::l::m::n::z)=n:=rfl
@[simp 2000] theorem Ud:gC (a::b::c::d::e::f::g::h::i::j::k::l::m::n::z) 13 x=a::b::c::d::e::f::g::h::i::j::k::l::m::x::z:=rfl
@[simp 2000] theorem Us:J 14 (a::b::c::d::e::f::g::h::i::j::k::l::m::n::o::z)=o:=rfl
@[simp 2000] theorem Ue:gC (a::b::c::d::e::f::g::h::i::j::k::l::m::n::o::z) 14 x=a::b::c::d::e::f::g::h::i::j::k::l::m::n::x::z:=rfl
@[simp 2000] theorem Ut:J 15 (a::b::c::d::e::f::g::h::i::j::k::l::m::n::o::p::z)=p:=rfl
@[simp 2000] theorem Ug:gC (a::b::c::d::e::f::g::h::i::j::k::l::m::n::o::p::z) 15 x=a::b::c::d::e::f::g::h::i::j::k::l::m::n::o::x::z:=rfl
@[simp 2000] theorem Uu:J 16 (a::b::c::d::e::f::g::h::i::j::k::l::m::n::o::p::q::z)=q:=rfl
@[simp 2000] theorem Uh:gC (a::b::c::d::e::f::g::h::i::j::k::l::m::n::o::p::q::z) 16 x=a::b::c::d::e::f::g::h::i::j::k::l::m::n::o::p::x::z:=rfl
@[simp 2000] theorem Uv:J 17 (a::b::c::d::e::f::g::h::i::j::k::l::m::n::o::p::q::r::z)=r:=rfl
@[simp 2000] theorem Ui:gC (a::b::c::d::e::f::g::h::i::j::k::l::m::n::o::p::q::r::z) 17 x=a::b::c::d::e::f::g::h::i::j::k::l::m::n::o::p::q::x::z:=rfl
@[simp 2000] theorem Uw:J 18 (a::b::c::d::e::f::g::h::i::j::k::l::m::n::o::p::q::r::s::z)=s:=rfl
@[simp 2000] theorem Uj:gC (a::b::c::d::e::f::g::h::i::j::k::l::m::n::o::p::q::r::s::z) 18 x=a::b::c::d::e::f::g::h::i::j::k::l::m::n::o::p::q::r::x::z:=rfl
@[simp 2000] theorem Ux:J 19 (a::b::c::d::e::f::g::h::i::j::k::l::m::n::o::p::q::r::s::t::z)=t:=rfl
@[simp 2000] theorem Uk:gC (a::b::c::d::e::f::g::h::i::j::k::l::m::n::o::p::q::r::s::t::z) 19 x=a::b::c::d::e::f::g::h::i::j::k::l::m::n::o::p::q::r::s::x::z:=rfl
end
def Np:iS->Option D
 |.ok d=>Z d
 |.xc _=>S
def Cq (m:List D->Option iS)(Y:List D):Option D:=(m Y).bind Np
section
variable {w:d5}{f:cZ}{fd:c9}{m:List D->Option iS}
theorem Sl {vs:List V}(h:iP K M pm rk (Cq m) vs H Q E):nS K M pm rk m vs H Q λ_ _ _=>False:=by
 obtain⟨F,Y,d,s,l,e,z⟩:=h;obtain⟨r,e1,e2⟩:=dh e;cases r with
 |ok d'=>cases e2;exact⟨F,Y,.ok d,s,l,e1,z⟩
 |xc _=>cases e2
theorem Ϙ (F:dR P w K mg base (rg P w) k f fd ps<|nS K M pm rk m):dR P w K mg base fL k f fd ps (iP K M pm rk<|Cq m) :=
 ⟨λvs H Q _ h=>F.len vs H Q _<|Sl h,λA outer s H args us vs Q _ hr e0 hb hv h=>ig (F.run A outer s H args us vs Q _ hr e0 hb hv<|Sl h) λr s' q=>by
  cases r with
  |error e=>obtain⟨_,_,_,_,_,_,_,_,_,_,_,z⟩:=q;exact z.elim
  |ok fl=>cases fl<;>exact q⟩
end
section
variable {fd:c9}
def CK (p:BM):BM:=λO=>(p O).bind λr=>Z (!r.1,r.2)
theorem SG {g:BM}(ha:DH X M L a g):DH X M L (.UnaryOp .Not a pos) (CK g):=by obtain⟨t,pt,qt⟩:=ha;refine⟨_,SY pt,λF0 B F H O ρ' U r Q rs e w=>?_⟩;obtain⟨⟨x,ρ1⟩,h1,h2⟩:=dh e;cases h2;exact qt F0 B F H O ρ1 U x _ rs h1 λF1 H1 r1=>w F1 H1 r1
def mB (f:EM):BM:=λO=>(f O).bind λr=>(DM r.1).bind λb=>Z (b,r.2)
theorem SH (he:XM X M L e gm)(hi:∀whole,vC e X.env whole=(do let v ← whole;ij e.pos;fH [v] (truthy v)):=by intro _;rfl):DH X M L e (mB gm):=by obtain⟨t,pt,qt⟩:=he;refine⟨_,ON pt hi,λF0 B F H O ρ' U b Q rs e w=>?_⟩;obtain⟨⟨d,ρ1⟩,h1,h2⟩:=dh e;obtain⟨b',h3,h4⟩:=dh h2;cases h4;have h3:DM d=Z b:=h3;rw[wy h3]at h1;exact qt F0 B F H O ρ1 U _ _ rs h1 λv F' G r l=>⟨b,Al.bl (n:=0) (W':=G) l,w F' G r⟩
end
def A6 (p q:EM):EM:=λO=>(p O).bind λr=>(DM r.1).bind λt=>if t=Â then q r.2 else Z (.bl Ã,r.2)
theorem ŕ {g1 g2:EM}(ha:XM X M L a g1)(hb:XM X M L b g2):XM X M L (.BoolOp .And [a,b] pos) (A6 g1 g2):=by
 obtain⟨t,pt,qt⟩:=ha;obtain⟨u,pu,qu⟩:=hb;refine⟨_,S1 pt<|S0 pu,λF0 B F H O ρ' U d Q rs e w=>?_⟩;obtain⟨⟨d1,ρ1⟩,h1,h2⟩:=dh e;obtain⟨x,h3,h4⟩:=dh h2;have h3:DM d1=Z x:=h3;rw[wy h3]at h1;refine qt F0 B F H O ρ1 U _ _ rs h1 λv F1 H1 r1 l=>⟨x,Al.bl (n:=0) (W':=H1) l,?_⟩;cases x with
 |true=>rw[if_pos rfl];exact qu F0 B F1 H1 ρ1 ρ' U d _ r1 h4 w
 |false=>cases h4;rw[if_neg di];exact w _ F1 H1 r1<|.bl _
theorem qp {α:Type}{x:Str}{v:α}:∀{ns:List Str} {vs:List α},ns.length=vs.length->ns.contains x=Â->(ns.zip<|kj x v ns vs).lookup x=Z v
 |[],_,_,h=>by cases h
 |_::_,[],h,_=>by cases h
 |n::ns,w::vs,h,hc=>by
  unfold kj;by_cases e:n=x
  ·subst e;rw[if_pos rfl,ez,dC,beq_self_eq_true]
  ·rw[if_neg e,ez,dC,beq_eq_false_iff_ne.mpr<|Ne.symm e];refine qp (by simpa using h) ?_;rw[hW,iV]at hc;exact hc.resolve_left λz=>e (eq_of_beq z).symm
theorem Rq {α:Type}{x:Str}{v:α}:∀{ns:List Str} {vs:List α},(ns.zip vs).lookup x=Z v->kj x v ns vs=vs
 |[],_,_=>by unfold kj;rfl
 |_::_,[],_=>by unfold kj;rfl
 |n::ns,w::vs,h=>by
  rw[ez,dC]at h;unfold kj;by_cases e:n=x
  ·subst e;rw[beq_self_eq_true]at h;cases h;rw[if_pos rfl]
  ·rw[beq_eq_false_iff_ne.mpr<|Ne.symm e]at h;rw[if_neg e,Rq h]
theorem RP {α:Type}{x:Str}{v:α}:∀{ns:List Str} {vs:List α},(ns.zip vs).lookup x=Z v->ns.contains x=Â
 |[],_,h=>by simp at h
 |_::_,[],h=>by simp at h
 |n::ns,w::vs,h=>by
  rw[ez,dC]at h;rw[hW,iV];by_cases e:x=n
  ·exact .inl (by rw[e];exact beq_self_eq_true n)
  ·rw[beq_eq_false_iff_ne.mpr e]at h;exact .inr<|RP h
theorem Rr {α:Type}{x:Str}:∀{ns:List Str} {vs:List α},ns.contains x=Ã->(ns.zip vs).lookup x=S
 |[],_,_=>by simp
 |_::_,[],_=>by simp
 |n::ns,w::vs,h=>by rw[hW,oV]at h;rw[ez,dC,h.1];exact Rr h.2
def Ff (i:Nat)(cs:List Nat)(f:EF):SF:=λO=>(f O).bind λd=>(J i O).bind λo=>match o,d with
 |.obj c ns Y,.lst es=>if cs.contains c=Â/\ns.contains "puts"=Â/\ns.length<900 then Z (.nx<|O.set i<|Z<|.obj c ns<|kj "puts" (.cel es) ns Y)else S
 |_,_=>S
theorem kE.own {ns:List Str}{vs:List V}{es:List D}{b:cZ}(h1:(ns.zip Y).lookup ("puts":Str)=Z (.cel es))(h2:(ns.zip vs).lookup ("puts":Str)=Z (.ref b))(h3:F b=S)(h4:H b=Z (.lst us))(h5:Pr (Dt K M F) es us):kE K M F H ns Y vs [b]:=by unfold kE;rw[h1];exact⟨b,us,h2,rfl,h3,h4,h5⟩
theorem ϗ (hC:oh X.K M L i)(hc:∀c∈cs,mQ X.K (M c)/\gk X.K (M c) "puts")(he:XO X M L 1 e f)(hN:X.N[i]?=Z s:=by rfl)(hv:pN X.env.scope s:=by walk_at "v1")(hd:iM s:=by decide)
  (iY:qD s:=by decide) (hs:gc e (Z<|.Attribute (.Name s p1) "puts" pos') pos.line X.env=pure Ã:=by rfl):XS X M L rk (.Assign [.Attribute (.Name s p1) "puts" pos'] e pos) (Ff i cs f):=by
 obtain⟨t,pt,qt⟩:=he;refine⟨_,JK (yb hN hv hd iY) pt hs,λF0 B F H O U o E rs e z=>?_⟩;obtain⟨d,h1,h2⟩:=dh e;obtain⟨ob,h3,h4⟩:=dh h2;refine qt F0 B F H O U d _ rs h1 λy F1 H1 fp x1 oe ne hf=>?_;cases ob with
 |obj c ns Y=>
  cases d with
  |lst es=>
   dsimp only at h4;by_cases hz:cs.contains c=Â/\ns.contains "puts"=Â/\ns.length<900
   ·rw[if_pos hz]at h4;cases h4;obtain⟨xa,fq,hσ,ow,nq,hB,put⟩:=hC _ _ _ _ _ _ _ rs (zq h3) rfl;obtain⟨a,dx,vs,fr,e1,⟨fb,rfl,cf⟩,hF,hH,hl,ol⟩:=ow.obj_inv;cases e1;have Dl:Y.length=vs.length:=ol.length;have ol:Pr (Dt X.K M F) Y vs:=ol.pr λ_ _ _ _ q=>q.1;obtain⟨b,us,f0,rfl,rfl,bF,bH,bl⟩:=oe.lst_inv;have e0:=bl.nil0;subst e0;have hb:H b=S:=hf b cV;have nb:b≠xa:=λe=>by rw[e,hH]at hb;cases hb
    have hh:=hc c (by simpa using hz.1);have hX:=x1.hh _ _ hH;have fX:F1 xa=S:=x1.nf _ _ hH nofun hF;refine⟨_,hσ,xa,_,dx,_,rfl,hX,hh.1,hh.2,by rw[gx,←hl,iB];lia,?_⟩;rw[KU hl hz.2.1];refine z U F1 _ (put F1 _ _ (xa::([b]++[])) x1.ff (λx o h nx=>?_) (λx o h=>?_) (λx o h _ t hn=>x1.nf x o h t hn) (.inr<|Aj.obj (vs:=kj "puts" (.ref b) ns vs) fX zo (by rw[Of];exact hl) (kE.own (qp (by rw[Dl,hl]) hz.2.1) (qp hl hz.2.1) bF (by rw[zn nb];exact bH)<|bl.pr λ_ _ _ _ q=>q.1)<|iW.ofPr<|(K5 .cel ol).mono λ_ _ q=>⟨q.mono x1.ff,rfl⟩) ?_ λx z=>?_)
    ·rw[zn<|λe=>nx<|by rw[e];exact cV];exact x1.hh _ _ h
    ·rw[zn<|λe=>by rw[e,fX]at h;cases h];exact x1.fh _ _ h
    ·simp[Ne.symm nb]
    ·simp at z;rcases z with rfl|rfl
     ·exact .inl cV
     ·exact .inr hb
   ·rw[if_neg hz]at h4;cases h4
  |_=>cases h4
 |_=>cases h4
def Be (i:Nat)(cs:List Nat)(f:EF):SF:=λO=>(J i O).bind λo=>(f O).bind λd=>match o with
 |.obj c ns Y=>match (ns.zip Y).lookup ("puts":Str)with
  |some (.cel es)=>if cs.contains c=Â/\es.length<16777216 then Z (.nx<|O.set i<|Z<|.obj c ns<|kj "puts" (.cel<|es++[d]) ns Y)else S
  |_=>S
 |_=>S
theorem ϖ (hC:oh X.K M L i)(hc:∀c∈cs,mQ X.K (M c)/\gk X.K (M c) "puts")(he:XE X M L 0 e f)(hN:X.N[i]?=Z s:=by rfl)(hv:pN X.env.scope s:=by walk_at "v1")(hd:iM s:=by decide)
  (iY:qD s:=by decide) (jH:SE X e []:=by rfl)
  (Mq:lU (.Name s p1) "puts" X.env (eP (.Name s p1) X.env)=eP (.Name s p1) X.env:=by rfl)
  (lr:lU (.Attribute (.Name s p1) "puts" p2) "append" X.env (eP (.Attribute (.Name s p1) "puts" p2) X.env)=eP (.Attribute (.Name s p1) "puts" p2) X.env:=by rfl)
  (oq:DD X fP [e]:=by rfl)
  (lz:(fG.endLine==fP.line)=Â:=by rfl) (jG:lV X fP []:=by rfl)
  (CF:gc (.Call (.Attribute (.Attribute (.Name s p1) "puts" p2) "append" fG) [e] [] fP) S pos.line X.env=pure Ã:=by rfl) :
  XS X M L rk (.Expr (.Call (.Attribute (.Attribute (.Name s p1) "puts" p2) "append" fG) [e] [] fP) pos) (Be i cs f):=by
 obtain⟨t,pt,qt⟩:=he;refine⟨_,w9 (Fv PySem.F.plainAttrs_list PySem.F.slot_list_append PySem.F.type_list_append N7 (OQ (yb hN hv hd iY) Mq) (ya pt yz jH) lr oq lz jH jG) CF,λF0 B F H O U o E rs e z=>?_⟩;obtain⟨ob,d,h1,h2,h3⟩:=fE e;cases ob with
 |obj c ns Y=>
  dsimp only at h3;cases BD:(ns.zip Y).lookup ("puts":Str)with
  |none=>rw[BD]at h3;cases h3
  |some d1=>
   rw[BD]at h3;cases d1 with
   |cel es=>
    dsimp only at h3;by_cases hz:cs.contains c=Â/\es.length<16777216
    ·rw[if_pos hz]at h3;cases h3;obtain⟨xa,fq,hσ,ow,nq,hB,put⟩:=hC _ _ _ _ _ _ _ rs (zq h1) rfl;obtain⟨a,dx,vs,fr,e1,⟨fb,rfl,cf⟩,hF,hH,hl,ol⟩:=ow.obj_inv;cases e1;have Dl:Y.length=vs.length:=ol.length;have e0:=ol.nil0;subst e0;have ol:Pr (Dt X.K M F) Y vs:=ol.pr λ_ _ _ _ q=>q.1;unfold kE at cf;rw[BD]at cf;obtain⟨b,us,c1,rfl,bF,bH,bl⟩:=cf;have hh:=hc c (by simpa using hz.1);have nb:b≠xa:=λe=>by simp[e]at nq
     refine⟨_,hσ,xa,_,dx,_,_,rfl,hH,hh.1,hh.2,c1,.inl ⟨rfl,_,i6.of bH⟩,qt F0 B F H O U d _ rs h2 λv2 F' G x1 l=>?_⟩;have fX:F' xa=S:=x1.nf _ _ hH nofun hF;have G4:F' b=S:=x1.nf _ _ bH nofun bF;refine⟨b,us,v2,rfl,rfl,x1.hh _ _ bH,by rw[←bl.length,eD];exact hz.2,?_⟩;refine z U F' _ (put F' _ _ (xa::([b]++[])) x1.ff (λx o h nx=>?_) (λx o h=>?_) (λx o h _ t hn=>x1.nf x o h t hn) (.inr<|Aj.obj (vs:=vs) fX (by rw[zn<|Ne.symm nb];exact x1.hh _ _ hH) hl (kE.own (qp (by rw[Dl,hl])<|RP BD) c1 G4 zo<|(bl.mono λ_ _ q=>q.mono x1.ff).append<|.cons l .nil)<|iW.ofPr ?_) (by simpa using nq) λx z=>.inl z)
     ·rw[zn<|λe=>nx<|by rw[e];simp];exact x1.hh _ _ h
     ·rw[zn<|λe=>by rw[e,G4]at h;cases h];exact x1.fh _ _ h
     ·have:=K5 (f:="puts") (d:=.cel<|es++[d]) (y:=V.ref b) .cel (ns:=ns) ol;rw[Rq c1]at this;exact this.mono λ_ _ q=>⟨q.mono x1.ff,rfl⟩
    ·rw[if_neg hz]at h3;cases h3
   |_=>cases h3
 |_=>cases h3
def FJ (cs:List Nat):D->Option D
 |.obj c ns Y=>if cs.contains c=Â then match (ns.zip Y).lookup ("puts":Str)with
  |some (.cel es)=>Z<|.lst es
  |some (.lst es)=>Z<|.lst es
  |_=>S else S
 |_=>S
theorem ϕ (hC:oh X.K M L i)(hc:∀c∈cs,mQ X.K (M c)/\gk X.K (M c) "puts")(hN:X.N[i]?=Z s:=by rfl)(hv:pN X.env.scope s:=by walk_at "v1")(hd:iM s:=by decide)
  (iY:qD s:=by decide) (Mq:lU (.Name s p1) "puts" X.env (eP (.Name s p1) X.env)=eP (.Name s p1) X.env:=by rfl):XE X M L 1 (.Attribute (.Name s p1) "puts" pos) (e1 (FJ cs)<|J i):=by
 refine⟨_,OQ (yb hN hv hd iY) Mq,λF0 B F H O U r Q rs e w=>?_⟩;obtain⟨ob,h1,h2⟩:=dh e;cases ob with
 |obj c ns Y=>
  unfold FJ at h2;dsimp only at h2;by_cases hz:cs.contains c=Â
  ·rw[if_pos hz]at h2;obtain⟨xa,fq,hσ,ow,_⟩:=hC _ _ _ _ _ _ _ rs (zq h1) rfl;obtain⟨a,dx,vs,fr,e1,⟨fb,rfl,cf⟩,hF,hH,hl,ol⟩:=ow.obj_inv;cases e1;have ol:Pr (Dt X.K M F) Y vs:=ol.pr λ_ _ _ _ q=>q.1;have hh:=hc c (by simpa using hz);cases BD:(ns.zip Y).lookup ("puts":Str)with
   |none=>rw[BD]at h2;cases h2
   |some d1=>
    rw[BD]at h2;obtain⟨u,hu,du⟩:=vo ol BD;cases d1 with
    |cel es=>cases h2;unfold kE at cf;rw[BD]at cf;obtain⟨b,us,c1,rfl,bF,bH,bl⟩:=cf;exact⟨_,hσ,xa,_,dx,_,_,rfl,hH,hh.1,hh.2,c1,w _ F H (.refl rs.fh)<|.inr<|.lst bH bl⟩
    |lst es=>cases h2;exact⟨_,hσ,xa,_,dx,_,u,rfl,hH,hh.1,hh.2,hu,w u F H (.refl rs.fh)<|.inl du⟩
    |_=>cases h2
  ·rw[if_neg hz]at h2;cases h2
 |_=>cases h2
theorem ϔ (hc:∀c∈cs,mQ X.K (M c)/\gk X.K (M c) "puts")(he:XE X M (.so x0::L) 0 e f)(hn:∀O d,f O=Z d->∀es,d≠.cel es)(hN:X.N[0]?=Z s:=by rfl)(hv:pN X.env.scope s:=by walk_at "v1")(hd:iM s:=by decide)
  (iY:qD s:=by decide) (hs:gc e (Z<|.Attribute (.Name s p1) "puts" pos') pos.line X.env=pure Ã:=by rfl):XS X M (.so x0::L) rk (.Assign [.Attribute (.Name s p1) "puts" pos'] e pos) (l6 cs "puts" f):=by
 obtain⟨t,pt,qt⟩:=he;refine⟨_,JK (yb hN hv hd iY) pt hs,λF0 B F H O U o E rs e z=>?_⟩;obtain⟨d,h1,h2⟩:=dh e;obtain⟨ob,h3,h4⟩:=dh h2;refine qt F0 B F H O U d _ rs h1 λy F1 H1 x1 l=>?_;have m9:=rs.ext x1;obtain⟨fq,hσ,ow,nq,hB,put⟩:=m9.pin (i:=0) rfl<|zq h3;refine⟨_,hσ,?_⟩;cases ob with
 |obj c ns Y=>
  dsimp only at h4;by_cases hz:cs.contains c=Â/\ns.contains "puts"=Ã/\ns.length<900
  ·rw[if_pos hz]at h4;cases h4;obtain⟨a,dx,vs,fr,e1,⟨fb,rfl,cf⟩,hF,hH,hl,ol⟩:=ow.obj_inv;cases e1;have e0:=ol.nil0;subst e0;have Dl:Y.length=vs.length:=ol.length;have ol:Pr (Dt X.K M F1) Y vs:=ol.pr λ_ _ _ _ q=>q.1;have hh:=hc c (by simpa using hz.1);refine⟨x0,_,dx,_,rfl,hH,hh.1,hh.2,by rw[gx,←hl,iB];lia,?_⟩;rw[On hl hz.2.1];have FP:((ns++[("puts":Str)]).zip<|Y++[d]).lookup ("puts":Str)=Z d:=by rw[De<|hl.trans Dl.symm,List.lookup_append,Rr hz.2.1];rfl
   refine z U F1 _ (put F1 _ _ (x0::([]++[])) (.refl _) (λb o h ne=>by rw[zn<|λe=>ne<|by rw[e];exact cV];exact h) (λb o h=>?_) (λb o h _ _ hn=>hn) m9.nf (.inr<|Aj.obj (vs:=vs++[y]) hF zo (by simp[hl]) (kE.nil λes q=>?_)<|iW.ofPr<|(ol.append<|.cons l .nil).mono λ_ _ q=>⟨q,rfl⟩) (by simp) λb z=>.inl (by simp at z;rw[z];exact cV))
   ·rw[zn<|λe=>by rw[e,hF]at h;cases h];exact m9.fh _ _ h
   ·rw[FP]at q;cases q;exact hn _ _ h1 es rfl
  ·rw[if_neg hz]at h4;cases h4
 |_=>cases h4
section
variable {W':GK}{fd:c9}{mf:List D->Option iS}
def D5 (c0:Nat)(x:Str)(mf:List D->Option iS)(o:D)(Y:List D):Option iS:=match o with
 |.obj c ns _=>if c=c0/\ns.contains x=Ã then mf (o::Y)else S
 |_=>S
theorem zpd (hx:lp X W')(ho:XE X M L n o f)(c:mQ X.K<|M c0)(d:Dm X.K (M c0) x qn Hk ps fa fd)(Fn:dR X.prog X.w X.K X.mg X.base (rg X.prog X.w) kk fa fd ps<|nS X.K M (n::ns) rk mf)(hr:fw kq X.A)
  (ha:XA X M L (e::es) ns fs) (rG:kk<=kq:=by decide)
  (jH:SE X e es:=by rfl) (iD:lV X pos es:=by rfl)
  (ht:eP (.Call (.Attribute o x fG) (e::es) [] pos) X.env=(do
   let ov ← eP o X.env
   ij fG.atName
   let(f,first) ← fH [ov] (iU ov x pl)
   jK pos f first (gR pos<|dM (e::es) X.env) (ir pos<|fO [] X.env)):=by rfl) :
  EJ X W' M L rk (.Call (.Attribute o x fG) (e::es) [] pos) (λO=>(f O).bind λo=>(fs O).bind λY=>D5 c0 x mf o Y):=by
 obtain⟨u,pu,qu⟩:=ho;obtain⟨t,pt,_,qt⟩:=ha;refine⟨_,Z3 (i9:=[]) pu c d.me Fn (hr.mono rG) d.bd .nil hx pt jH iD ht,λF0 B F H O U r Q rs e w=>?_⟩;obtain⟨o,Y,h1,h2,h3⟩:=fE e;refine qu F0 B F H O U o _ rs h1 λv F1 H1 x1 l=>?_;cases o with
 |obj c1 wN rZ=>
  unfold D5 at h3;dsimp only at h3;split at h3
  ·rename_i hc;obtain⟨rfl,xL⟩:=hc;obtain⟨a,dx,vs,rfl,ha,hl,Dl⟩:=l.obj x1.fh;refine⟨a,dx,_,rfl,ha,j9 (vs:=vs) xL,?_⟩;refine qt F0 B F1 H1 O U Y _ (rs.ext x1) h2 λus F2 H2 x2 l2=>⟨F2,_,r,x2.fh,.cons (l.mono x2.ff x2.hh)<|by rw[d6];exact l2,h3,?_⟩;have Dx:=x1.trans x2;cases r with
   |ok d=>exactλv F3 H3 fp x3 o nd hf=>w v F3 H3 fp (Dx.trans x3) o nd λz hz=>Dx.hh.free<|hf z hz
   |xc d=>exactλa F3 H3 x3 ha xd=>Lw Dx x3 ha xd w
  ·cases h3
 |_=>cases h3
def JQ (X:Cx)(M:Nat->cZ)(ns:List Nat)(rk:Nat)(U':List<|Str×cU)(tb:List<|Str×(List D->Option iS)):Prop:=∀k mf,tb.lookup k=Z mf->∃f kk fd ps,U'.lookup k=Z (.ref f)/\dR X.prog X.w X.K X.mg X.base (rg X.prog X.w) kk f fd ps (nS X.K M ns rk mf)/\fw kk X.A/\dQ X.K (.ref f)=Â/\fK X.K fd ps []
theorem ϓ:JQ X M ns rk U' []:=λk mf h=>by cases h
theorem v8 {tb:List (Str×(List D->Option iS))}{k:Str}(hl:U'.lookup k=Z (.ref fa))(d:jN X.K X.mg x Hk ps fa fd)(Fn:dR X.prog X.w X.K X.mg X.base (rg X.prog X.w) kk fa fd ps<|nS X.K M ns rk mf)(hr:fw kq X.A)(t:JQ X M ns rk U' tb)(rG:kk<=kq:=by decide):JQ X M ns rk U' ((k,mf)::tb):=λk' Nh h=>by
 rw[dC]at h;cases e:k'==k with
 |true=>rw[e]at h;cases h;rw[eq_of_beq e];exact⟨fa,kk,fd,ps,hl,Fn,hr.mono rG,d.fn.kp,d.bd⟩
 |false=>rw[e]at h;exact t k' Nh h
def DS (tb:List<|Str×(List D->Option iS))(f:EF)(gs:Env->Option (List D)):B3:=λO=>(f O).bind λk=>match k with
 |.str z=>(tb.lookup z).bind λmf=>(gs O).bind mf
 |_=>S
theorem zpe {gs:Env->Option (List D)}{p3:my}{tb:List (Str×(List D->Option iS))}(hx:lp X W')(K:KD X.K X.w X.mg x da U')(hT:JQ X M ns rk U' tb)(hk:XE X M L n c f)(ha:XA X M L (e::es) ns gs)(hg:Gl X x:=by rfl)(hs:vY c:=by exactλ_ _=>rfl)
  (jS:iM x:=by decide) (he:SE X e es:=by rfl) (iD:lV X pos es:=by rfl) :
  EJ X W' M L rk (.Call (.Subscript (.Name x p2) c p3) (e::es) [] pos) (DS tb f gs):=by
 obtain⟨t,pt,_,qt⟩:=ha;obtain⟨tk,Nw,Ny⟩:=hk;refine⟨_,zrn (F:=λk f sp=>∃mf,tb.lookup k=Z mf/\U'.lookup k=Z (.ref f)/\sp=nS X.K M ns rk mf) K (λk f sp ⟨mf,h1,h2,h3⟩=>?_) hx hg Nw hs pt jS he iD,λF0 B F H O U r Q rs e w=>?_⟩
 ·obtain⟨f',kk,fd,ps,q1,q2,q3,q4,q5⟩:=hT k mf h1;rw[h2]at q1;cases q1;rw[h3];exact⟨kk,fd,ps,q2,q3,q4,q5⟩
 ·obtain⟨y,h1,h2⟩:=dh e;cases y with
  |str zz=>
   obtain⟨mf,h3,h4⟩:=dh h2;obtain⟨Y,h5,h6⟩:=dh h4;obtain⟨f',kk,fd,ps,q1,q2,q3,q4,q5⟩:=hT zz mf h3;refine Ny F0 B F H O U _ _ rs h1 λv F1 H1 x1 l1=>⟨zz,f',_,l1.str,q1,⟨mf,h3,q1,rfl⟩,?_⟩;refine qt F0 B F1 H1 O U Y _ (rs.ext x1) h5 λus F2 H2 x2 l2=>⟨F2,_,r,x2.fh,l2,h6,?_⟩;have Dx:=x1.trans x2;cases r with
   |ok d=>exactλv F3 H3 fp x3 o nd hf=>w v F3 H3 fp (Dx.trans x3) o nd λz hz=>Dx.hh.free<|hf z hz
   |xc d=>exactλa F3 H3 x3 ha xd=>Lw Dx x3 ha xd w
  |_=>cases h2
def rL (f:B3):n9:=λO=>(f O).bind λr=>match r with
 |.ok _=>S
 |.xc d=>Z<|.xc O d
theorem Oj {f:B3}(he:EJ X W' M L k e f)(hN:X.N[i]?=Z s:=by rfl)(hv:pN X.env.scope s:=by walk_at "v1")(hd:iM s:=by decide)
  (iY:qD s:=by decide) (hs:gc e (Z<|.Attribute (.Name s p1) x pos') pos.line X.env=pure Ã:=by rfl):Dj X W' M L rk (.Assign [.Attribute (.Name s p1) x pos'] e pos) (rL f):=by
 obtain⟨t,pt,qt⟩:=he;refine⟨_,JK (yb hN hv hd iY) pt hs,λF0 B F H O U o E rs e z=>?_⟩;obtain⟨r,h1,h2⟩:=dh e;refine qt F0 B F H O U r _ rs h1 ?_;cases r with
 |ok d=>cases h2
 |xc d=>cases h2;exactλa F' G x ha xd=>z a U F H F' G rs x ha xd
def D3 (f:EF):EM:=λO=>(f O).bind λd=>Z (d,O)
theorem ľ (he:XE X M L 0 e f):XM X M L e (D3 f):=by obtain⟨t,pt,qt⟩:=he;refine⟨t,pt,λF0 B F H O ρ' U d Q rs e z=>?_⟩;obtain⟨d1,h1,h2⟩:=dh e;cases h2;exact qt F0 B F H O U d _ rs h1 λv F1 H1 x1 l=>z v F1 H1 (rs.ext x1) l
end
def GX (K:cX)(M:Nat->cZ)(n:Nat)(mf:List D->Option D):Sp:=λvs H Q _=>∃(F:Hp) (Y:List D) (us:List V) (d p q p' q':D) (a b:cZ),vs=us++[.ref a,.ref b]/\Y.length=n/\d9 F H/\Pr (Dt K M F) Y us/\a≠b/\Ow K M F H 1 p (.ref a) [a]/\Ow K M F H 1 q (.ref b) [b]/\mf (Y++[p,q])=Z (.tup [d,p',q']) /\
 ∀v F' G,d9 F F'->(∀x o,H x=Z o->x≠a->x≠b->G x=Z o)->d9 F' G->(∀x o,H x=Z o->mh o->F x=S->F' x=S)->Ow K M F' G 1 p' (.ref a) [a]->Ow K M F' G 1 q' (.ref b) [b]->Dt K M F' d v->Q v G
theorem GX.len (h:n+2=ps.length):∀vs H Q E,GX K M n mf vs H Q E->vs.length=ps.length:=by rintro vs H Q E ⟨F,Y,us,d,p,q,p',q',a,b,rfl,hn,_,l,_⟩;rw[←h,←hn,l.length,d7];rfl
def IQ (n:Nat)(N:List Str)(bf:EM)(Y:List D):Option D:=(bf<|Î N Y).bind λr=>(r.2[n]?).join.bind λp=>(r.2[n+1]?).join.bind λq=>if tN p=Â/\tN q=Â then Z (.tup [r.1,p,q])else S
theorem zpf {w:d5}{fd:c9}{bf:EM}(Fn:Þ K x qual st fa fd)(S':eK N ps<|dH st)(Au:n+2=ps.length)(CB:n+2+L.length=N.length)
  (body:∀(a b:cZ) (gH:cU) (A:dO) (outer:List PySem.Env) (s:de) (H:Hp) (E:XK),fw kk (A.deeper<|envOfC qual (dH st) s.heap.objs.size fa gH)->By (nj fL P w K mg base N qual (dH st) fa gH A outer s H E).nox M (dg n (Mo.ow 0) ++ .so a::.so b::L) (gz st) bf) :
  dR P w K mg base fL (kk+1) fa fd ps (GX K M n<|IQ n N bf):=by
 refine Fn.ok S' (GX.len Au) λgH A outer s H vs Q E hr h=>?_;obtain⟨F,Y,us,d,p,q,p',q',a,b,rfl,hn,sF,l,FK,oa,ob,hm,z⟩:=h;subst hn;obtain⟨t,pt,qt⟩:=body a b gH A outer s H E hr;refine⟨t,pt,?_⟩;obtain⟨⟨d1,ρ'⟩,h1,h2⟩:=dh hm;obtain⟨p1,h3,h4⟩:=dh h2;obtain⟨q1,h5,h6⟩:=dh h4;by_cases hc:tN p1=Â/\tN q1=Â
 case neg=>rw[if_neg hc]at h6;cases h6
 rw[if_pos hc]at h6;cases h6;have MU:us.length=Y.length:=l.length.symm;have L7:=(oa.cells a cV).1;have G4:=(ob.cells b cV).1;have VP:d9 F (oZ (oZ H a) b):=λy o hy=>by rw[xx (λe=>by rw[e,G4]at hy;cases hy),xx<|λe=>by rw[e,L7]at hy;cases hy];exact sF _ _ hy
 have hB:d9 (oZ (oZ H a) b) H:=(wz _ _).trans<|wz _ _;refine qt F (oZ (oZ H a) b) F H (Î N<|Y++[p,q]) ρ' (L2.start N<|us++[.ref a,.ref b]) d1 _ ⟨.refl _,hB,sF,λ_ _ _ _ h=>h,[a,b],?_,by simp[FK],λy hy=>?_⟩ h1 ?_
 ·have e1:Î N (Y++[p,q])=Y.map Z++(Z p::Z q::dg L.length S):=by unfold Î;rw[show N.length-(Y++[p,q]).length=L.length by rw[d7];simp;lia];simp
  have e2:L2.start N (us++[.ref a,.ref b])=us.map Z++(Z (.ref a)::Z (.ref b)::dg L.length S):=by unfold L2.start;rw[show N.length-(us++[V.ref a,V.ref b]).length=L.length by rw[d7];simp;lia];simp
  rw[e1,e2];have:=SL.app (.so oa<|.so ob<|SL.none (K:=K) (M:=M) (F:=F) (B:=oZ (oZ H a) b) (H:=H) L)<|SL.start0 (B:=oZ (oZ H a) b) (H:=H) l;have h7:SL K M F (oZ (oZ H a) b) H (dg Y.length (Mo.ow 0)++Mo.so a::Mo.so b::L) (Y.map Z++(Z p::Z q::dg L.length S)) (us.map Z++(Z (.ref a)::Z (.ref b)::dg L.length S)) [a,b]:=by simpa using this
  exact h7
 ·simp at hy;rcases hy with rfl|rfl
  ·rw[xx FK];exact JO _ _
  ·exact JO _ _
 ·intro v σ' F' G r dt;obtain⟨f1,_,o1,_⟩:=r.pin (i:=Y.length) (x0:=a) (by simp)<|zq h3;obtain⟨f2,_,o2,_⟩:=r.pin (i:=Y.length+1) (x0:=b) (by simp)<|zq h5;obtain⟨_,e1,rfl⟩:=o1.cell1 hc.1;cases e1;obtain⟨_,e2,rfl⟩:=o2.cell1 hc.2;cases e2;refine z v F' G r.f0 (λy o hy n1 n2=>r.bh _ _<|by rw[xx n2,xx n1];exact hy) r.fh (λy o hy t hn=>?_) o1 o2 dt;by_cases ea:y=a
  ·subst ea;exact(o1.cells _ cV).1
  by_cases eb:y=b
  ·subst eb;exact(o2.cells _ cV).1
  exact r.nf y o (by rw[xx eb,xx ea];exact hy) t hn
section
def JU (X:Cx)(M:Nat->cZ)(L:List Mo)(i j:Nat)(es:List Expr)(f:Env->Option (List D)):Prop:=∃t,PA X es t/\∀(F0 B F H:Hp) (O:Env) (U:St) (Y:List D) (a b:cZ) (Q:List V->Hp->Prop),RS X.K M F0 B L F H O U->f O=Z Y->U[i]?=Z (Z<|.ref a)->U[j]?=Z (Z<|.ref b) ->
 (∀us F' G,iJ F H F' G->Pr (Dt X.K M F') Y us->Q (us++[.ref a,.ref b]) G)->t U H Q
theorem ϒ (hN:X.N[i]?=Z x:=by rfl)(hv:pN X.env.scope x:=by walk_at "v1")(hd:iM x:=by decide)(iY:qD x:=by decide)
  (UN:X.N[j]?=Z y:=by rfl) (Kn:pN X.env.scope y:=by walk_at "v1") (hd2:iM y:=by decide) (Mv:qD y:=by decide) :
  JU X M L i j [.Name x p1,.Name y p2] Å:=by
 refine⟨_,ya (yb hN hv hd iY)<|ya (yb UN Kn hd2 Mv) yz,λF0 B F H O U Y a b Q rs e ha hb z=>?_⟩;cases e;exact⟨_,ha,_,hb,z [] F H (.refl rs.fh) .nil⟩
theorem zpg (h1:XE X M L 0 a f)(h2:JU X M L i j es fs)(hs:SE X a es:=by rfl):JU X M L i j (a::es) (Ä f fs):=by obtain⟨t,pt,qt⟩:=h1;obtain⟨t2,sR,sX⟩:=h2;refine⟨_,ya pt sR hs,λF0 B F H O U Y xa xb Q rs e ha hb z=>?_⟩;obtain⟨d,rZ,g1,g2,g3⟩:=fE e;cases g3;refine qt F0 B F H O U d _ rs g1 λv F1 H1 x1 l=>?_;exact sX F0 B F1 H1 O U rZ xa xb _ (rs.ext x1) g2 ha hb λus F2 H2 x2 l2=>z (v::us) F2 H2 (x1.trans x2)<|.cons (Dt.mono x2.ff l) l2
def EN (i j:Nat)(fs:Env->Option (List D))(mf:List D->Option D):EM:=λO=>(fs O).bind λY=>(J i O).bind λp=>(J j O).bind λq=>if tN p=Â/\tN q=Â then(mf<|Y++[p,q]).bind λr=>match r with
 |.tup [d,p',q']=>Z (d,(O.set i<|Z p').set j<|Z q')
 |_=>S else S
theorem RS.two {p q:D}(rs:RS K M F0 B L F H O U)(Hd:i≠j)(Dp:L[i]?=Z (.ow 1))(He:L[j]?=Z (.ow 1))(hp:O[i]?=Z (Z p))(hq:O[j]?=Z (Z q))(cp:tN p=Â)(cq:tN q=Â) :
  ∃a b,U[i]?=Z (Z<|.ref a)/\U[j]?=Z (Z<|.ref b)/\a≠b/\Ow K M F H 1 p (.ref a) [a]/\Ow K M F H 1 q (.ref b) [b]/\B a=S/\B b=S /\
   ∀(F' G:Hp) (p' q':D),d9 F F'->(∀x o,H x=Z o->x≠a->x≠b->G x=Z o)->d9 F' G->(∀x o,H x=Z o->mh o->F x=S->F' x=S)->Ow K M F' G 1 p' (.ref a) [a]->Ow K M F' G 1 q' (.ref b) [b]->RS K M F0 B L F' G ((O.set i<|Z p').set j<|Z q') U:=by
 obtain⟨f1,fr,n1,b1,dj,i4,cf,put⟩:=rs.put (F':=F) (G:=H) Dp;obtain⟨v,hσ,ow⟩:=i4 p hp;obtain⟨a,rfl,rfl⟩:=ow.cell1 cp;obtain⟨f2,Uz,n2,b2,dj2,Vp,cf2,put2⟩:=rs.put (F':=F) (G:=H) He;obtain⟨v2,FZ,Nv⟩:=Vp q hq;obtain⟨b,rfl,rfl⟩:=Nv.cell1 cq;have ca:=ow.cells a cV;have cb:=Nv.cells b cV;have FK:a≠b:=by
  intro e;subst e;have r1:=put F (oZ H a) (.non) .non [] (.refl _) (λy o hy=>by rw[xx<|λe=>by rw[e,b1 a cV]at hy;cases hy];exact rs.bh _ _ hy) (λy o hy=>by rw[xx<|λe=>by rw[e,ca.1]at hy;cases hy];exact rs.fh _ _ hy) rs.nf
   (λy hy=>⟨xx<|λe=>dj a cV<|e▸hy,(cf y hy).1⟩) (Ow.scal .non rfl) d4 (λy hy=>by cases hy) (λy hy=>by cases hy)
  obtain⟨f3,J5,n3,b3,LQ,M0,Pg,put3⟩:=r1.put (F':=F) (G:=H) He;obtain⟨v3,IC,Ky⟩:=M0 q (by rw[gj Hd];exact hq);obtain⟨a3,rfl,rfl⟩:=Ky.cell1 cq;rw[gj Hd,FZ]at IC;cases IC;obtain⟨o,ho,_⟩:=(Ky.cells a cV).2;rw[JO]at ho;cases ho
 refine⟨a,b,hσ,FZ,FK,ow,Nv,b1 a cV,b2 b cV,λF' G p' q' s1 kH s3 nf o1 o2=>?_⟩;have Ba:=b1 a cV;have Bb:=b2 b cV;have L7:=(o1.cells a cV).1;have G4:=(o2.cells b cV).1;obtain⟨ob,Va,_⟩:=cb.2;have hm:∀y,y≠b->upd G b ob y=G y:=λy ne=>zn ne;have r1:=put F' (upd G b ob) p' (.ref a) [a] s1 (λy o hy=>by
   have na:y≠a:=λe=>by rw[e,Ba]at hy;cases hy
   have nb:y≠b:=λe=>by rw[e,Bb]at hy;cases hy
   rw[hm y nb];exact kH y o (rs.bh _ _ hy) na nb) (λy o hy=>by
   rw[hm y<|λe=>by rw[e,G4]at hy;cases hy];exact s3 _ _ hy) (λy o hy t hn=>nf y o (rs.bh _ _ hy) t<|rs.nf y o hy t hn) (λy hy=>by
   obtain⟨hn,o,ho,nt⟩:=cf y hy;refine⟨?_,nf y o ho nt hn⟩;have na:y≠a:=λe=>dj a cV<|e▸hy;by_cases nb:y=b
   ·subst nb;rw[zo,Va]
   ·rw[hm y nb,kH y o ho na nb,ho]) (o1.frame (.refl _) λy hy=>by
   rw[dW]at hy;subst hy;exact⟨hm _ FK,L7⟩) (by simp) (λy hy=>by
   rw[dW]at hy;subst hy;exact dj _ cV) (λy hy=>by
   rw[dW]at hy;subst hy;exact Ba)
 rw[Oq hσ]at r1;obtain⟨f3,J5,n3,b3,LQ,M0,Pg,put3⟩:=r1.put (F':=F) (G:=H) He;obtain⟨v3,IC,Ky⟩:=M0 q (by rw[gj Hd];exact hq);obtain⟨a3,rfl,rfl⟩:=Ky.cell1 cq;rw[FZ]at IC;cases IC;have r2:=put3 F' G q' (.ref b) [b] (.refl _) (λy o hy=>by
   have na:y≠a:=λe=>by rw[e,Ba]at hy;cases hy
   have nb:y≠b:=λe=>by rw[e,Bb]at hy;cases hy
   exact kH y o (rs.bh _ _ hy) na nb) s3 r1.nf (λy hy=>by
   have nb:y≠b:=λe=>LQ b cV<|e▸hy;exact⟨(hm y nb).symm,(Pg y hy).1⟩) o2 (by simp) (λy hy=>by
   rw[dW]at hy;subst hy;exact LQ _ cV) (λy hy=>by
   rw[dW]at hy;subst hy;exact Bb)
 rw[Oq FZ]at r2;exact r2
variable {fd:c9}
theorem ϑ (Hd:i≠j)(Dp:L[i]?=Z (.ow 1))(He:L[j]?=Z (.ow 1))(Fn:dR X.prog X.w X.K X.mg X.base fL kk fa fd ps<|GX X.K M n mf)(hr:fw kk X.A)(hg:Gl X x)(hm:X.mg x=Z (.ref fa))(hk:dQ X.K (.ref fa)=Â)
  (hb:fK X.K fd ps sd) (hd:eh [] sd) (hn:∀O Y,fs O=Z Y->Y.length=n) (ha:JU X M L i j (e::es) fs)
  (jS:iM x:=by decide) (he:SE X e es:=by rfl) (iD:lV X pos es:=by rfl) :
  XM X M L (.Call (.Name x pp) (e::es) [] pos) (EN i j fs mf):=by
 obtain⟨t,pt,qt⟩:=ha;refine⟨_,Oy Fn hr hg hm hk hb hd oF pt jS he iD,λF0 B F H O ρ' U d Q rs e z=>?_⟩;obtain⟨Y,h1,h2⟩:=dh e;obtain⟨p,h3,h4⟩:=dh h2;obtain⟨q,h5,h6⟩:=dh h4;by_cases hc:tN p=Â/\tN q=Â
 ·rw[if_pos hc]at h6;obtain⟨r,h7,h8⟩:=dh h6;have:∃p' q',r=.tup [d,p',q']/\ρ'=(O.set i<|Z p').set j (Z q'):=by
   split at h8
   ·cases h8;exact⟨_,_,rfl,rfl⟩
   ·cases h8
  obtain⟨p',q',rfl,rfl⟩:=this;obtain⟨a0,b0,hσ,FZ,_⟩:=rs.two Hd Dp He (zq h3) (zq h5) hc.1 hc.2;refine qt F0 B F H O U Y a0 b0 _ rs h1 hσ FZ λus F1 H1 x1 l=>?_;obtain⟨a,b,Du,IA,FK,oa,ob,Ba,Bb,put⟩:=(rs.ext x1).two Hd Dp He (zq h3) (zq h5) hc.1 hc.2;rw[hσ]at Du;rw[FZ]at IA;cases Du;cases IA;refine⟨F1,Y,us,d,p,q,p',q',a0,b0,by simp,hn _ _ h1,x1.fh,l,FK,oa,ob,h7,λv F' G s1 kH s3 nf o1 o2 dt=>?_⟩;exact z v F' G (put F' G p' q' s1 kH s3 nf o1 o2) dt
 ·rw[if_neg hc]at h6;cases h6
end
section
variable {w:d5}{f:cZ}{fd:c9}{m:Nat->List D->Option iS}
def AX (m:Nat->List D->Option iS)(c:Nat)(Y:List D):Option D:=(m c Y).bind Np
theorem RQ {vs:List V}(h:xG K M cs pm (AX m) vs H Q E):vX K M cs pm m vs H Q λ_ _ _=>False:=by
 obtain⟨F,c,Y,d,x,dx,us,h1,h2,h3,h4,h5,h6,e,z⟩:=h;obtain⟨r,e1,e2⟩:=dh e;cases r with
 |ok d'=>cases e2;exact⟨F,c,Y,.ok d,x,dx,us,h1,h2,h3,h4,h5,h6,e1,z⟩
 |xc _=>cases e2
theorem RR (F:dR P w K mg base (rg P w) k f fd ps<|vX K M cs pm m):dR P w K mg base fL k f fd ps (xG K M cs pm<|AX m) :=
 ⟨λvs H Q _ h=>F.len vs H Q _<|RQ h,λA outer s H args us vs Q _ hr e0 hb hv h=>ig (F.run A outer s H args us vs Q _ hr e0 hb hv<|RQ h) λr s' q=>by
  cases r with
  |error e=>obtain⟨_,_,_,_,_,_,_,_,_,_,_,z⟩:=q;exact z.elim
  |ok fl=>cases fl<;>exact q⟩
end
variable {xs:List Nat}
section
open PySem PySem.Spec PySem.W L2
open PyProof.Rows hiding St
section
variable {K:Frag}{h:dz}{q m:Str}{f N:cZ}{F9 pm M:cU}{dd:Option cZ}{fd:c9}{Y:List cU}{vs:List V}{o:gM}{p:Nat}
theorem ĥ (h:findIn K (.ref C) x=Z S):gk K C x:=h
theorem Ą (m j:Nat)(hm:m+vs.length=ps.length)(hd:fd.defaults=.ref T)(ho:K.lookup T=Z o)(hs:o.data=.seq items n)(hv:eh vs<|items.toList.drop j)(h:∀us:List cU,us.length=m->∃k,bindArgs fd ⟨us,[]⟩=seqItems? fd.defaults >>= k/\k (Z items)=pure (ps.zip<|us++items.toList.drop j)) :
  ∃sd,True/\eh vs sd/\fK K fd ps sd:=⟨_,trivial,hv,Ss m ho h hd hs<|by rw[←hv.length];exact hm⟩
theorem ö {nm:Str}{bs bm sub:List cU}{mU ab:Bool}{sn:List Str}{col:Option Bool}{k0 k1 k2 k3 k5:Option cU}(l:K.lookup C=Z (excClassObj nm q C N bs bm mU sn sub ab col dd k0 k1 k2 k3 k5 "ValueError.__new__"))(v:kI bm) :
  ∃(nm q:Str) (N:cZ) (bs bm:List cU) (mU:Bool) (sn:List Str) (sub:List cU) (ab:Bool) (col:Option Bool) (dd:Option cZ) (k0 k1 k2 k3 k5:Option cU),K.lookup C=Z (excClassObj nm q C N bs bm mU sn sub ab col dd k0 k1 k2 k3 k5 "ValueError.__new__")/\kI bm :=
 ⟨_,_,_,_,_,_,_,_,_,_,_,_,_,_,_,_,l,v⟩
end
theorem î {P:Nat->Prop}:∀c∈([]:List Nat),P c:=λ_ h=>nomatch h
theorem í {P:Nat->Prop}{x:Nat}(h:P x)(t:∀c∈xs,P c):∀c∈x::xs,P c:=λc hc=>by
 rcases dn.mp hc with rfl|hc
 ·exact h
 ·exact t c hc
end
section
open PySem PySem.Spec PySem.W L2
open PyProof.Rows hiding St
section
variable {K:Frag}{h:dz}{q m:Str}{f N:cZ}{F9 pm M:cU}{dd:Option cZ}{fd:c9}{Y:List cU}{vs:List V}{o:gM}{p:Nat}
theorem zC (X:K.In h:=by assumption)(W':h.Ns eQ mg:=by assumption)(a:nsIn K eQ x=Z (Z<|.ref C):=by k_is)(b:makesIn K C=Â:=by k_is)(k:keepIn K (.ref C)=Â:=by k_is)(c:mQ K C:=by exact⟨by k_is,by k_is,by k_is,by k_is⟩):Dc K mg x C:=⟨c,mg_of X W' a,b,k⟩
theorem zX {v:cU}(X:K.In h:=by assumption)(W':h.Ns eQ mg:=by assumption)(e:nsIn K eQ x=Z (Z v):=by k_is):mg x=Z v:=mg_of X W' e
theorem zB (X:K.In h:=by assumption)(W':h.Ns eQ mg:=by assumption)(e:nsIn K eQ x=Z S:=by k_is):mg x=S:=mg_none_of X W' e
theorem zG {i:Int}{t:Tok}(e:mg x=Z (.int i t):=by exact L3.zX):∃t,mg x=Z (.int i t):=⟨t,e⟩
theorem zD (X:mg x=Z (.ref f):=by exact L3.zX)(l:K.lookup f=Z ⟨oc,od,.func<|fnOf x x (lP st) (gz st) (dH st) dV F9 doc pm an gH M,Bc⟩:=by k_is)
  (c:codeIn K gH x=Â:=by k_is) (k:keepIn K (.ref f)=Â:=by k_is) (b:fK K (fnOf x x (lP st) (gz st) (dH st) dV F9 doc pm an gH M) ps []:=by first|exact .all (L3.ī λ_=>rfl)|exact .all (L3.Ī λ_ _=>rfl)|exact .all (L3.đ λ_ _ _=>rfl)|exact .all (L3.ċ λ_ _ _ _=>rfl)|exact .all (L3.č λ_ _ _ _ _=>rfl)|exact .all<|L3.İ λ_ _ _ _ _ _=>rfl):jN K mg x st ps f (fnOf x x (lP st) (gz st) (dH st) dV F9 doc pm an gH M):=⟨Sr l c k,X,b⟩
theorem zM (a:findIn K (.ref C) m=Z (Z<|.ref f):=by k_is)(i:isFn K (.ref f)=Â:=by k_is)(l:K.lookup f=Z ⟨oc,od,.func<|fnOf m q (lP st) (gz st) (dH st) dV F9 doc pm an gH M,Bc⟩:=by k_is)
  (c:codeIn K gH q=Â:=by k_is) (k:keepIn K (.ref f)=Â:=by k_is) (b:fK K (fnOf m q (lP st) (gz st) (dH st) dV F9 doc pm an gH M) ps []:=by first|exact .all (L3.ī λ_=>rfl)|exact .all (L3.Ī λ_ _=>rfl)|exact .all (L3.đ λ_ _ _=>rfl)|exact .all (L3.ċ λ_ _ _ _=>rfl)|exact .all (L3.č λ_ _ _ _ _=>rfl)|exact .all<|L3.İ λ_ _ _ _ _ _=>rfl):Dm K C m q st ps f (fnOf m q (lP st) (gz st) (dH st) dV F9 doc pm an gH M):=⟨Sr l c k,⟨a,i,k⟩,b⟩
theorem zE (m:Nat)(h:∀us:List cU,us.length=m->∃k,bindArgs fd ⟨us,[]⟩=seqItems? fd.defaults >>= k/\k (Z items)=pure (ps.zip<|us++Y))(hm:m+Y.length=ps.length:=by rfl)(hd:fd.defaults=.ref T:=by rfl)(ho:K.lookup T=Z o:=by k_is)(hs:o.data=.seq items n:=by rfl):fK K fd ps Y:=Ss m ho h hd hs hm
end
theorem zF {P:Nat->Prop}{x:Nat}(t:∀c∈xs,P c)(h:P x:=by exact⟨⟨by k_is,by k_is,by k_is,by k_is⟩,L3.ĥ (by k_is)⟩):∀c∈x::xs,P c:=í h t
theorem zI {P:Nat->Prop}{x:Nat}(t:∀c∈xs,P c)(h:P x:=by exact⟨⟨⟨by k_is,by k_is,by k_is,by k_is⟩,by k_is,by k_is,by k_is,by k_is⟩,by kit_is⟩):∀c∈x::xs,P c:=í h t
theorem zH {P:Nat->Prop}{x:Nat}(t:∀c∈xs,P c)(h:P x:=by apply L3.ą<;>k_is):∀c∈x::xs,P c:=í h t
end
section
variable {fd:c9}
theorem xv {o:Mo}(hm:L[i]?=Z o:=by rfl)(hl:o.lv=n:=by rfl)(hN:X.N[i]?=Z x:=by rfl)(hv:pN X.env.scope x:=by walk_at "v1")(hd:iM x:=by decide)
  (iY:qD x:=by decide):XE X M L n (.Name x pos) (J i):=zt i n hm hl hN hv hd iY
theorem wY (hr:fw kq X.A)(ha:XE X M L n a f)(hb:XE X M L m b g):XT X M L (.Compare a [.Eq] [b] pos) (tb<|e2 (jQ Ã) f g):=we (k:=0) (OS hr.u64) ud ha hb<|hV _
theorem GB (hr:fw kq X.A)(ha:XE X M L n a f)(hb:XE X M L m b g):XT X M L (.Compare a [.NotEq] [b] pos) (tb<|e2 (jQ Â) f g):=we (k:=0) (j6 hr.u64) ud ha hb<|hV _
theorem Ċ (hr:fw kq X.A)(ha:XE X M L n a f)(hb:XE X M L m b g):XE X M L 0 (.Compare a [.Eq] [b] pos) (e2 (jQ Ã) f g):=Ht (k:=0) (OS hr.u64) ud ha hb<|hV _
theorem V6 (hr:fw kq X.A)(ha:XE X M L n a f)(hb:XE X M L m b g):XE X M L 0 (.Compare a [.NotEq] [b] pos) (e2 (jQ Â) f g):=Ht (k:=0) (j6 hr.u64) ud ha hb<|hV _
theorem Hl (ha:XE X M L n a f)(hb:XE X M L m b g):XT X M L (.Compare a [.Lt] [b] pos) (tb<|e2 BI f g):=we (k:=0) Lv Lg ha hb<|hV _
theorem KB (ha:XE X M L n a f)(hb:XE X M L m b g):XT X M L (.Compare a [.Gt] [b] pos) (tb<|e2 EQ f g):=we (k:=0) Tp SS ha hb<|hV _
theorem VU (ha:XE X M L n a f)(hb:XE X M L m b g):XT X M L (.Compare a [.GtE] [b] pos) (tb<|e2 G6 f g):=we (k:=0) Tl SU ha hb<|hV _
theorem CZ (ha:XE X M L n a f)(hb:XE X M L m b g):XT X M L (.Compare a [.Is] [b] pos) (tb<|e2 (uV Ã) f g):=we (k:=0) Ń š ha hb<|hV _
theorem VX (ha:XE X M L n a f)(hb:XE X M L m b g):XT X M L (.Compare a [.IsNot] [b] pos) (tb<|e2 (uV Â) f g):=we (k:=0) Z8 YU ha hb<|hV _
theorem V5 (ha:XE X M L n a f)(hb:XE X M L m b g):XE X M L 0 (.Compare a [.Lt] [b] pos) (e2 BI f g):=Ht (k:=0) Lv Lg ha hb<|hV _
theorem Et (ha:XE X M L n a f)(hb:XE X M L m b g):XE X M L 0 (.Compare a [.LtE] [b] pos) (e2 BH f g):=Ht (k:=0) Ţ ϶ ha hb<|hV _
theorem V4 (ha:XE X M L n a f)(hb:XE X M L m b g):XE X M L 0 (.Compare a [.GtE] [b] pos) (e2 G6 f g):=Ht (k:=0) Tl SU ha hb<|hV _
theorem BN (ha:XE X M L n a f)(hb:XE X M L m b g):XE X M L 0 (.BinOp a .Sub b pos) (e2 wX f g):=Ex (k:=0) Γ Ϻ ha hb
theorem Ā (ha:XE X M L n a f)(hb:XE X M L m b g):XE X M L 0 (.BinOp a .FloorDiv b pos) (e2 nF f g):=Ex (k:=0) Zx Z7 ha hb
theorem ã (ha:XE X M L n a f)(hb:XE X M L m b g):XE X M L 0 (.BinOp a .Mod b pos) (e2 lR f g):=Ex (k:=0) zqx ϸ ha hb
theorem t5 (ha:XE X M L n a f)(hb:XE X M L m b g):XE X M L 0 (.BinOp a .Mult b pos) (e2 ki f g):=Ex (k:=0) zrd zop ha hb
theorem eX (h:XO X M L k e f):XE X M L 0 e f:=XO.sh h
theorem xc (d:jN X.K X.mg x st ps fa fd)(Fn:dR X.prog X.w X.K X.mg X.base fL kk fa fd ps<|iP X.K M ns rk mf)(hr:fw kq X.A)(ha:XA X M L (e::es) ns fs)(rG:kk<=kq:=by decide)(hg:Gl X x:=by rfl)
  (jS:iM x:=by decide) (he:SE X e es:=by rfl) (iD:lV X pos es:=by rfl) :
  XE X M L 0 (.Call (.Name x pp) (e::es) [] pos) (λO=>(fs O).bind λY=>mf<|Y++[]):=eX<|jU d Fn hr ha rG hg jS he iD
theorem jF (he:XE X M L 0 e f)(hc:∀c∈cs,mQ X.K (M c)/\gk X.K (M c) x)(hb:Af X e x:=by rfl):XE X M L 0 (.Attribute e x pos) (e1 (eE cs x) f):=wj (n:=0) he hc hb
theorem xK (he:XE X M L 1 e f)(hc:∀c∈cs,mQ X.K (M c)/\gk X.K (M c) x)(hb:Af X e x:=by rfl):XE X M L 0 (.Attribute e x pos) (e1 (eE cs x) f):=wj (n:=1) he hc hb
theorem Dw (ha:XE X M L 1 a f)(hb:XE X M L m b g)(hp:qE b:=by exactλ_ _=>rfl):XE X M L 0 (.Subscript a b pos) (e2 gK f g):=Lx (n:=1) Ll Lm ha hb hp
theorem Hn {i:Int}(hm:∃t,X.mg x=Z (.int i t))(hg:Gl X x:=by rfl)(hd:iM x:=by decide):XE X M L 0 (.Name x pos) (eC<|.int i):=hm.elim λ_ h=>Sn hg h rfl ⟨_,rfl⟩ hd
theorem xF (hi:XI X M L n tg iter fi)(hg:XG X M L n tg gg)(hb:tH X M L rk Ê u)(hp:gE (dq X.prog X.w) X.A X.env X.xe:=by exact gE.never)(hc:X.calm=Â:=by rfl)
  (hs:B4 X iter:=by intro _;rfl):XS X M L rk (.For tg iter Ê [] pos) (Õ fi gg u):=Ť hi hg hb hp hc hs
theorem NW (hc:XT X M L c p)(hb:tH X M L rk Ê u)(hp:gE (dq X.prog X.w) X.A X.env X.xe:=by exact gE.never):XS X M L rk (.While c Ê [] pos) (uC p u):=Z6 hc hb hp
theorem kO (he:XE X M L 0 e f):XS X M L 0 (.Return (Z e) pos) (É f):=yf<|XE.ow he
theorem p4 (hN:X.N.Nodup)(he:XE X M L 0 e f)(hm:L[i]?=Z (.ow 0):=by rfl)(hi:X.N[i]?=Z x:=by rfl)(hx:ë X.env.scope x:=by walk_at "v3")
  (hs:G0 X e x pos' pos:=by rfl)
  (hf:xE X x:=by walk_at "v2"):XS X M L rk (.Assign [.Name x pos'] e pos) (È i f):=jO hN (XE.ow he) hm hi hx hs hf
theorem nX (ht:XT X M L c p)(h:XS X M L rk st u):XS X M L rk (.If c [st] [] pos) (Ó p u Ë):=Fy ht (zm h) yq
theorem yV {own:Nat}(hi:å X M L n tg iter fi)
  (hg:∀cl C fp s₀ H₀,N.Nodup->Cm (m8 X scope cl N C fp s₀ H₀) M (om++jZ L cap) own n tg gg) (ht:∀cl C fp s₀ H₀,DI (m8 X scope cl N C fp s₀ H₀) M (om++jZ L cap) ifs p) (he:∀cl C fp s₀ H₀,XO (m8 X scope cl N C fp s₀ H₀) M (om++jZ L cap) k pA f)
  (nd:N.Nodup:=by decide +kernel) (B:og X scope N own cap:=by exact Hv (by rfl)) (hc:X.calm=Â:=by rfl) (ho:om.length=own:=by rfl) (qL:∀i∈cap,i<L.length:=by decide)
  (hs:B4 X iter:=by intro _;rfl):XO X M L (k+1) (.ListComp pA [⟨tg,iter,ifs,0⟩] scope pos) (fY fi own cap gg p f):=OF B hc ho qL hi (λcl C fp s₀ H₀=>hg cl C fp s₀ H₀ nd) ht he hs
theorem Eu {own:Nat}{yS:my}(hN:X.N.Nodup)(hi:å X M L n tg iter fi)
  (hg:∀cl C fp s₀ H₀,N.Nodup->Cm (m8 X scope cl N C fp s₀ H₀) M (om++jZ L cap) own n tg gg) (ht:∀cl C fp s₀ H₀,DI (m8 X scope cl N C fp s₀ H₀) M (om++jZ L cap) ifs p) (he:∀cl C fp s₀ H₀,XO (m8 X scope cl N C fp s₀ H₀) M (om++jZ L cap) (k-1) pA f)
  (nd:N.Nodup:=by decide +kernel) (hm:L[i]?=Z (.ow k):=by rfl) (Iq:X.N[i]?=Z x:=by rfl) (hx:ë X.env.scope x:=by walk_at "v3")
  (B:og X scope N own cap:=by exact Hv (by rfl)) (hc:X.calm=Â:=by rfl) (ho:om.length=own:=by rfl) (qL:∀i∈cap,i<L.length:=by decide)
  (CF:gc (.ListComp pA [⟨tg,iter,ifs,0⟩] scope pos) (Z<|.Name x pos') yS.line X.env=pure Â:=by rfl)
  (hs:B4 X iter:=by intro _;rfl) (hf:xE X x:=by walk_at "v2") :
  XS X M L rk (.Assign [.Name x pos'] (.ListComp pA [⟨tg,iter,ifs,0⟩] scope pos) yS) (È i<|fY fi own cap gg p f):=N2 hm hN Iq hx B hc ho qL hi (λcl C fp s₀ H₀=>hg cl C fp s₀ H₀ nd) ht he CF hs hf
theorem C1 {q:Str}(J':Dc X.K X.mg x<|M c0)(d:Dm X.K (M c0) "__init__" q st ps fa fd)(Fn:dR X.prog X.w X.K X.mg X.base fL kk fa fd ps<|xG X.K M cs ns mi)(hr:fw kq X.A)(ha:XA X M L (e::es) ns fs)(yA:c0∈cs:=by decide)(rG:kk+1<=kq:=by decide)(hg:Gl X x:=by rfl)
  (jS:iM x:=by decide) (he:SE X e es:=by rfl) (iD:lV X pos es:=by rfl) :
  XO X M L 1 (.Call (.Name x pp) (e::es) [] pos) (λO=>(fs O).bind λY=>mi c0<|Y++[]) :=
 zr7 (ns:=ns) (nd:=[]) (lY:=[]) ⟨J'.mks,d.me.at_,d.me.fn,J'.kp⟩ yA (by rw[d6];exact Fn) (hr.mono rG) hg J'.mgx d.bd .nil (λ_ _=>.nil) ha jS he iD
end
section
variable {w:d5}{fd:c9}
theorem lf (Fn:Þ K x qual st fa fd)(body:∀(gH:cU) (A:dO) (outer:List PySem.Env) (s:de) (H:Hp) (E:XK),fw kk (A.deeper<|envOfC qual (dH st) s.heap.objs.size fa gH)->N.Nodup->tH (nj fL P w K mg base N qual (dH st) fa gH A outer s H E).nox M L rk (gz st) bf)
  (S':eK N ps (dH st):=by exact⟨rfl,rfl,rfl,by decide +kernel,rfl,by decide +kernel,by decide +kernel⟩)
  (Au:pm.length=ps.length:=by rfl) (CB:L.length=N.length:=by rfl) (rG:ps.length<=N.length:=by decide) (CA:∀(i n:Nat),pm[i]?=Z n->L[i]?=Z (Mo.al n)\/(n=0/\L[i]?=Z (Mo.ow 0)):=by exact xg (by decide)) :
  dR P w K mg base fL (kk+1) fa fd ps (iP K M pm rk<|Ñ N bf):=ĩ Fn S' Au CB rG CA λa b c d e f g=>body a b c d e f g S'.nd
theorem IN (Fn:Þ K x qual st fa fd)(body:∀(x:cZ) (gH:cU) (A:dO) (outer:List PySem.Env) (s:de) (H:Hp) (E:XK),fw kk (A.deeper<|envOfC qual (dH st) s.heap.objs.size fa gH)->(N0::N).Nodup->tH (nj fL P w K mg base (N0::N) qual (dH st) fa gH A outer s H E).nox M (.so x::L) rk (gz st) bf)
  (S':eK (N0::N) ps (dH st):=by exact⟨rfl,rfl,rfl,by decide +kernel,rfl,by decide +kernel,by decide +kernel⟩)
  (Au:pm.length+1=ps.length:=by rfl) (CB:L.length=N.length:=by rfl) (rG:pm.length<=N.length:=by decide) (CA:∀(i n:Nat),pm[i]?=Z n->L[i]?=Z (Mo.al n)\/(n=0/\L[i]?=Z (Mo.ow 0)):=by exact xg (by decide)) :
  dR P w K mg base fL (kk+1) fa fd ps (xG K M cs pm<|F7 (N0::N) bf):=Zh Fn S' Au CB rG CA λx a b c d e f g=>body x a b c d e f g S'.nd
end
end L3
namespace My
open PySem L2 L3
abbrev cl (m:List D->Option D)(fs:L3.Env->Option (List D)):EF:=λO=>(fs O).bind λY=>m<|Y++[]
noncomputable abbrev gX (i:Int):Option D:=some<|.int i
noncomputable abbrev l9 (xs:List D):Option D:=some<|.lst xs
noncomputable abbrev mO (l:List Nat):List Mo:=l.map .ow
noncomputable def Ð (i:Nat):et:=PySem.Challenge.pw_ringbeat_k87_desk_refused.main.body.getD i<|.Pass ⟨0,0,0,0⟩
abbrev Wq:et:=Ï (Ð 44) 0
abbrev WR:et:=Ï (Ð 45) 0
abbrev WS:et:=Ï (Ð 46) 0
abbrev WU:et:=Ï (Ð 47) 0
abbrev X3:et:=Ï (Ð 46) 1
abbrev Xz:et:=Ï (Ð 47) 1
abbrev jw:et:=Ï (Ð 44) 1
abbrev ut:et:=Ï (Ð 44) 2
abbrev YB:et:=Ï (Ð 46) 3
abbrev YC:et:=Ï (Ð 47) 3
abbrev XB:et:=Ð 54
abbrev XC:et:=Ð 55
abbrev Zz:et:=Ð 56
abbrev XD:et:=Ð 57
abbrev WV:et:=Ð 58
abbrev YD:et:=Ð 59
abbrev Wy:et:=Ð 60
abbrev V9:et:=Ð 61
abbrev Xq:et:=Ð 63
abbrev uu:et:=Ï (Ð 3) 0
abbrev jg:et:=Ï (Ð 4) 0
abbrev jh:et:=Ï (Ð 9) 0
abbrev ug:et:=Ï (Ð 10) 0
abbrev ji:et:=Ï (Ð 6) 0
abbrev YE:et:=Ð 62
abbrev QD:et:=Ï (Ð 64) 0
abbrev Wd:et:=Ï (Ð 64) 1
abbrev YF:et:=Ï (Ð 64) 2
abbrev XF:et:=Ï (Ð 64) 3
abbrev XH:et:=Ð 98
abbrev W3:et:=Ð 99
abbrev Wa:et:=Ð 100
abbrev Wr:et:=Ð 101
abbrev uh:et:=Ð 102
abbrev Ws:et:=Ð 103
abbrev Wb:et:=Ð 104
abbrev Wz:et:=Ð 105
abbrev ϲ:et:=Ð 106
abbrev W4:et:=Ï (Ð 94) 1
abbrev jj:et:=Ï (Ð 94) 0
abbrev ϱ:et:=Ð 18
abbrev zph:et:=Ð 19
abbrev WA:et:=Ð 21
abbrev Xr:et:=Ð 67
abbrev ul:et:=Ð 68
abbrev Ŕ:et:=Ð 69
abbrev QE:et:=Ð 91
abbrev ϰ:et:=Ð 92
abbrev XJ:et:=Ð 37
abbrev zpi:et:=Ð 38
abbrev WB:et:=Ð 39
abbrev W5:et:=Ð 40
abbrev W6:et:=Ð 41
abbrev ZA:et:=Ð 42
abbrev Xt:et:=Ð 112
abbrev YG:et:=Ð 113
abbrev WC:et:=Ð 114
abbrev zpj:et:=Ð 115
abbrev Xu:et:=Ð 116
abbrev Wt:et:=Ð 117
abbrev Wu:et:=Ð 118
abbrev qq:et:=Ð 119
abbrev qr:et:=Ð 120
abbrev qv:et:=Ð 121
abbrev QL:et:=Ð 125
abbrev QX:et:=Ð 126
abbrev QY:et:=Ð 127
abbrev QZ:et:=Ð 132
abbrev QM:et:=Ð 134
abbrev XN:et:=Ð 123
abbrev qw:et:=Ð 124
abbrev W7:et:=Ï (Ð 137) 0
abbrev Q1:et:=Ï (Ð 137) 1
abbrev W8:et:=Ð 139
abbrev XQ:et:=Ð 140
abbrev XU:et:=Ð 141
abbrev Q2:et:=Ð 142
abbrev YH:et:=Ð 143
abbrev W9:et:=Ð 144
abbrev Xa:et:=Ð 145
abbrev We:et:=Ð 146
abbrev Xv:et:=Ð 147
abbrev YI:et:=Ð 148
abbrev X4:et:=Ð 150
abbrev qy:et:=Ð 149
abbrev zpk:et:=Ð 151
abbrev Ľ:et:=Ð 152
theorem Wc:eK ["self","at"] ["self","at"] (dH uu):=⟨rfl,rfl,rfl,by decide +kernel,rfl,by decide +kernel,by decide +kernel⟩
theorem WD:eK ["self","ring"] ["self","ring"] (dH jg):=⟨rfl,rfl,rfl,by decide +kernel,rfl,by decide +kernel,by decide +kernel⟩
theorem WE:eK ["self","at"] ["self","at"] (dH jh):=⟨rfl,rfl,rfl,by decide +kernel,rfl,by decide +kernel,by decide +kernel⟩
theorem Wf:eK ["self","name"] ["self","name"] (dH ug):=⟨rfl,rfl,rfl,by decide +kernel,rfl,by decide +kernel,by decide +kernel⟩
theorem WF:eK ["self","arrow"] ["self","arrow"] (dH ji):=⟨rfl,rfl,rfl,by decide +kernel,rfl,by decide +kernel,by decide +kernel⟩
theorem wn:eK ["self","names","arrows","number","arrow","placed"] ["self","names","arrows"] (dH QD):=⟨rfl,rfl,rfl,by decide +kernel,rfl,by decide +kernel,by decide +kernel⟩
theorem vq:eK ["told","names","name"] ["told","names"] (dH uh):=⟨rfl,rfl,rfl,by decide +kernel,rfl,by decide +kernel,by decide +kernel⟩
theorem uv:eK ["self","net","times","beat","number"] ["self","net","times","beat"] (dH jj):=⟨rfl,rfl,rfl,by decide +kernel,rfl,by decide +kernel,by decide +kernel⟩
theorem xh:eK ["table","prices","chosen","lowered","number","arrow","price"] ["table","prices","chosen"] (dH QE):=⟨rfl,rfl,rfl,by decide +kernel,rfl,by decide +kernel,by decide +kernel⟩
theorem jk:eK ["desk","words"] ["desk","words"] (dH qq):=⟨rfl,rfl,rfl,by decide +kernel,rfl,by decide +kernel,by decide +kernel⟩
theorem jl:eK ["desk","arrows"] ["desk","arrows"] (dH qr):=⟨rfl,rfl,rfl,by decide +kernel,rfl,by decide +kernel,by decide +kernel⟩
theorem jm:eK ["desk","words"] ["desk","words"] (dH qv):=⟨rfl,rfl,rfl,by decide +kernel,rfl,by decide +kernel,by decide +kernel⟩
theorem Qt:eK ["desk","words"] ["desk","words"] (dH QL):=⟨rfl,rfl,rfl,by decide +kernel,rfl,by decide +kernel,by decide +kernel⟩
theorem X5:eK ["desk","words"] ["desk","words"] (dH QX):=⟨rfl,rfl,rfl,by decide +kernel,rfl,by decide +kernel,by decide +kernel⟩
theorem X6:eK ["desk","words"] ["desk","words"] (dH QY):=⟨rfl,rfl,rfl,by decide +kernel,rfl,by decide +kernel,by decide +kernel⟩
theorem X7:eK ["desk","words"] ["desk","words"] (dH QZ):=⟨rfl,rfl,rfl,by decide +kernel,rfl,by decide +kernel,by decide +kernel⟩
theorem Qu:eK ["desk","words","told"] ["desk","words"] (dH QM):=⟨rfl,rfl,rfl,by decide +kernel,rfl,by decide +kernel,by decide +kernel⟩
theorem vd:eK ["desk","words","arrows","number"] ["desk","words"] (dH qw):=⟨rfl,rfl,rfl,by decide +kernel,rfl,by decide +kernel,by decide +kernel⟩
theorem x6:eK ["self","row","words","answer"] ["self","row"] (dH Q1):=⟨rfl,rfl,rfl,by decide +kernel,rfl,by decide +kernel,by decide +kernel⟩
theorem jx:eK ["_law_e","_law_some"] ["_law_e"] (dH Q2):=⟨rfl,rfl,rfl,by decide +kernel,rfl,by decide +kernel,by decide +kernel⟩
theorem yw:eK ["_law_desk","_law_some","_law_start","_law_shown_now","_law_asked","_law_k","_law_row","_law_due"] ["_law_desk","_law_some","_law_start","_law_shown_now","_law_asked"] (dH qy):=⟨rfl,rfl,rfl,by decide +kernel,rfl,by decide +kernel,by decide +kernel⟩
set_option genInjectivity false
set_option genSizeOf false
structure ć where
 b:cZ
 c:cZ
 d:cZ
 e:cZ
 f:cZ
 g:cZ
 h:cZ
 i:cZ
 j:cZ
 k:cZ
 l:cZ
 m:cZ
 n:cZ
 o:cZ
 p:cZ
 q:cZ
 r:cZ
 s:c9
 t:cZ
 u:c9
 v:cZ
 x:c9
 y:cZ
 z:c9
 aa:cZ
 ab:c9
 ac:cZ
 ad:c9
 ae:cZ
 af:c9
 ag:cZ
 ah:c9
 ai:cZ
 aj:c9
 ak:cZ
 al:c9
 am:cZ
 an:c9
 ao:cZ
 ap:c9
 aq:cZ
 ar:c9
 au:cZ
 av:c9
 aw:cZ
 ax:c9
 ay:cZ
 az:c9
 aA:cZ
 aB:c9
 aC:cZ
 aD:c9
 aE:cZ
 aF:c9
 aG:cZ
 aH:c9
 aI:cZ
 aJ:c9
 aK:cZ
 aL:c9
 aM:cZ
 aN:c9
 aO:cZ
 aP:c9
 aQ:cZ
 aR:c9
 aS:cZ
 aT:c9
 aU:cZ
 aV:c9
 aW:cZ
 aX:c9
 aY:cZ
 aZ:c9
 a0:cZ
 a1:c9
 a2:cZ
 a3:c9
 a4:cZ
 a5:c9
 a6:cZ
 a7:c9
 a8:cZ
 a9:c9
 ba:cZ
 bb:c9
 bc:cZ
 bd:c9
 be:cZ
 bf:c9
 bg:cZ
 bh:c9
 bi:cZ
 bj:c9
 bk:cZ
 bl:c9
 bm:cZ
 bn:c9
 bo:cZ
 bp:c9
 bq:cZ
 br:c9
 bs:cZ
 bt:c9
 bu:cZ
 bv:c9
 bw:cZ
 bx:c9
 bz:cZ
 bA:c9
 bB:cZ
 bC:c9
 bD:cZ
 bE:c9
 bF:cZ
 bG:c9
 bH:cZ
 bI:c9
 bJ:cZ
 bK:c9
 bL:cZ
 bM:c9
 bN:cZ
 bO:c9
 bP:cZ
 bQ:c9
 bR:cZ
 bS:c9
 bT:cZ
 bU:c9
 bV:cZ
 bW:c9
 bX:cZ
 bY:c9
 bZ:cZ
 b0:c9
 b1:cZ
 b2:c9
 b3:cZ
 b4:c9
 b5:cZ
 b6:c9
 b7:cZ
 b8:c9
 b9:cZ
 ca:c9
 cb:cZ
 cc:c9
 cd:cZ
 ce:c9
 cf:cZ
 cg:c9
 ch:cZ
 ci:c9
 cj:cZ
 ck:c9
 cl:cZ
 cm:c9
 cn:cZ
 co:c9
 cp:cZ
 cq:c9
 cr:cZ
 cs:c9
 cu:cZ
 cv:c9
 cw:cZ
 cx:c9
 cy:cZ
 cz:c9
 cA:cZ
 cB:c9
 cC:cZ
 cD:c9
 cE:cZ
 cF:c9
 cG:cZ
 cH:c9
 cI:cZ
 cJ:c9
 cK:cZ
 cL:c9
 cM:cZ
 cN:c9
 cO:cZ
 cP:c9
 cQ:cZ
 cR:c9
 cS:cZ
 cT:c9
set_option genSizeOf true
set_option genInjectivity true
def ć.ct (a:ć):Nat->cZ
 |0=>a.b
 |1=>a.c
 |2=>a.d
 |3=>a.e
 |4=>a.f
 |5=>a.g
 |6=>a.h
 |7=>a.i
 |8=>a.j
 |9=>a.k
 |10=>a.l
 |11=>a.m
 |12=>a.n
 |13=>a.o
 |14=>a.p
 |15=>a.q
 |_=>0
noncomputable def vt:D:=(.kt [(.str "cut"),(.str "change")])
noncomputable def wf:D:=(.kt [(.str "late"),(.str "fate"),(.str "spare"),(.str "give")])
noncomputable def uw:List (Str×D):=[("cut",(.kt [(.kt [(.int 0),(.int 999999999999999)])])),("change",(.kt [(.kt [(.int 0),(.int 999999999999999)]),(.kt [(.int 0),(.int 999999999999999)])])),("put",(.kt [.non,(.kt [(.int 0),(.int 400)]),(.kt [(.int 0),(.int 1000000000000)])])),("show",(.kt [])),("run",(.kt [(.kt [(.int 0),(.int 400)])])),("least",(.kt [])),("rate",(.kt [.non])),("again",(.kt [(.kt [(.int 1),(.int 200)])])),("late",(.kt [(.kt [(.int 0),(.int 400)])])),("fate",(.kt [(.kt [(.int 1),(.int 400)])])),("spare",(.kt [.non,.non])),("give",(.kt [.non,(.kt [(.int 0),(.int 60)])]))]
structure Txt (K:cX)(mg:Str->Option cU)(a:ć)(w:d5):Prop where
 b:Dc K mg "Arrow" a.b
 c:Dc K mg "Ride" a.c
 d:Dc K mg "Wait" a.d
 e:Dc K mg "Back" a.e
 f:Dc K mg "Net" a.f
 g:Dc K mg "Table" a.g
 h:Dc K mg "Desk" a.h
 i:mg "BeatError"=Z (.ref a.i)
 j:mg "BadNet"=Z (.ref a.j)
 k:mg "Stuck"=Z (.ref a.k)
 l:mg "Loose"=Z (.ref a.l)
 m:mg "NoFit"=Z (.ref a.m)
 n:mg "TooMany"=Z (.ref a.n)
 o:mg "Unlike"=Z (.ref a.o)
 p:mg "NoRow"=Z (.ref a.p)
 q:mg "BadName"=Z (.ref a.q)
 r:Dm K a.b "__init__" "Arrow.__init__" Wq ["self","start","goal","time","behind"] a.r a.s
 s:Dm K a.c "__init__" "Ride.__init__" WR ["self","start","goal","time"] a.t a.u
 t:Dm K a.d "__init__" "Wait.__init__" WS ["self","start","goal","time","behind"] a.v a.x
 u:∃sd,True/\eh [(V.int 0)] sd/\fK K a.x ["self","start","goal","time","behind"] sd
 v:Dm K a.e "__init__" "Back.__init__" WU ["self","start","goal","time","behind"] a.y a.z
 x:∃sd,True/\eh [(V.int 1)] sd/\fK K a.z ["self","start","goal","time","behind"] sd
 y:Dm K a.d "word" "Wait.word" X3 ["self"] a.aa a.ab
 z:Dm K a.e "word" "Back.word" Xz ["self"] a.ac a.ad
 aa:Dm K a.b "row_to_time" "Arrow.row_to_time" jw ["self","names"] a.ae a.af
 ab:Dm K a.b "row_to_behind" "Arrow.row_to_behind" ut ["self","names"] a.ag a.ah
 ac:Dm K a.d "row" "Wait.row" YB ["self","names"] a.ai a.aj
 ad:Dm K a.e "row" "Back.row" YC ["self","names"] a.ak a.al
 ae:jN K mg "is_letter" XB ["sign"] a.am a.an
 af:jN K mg "is_figure" XC ["sign"] a.ao a.ap
 ag:jN K mg "is_name" Zz ["word"] a.aq a.ar
 ah:jN K mg "are_names" XD ["names"] a.au a.av
 ai:jN K mg "lies_within" WV ["number","least","most"] a.aw a.ax
 aj:jN K mg "is_right" YD ["arrow","many"] a.ay a.az
 ak:jN K mg "placed_goings" Wy ["many","arrows"] a.aA a.aB
 al:jN K mg "ring_back_from" V9 ["arrows","chosen","going"] a.aC a.aD
 am:jN K mg "stuck_ring" Xq ["many","arrows","placed"] a.aE a.aF
 an:Dm K a.j "__init__" "BadNet.__init__" uu ["self","at"] a.aG a.aH
 ao:Dm K a.k "__init__" "Stuck.__init__" jg ["self","ring"] a.aI a.aJ
 ap:Dm K a.p "__init__" "NoRow.__init__" jh ["self","at"] a.aK a.aL
 aq:Dm K a.q "__init__" "BadName.__init__" ug ["self","name"] a.aM a.aN
 ar:Dm K a.m "__init__" "NoFit.__init__" ji ["self","arrow"] a.aO a.aP
 au:jN K mg "way_back" YE ["arrows","chosen","start","goal"] a.aQ a.aR
 av:Dm K a.f "__init__" "Net.__init__" QD ["self","names","arrows"] a.aS a.aT
 aw:Dm K a.f "most_behind" "Net.most_behind" Wd ["self"] a.aU a.aV
 ax:Dm K a.f "into" "Net.into" YF ["self","going"] a.aW a.aX
 ay:Dm K a.f "order" "Net.order" XF ["self"] a.aY a.aZ
 az:jN K mg "is_number" XH ["word"] a.a0 a.a1
 aA:jN K mg "are_numbers" W3 ["words"] a.a2 a.a3
 aB:jN K mg "has_arrow_form" Wa ["words"] a.a4 a.a5
 aC:jN K mg "names_in_row" Wr ["words"] a.a6 a.a7
 aD:jN K mg "refuse_unknown" uh ["told","names"] a.a8 a.a9
 aE:jN K mg "arrow_of_row" Ws ["words","names"] a.ba a.bb
 aF:jN K mg "arrows_of_line" Wb ["words","names"] a.bc a.bd
 aG:jN K mg "arrows_of_row" Wz ["words","names"] a.be a.bf
 aH:jN K mg "shown" ϲ ["net"] a.bg a.bh
 aI:Dm K a.g "slack" "Table.slack" W4 ["self","arrow"] a.bi a.bj
 aJ:Dm K a.g "__init__" "Table.__init__" jj ["self","net","times","beat"] a.bk a.bl
 aK:jN K mg "later" ϱ ["when","more"] a.bm a.bn
 aL:jN K mg "latest" zph ["one","other"] a.bo a.bp
 aM:jN K mg "greatest_told" WA ["told"] a.bq a.br
 aN:jN K mg "links_into" Xr ["table","going","left_out"] a.bs a.bt
 aO:jN K mg "lateness_in_last_row" ul ["rows","links","put"] a.bu a.bv
 aP:jN K mg "late" Ŕ ["table","rounds","puts","without"] a.bw a.bx
 aQ:∃sd,True/\eh [V.non] sd/\fK K a.bx ["table","rounds","puts","without"] sd
 aR:jN K mg "lower_once" QE ["table","prices","chosen"] a.bz a.bA
 aS:jN K mg "spare" ϰ ["table","one","other"] a.bB a.bC
 aT:jN K mg "time_word" XJ ["time"] a.bD a.bE
 aU:jN K mg "widest" zpi ["words"] a.bF a.bG
 aV:jN K mg "number_column" WB ["first","many"] a.bH a.bI
 aW:jN K mg "time_column" W5 ["name","times"] a.bJ a.bK
 aX:jN K mg "line_across" W6 ["columns","place"] a.bL a.bM
 aY:jN K mg "almanac" ZA ["names","rows","first"] a.bN a.bO
 aZ:jN K mg "stands_for" Xt ["word","slot"] a.bP a.bQ
 a0:jN K mg "has_form" YG ["words"] a.bR a.bS
 a1:jN K mg "has_plan_form" WC ["words","many"] a.bT a.bU
 a2:jN K mg "is_row" zpj ["desk","words"] a.bV a.bW
 a3:jN K mg "names_told" Xu ["words"] a.bX a.bY
 a4:jN K mg "number_words" Wt ["numbers"] a.bZ a.b0
 a5:jN K mg "going_called" Wu ["desk","name"] a.b1 a.b2
 a6:jN K mg "tell_goings" qq ["desk","words"] a.b3 a.b4
 a7:jN K mg "take_arrows" qr ["desk","arrows"] a.b5 a.b6
 a8:jN K mg "tell_arrows" qv ["desk","words"] a.b7 a.b8
 a9:jN K mg "tell_plan" QL ["desk","words"] a.b9 a.ca
 ba:jN K mg "tell_put" QX ["desk","words"] a.cb a.cc
 bb:jN K mg "ask_show" QY ["desk","words"] a.cd a.ce
 bc:jN K mg "ask_late" QZ ["desk","words"] a.cf a.cg
 bd:jN K mg "ask_spare" QM ["desk","words"] a.ch a.ci
 be:jN K mg "with_time" XN ["arrow","time"] a.cj a.ck
 bf:jN K mg "tell_change" qw ["desk","words"] a.cl a.cm
 bg:Dm K a.h "__init__" "Desk.__init__" W7 ["self"] a.cn a.co
 bh:Dm K a.h "say" "Desk.say" Q1 ["self","row"] a.cp a.cq
 bi:jN K mg "_law_cell_at" W8 ["_law_script","_law_k"] a.cr a.cs
 bj:jN K mg "_law_mixed" XQ ["_law_cell","_law_k"] a.cu a.cv
 bk:jN K mg "_law_names" XU ["_law_cell","_law_many"] a.cw a.cx
 bl:jN K mg "_law_kind" Q2 ["_law_e"] a.cy a.cz
 bm:jN K mg "_law_said" YH ["_law_desk","_law_row"] a.cA a.cB
 bn:jN K mg "_law_no_rows" W9 ["_law_one","_law_two"] a.cC a.cD
 bo:jN K mg "_law_no_plan" Xa ["_law_one","_law_two"] a.cE a.cF
 bp:jN K mg "_law_right_asked" We ["_law_one","_law_two"] a.cG a.cH
 bq:jN K mg "_law_others" Xv ["_law_one","_law_two"] a.cI a.cJ
 br:jN K mg "_law_held" YI ["_law_one","_law_two"] a.cK a.cL
 bs:jN K mg "_law_later" X4 ["_law_what","_law_more"] a.cM a.cN
 bt:jN K mg "_law_checked" qy ["_law_desk","_law_some","_law_start","_law_shown_now","_law_asked"] a.cO a.cP
 bu:jN K mg "_law_of" zpk ["_law_rows","_law_count"] a.cQ a.cR
 bv:jN K mg "law" Ľ ["_law_script"] a.cS a.cT
 bw:∃u,mg "WORDS_OF_ARROWS"=Z u/\KC K vt u
 bx:∃u,mg "WORDS_OF_PLANS"=Z u/\KC K wf u
 bz:KG K w mg "FORMS" uw
 bA:KF K w mg "ANSWERS" [("goings",a.b3),("wait",a.b7),("back",a.b7),("plan",a.b9),("put",a.cb),("show",a.cd),("late",a.cf),("spare",a.ch),("ride",a.b7),("line",a.b7),("change",a.cl)]
 bB:qC K a.c "row_to_behind" a.ag
 bC:qC K a.c "row_to_time" a.ae
 bD:qC K a.d "row_to_behind" a.ag
 bE:qC K a.d "row_to_time" a.ae
 bF:qC K a.e "row_to_behind" a.ag
 bG:qC K a.e "row_to_time" a.ae
 bH:Dq K a.b "__init__" a.r
 bI:∀c∈([6]:List Nat),mQ K (a.ct c)/\gk K (a.ct c) "answered"
 bJ:∀c∈([4]:List Nat),mQ K (a.ct c)/\gk K (a.ct c) "arrows"
 bK:∀c∈([5]:List Nat),mQ K (a.ct c)/\gk K (a.ct c) "beat"
 bL:∀c∈([0,1,2,3]:List Nat),mQ K (a.ct c)/\gk K (a.ct c) "behind"
 bM:∀c∈([0,1,2,3]:List Nat),mQ K (a.ct c)/\gk K (a.ct c) "goal"
 bN:∀c∈([4]:List Nat),mQ K (a.ct c)/\gk K (a.ct c) "names"
 bO:∀c∈([5,6]:List Nat),mQ K (a.ct c)/\gk K (a.ct c) "net"
 bP:∀c∈([6]:List Nat),mQ K (a.ct c)/\gk K (a.ct c) "puts"
 bQ:∀c∈([0,1,2,3]:List Nat),mQ K (a.ct c)/\gk K (a.ct c) "start"
 bR:∀c∈([6]:List Nat),mQ K (a.ct c)/\gk K (a.ct c) "table"
 bS:∀c∈([0,1,2,3]:List Nat),mQ K (a.ct c)/\gk K (a.ct c) "time"
 bT:∀c∈([5]:List Nat),mQ K (a.ct c)/\gk K (a.ct c) "times"
 bU:∀c∈([0,1,2,3,4,5,6]:List Nat),Ic K (a.ct c)/\dN K (.ref<|a.ct c) (.ref a.e)=Z (eU [3] c)
 bV:∀c∈([0,1,2,3,4,5,6]:List Nat),Ic K (a.ct c)/\dN K (.ref<|a.ct c) (.ref a.c)=Z (eU [1] c)
 bW:∀c∈([0,1,2,3,4,5,6]:List Nat),Ic K (a.ct c)/\dN K (.ref<|a.ct c) (.ref a.d)=Z (eU [2] c)
 bX:dQ K (.ref a.j)=Â
 bY:wA K a.j
 bZ:eF K a.j=Â/\dI K (.ref a.j) "__setattr__"=Z (Z<|.builtin "object.__setattr__")/\ft K a.j "at"=Z S
 b0:dQ K (.ref a.k)=Â
 b1:wA K a.k
 b2:eF K a.k=Â/\dI K (.ref a.k) "__setattr__"=Z (Z<|.builtin "object.__setattr__")/\ft K a.k "ring"=Z S
 b3:dQ K (.ref a.q)=Â
 b4:wA K a.q
 b5:eF K a.q=Â/\dI K (.ref a.q) "__setattr__"=Z (Z<|.builtin "object.__setattr__")/\ft K a.q "name"=Z S
 b6:dQ K (.ref a.m)=Â
 b7:wA K a.m
 b8:eF K a.m=Â/\dI K (.ref a.m) "__setattr__"=Z (Z<|.builtin "object.__setattr__")/\ft K a.m "arrow"=Z S
 b9:dQ K (.ref a.p)=Â
 ca:wA K a.p
 cb:eF K a.p=Â/\dI K (.ref a.p) "__setattr__"=Z (Z<|.builtin "object.__setattr__")/\ft K a.p "at"=Z S
 cc:gq K (.ref a.i) "__getattribute__"=Z (Z<|.builtin "type.__getattribute__")/\lH K a.i (.type "type")=Â/\lG K (.ref a.i) (.type "type") "__init__"=Z (.val<|.builtin "ValueError.__init__")
 cd:∀c∈([8,14]:List Nat),Ć K (a.ct c) "at"
 ce:∀c∈([15]:List Nat),Ć K (a.ct c) "name"
 cf:∀c∈([11]:List Nat),Ć K (a.ct c) "arrow"
 cg:∀c∈([9]:List Nat),Ć K (a.ct c) "ring"
 ch:(∀c∈([8,9,15,11,14]:List Nat),L2.å K (a.ct c)/\dN K (.ref<|a.ct c) (.ref a.p)=Z (eU [14] c))/\dN K (.type "NoneType") (.ref a.p)=Z Ã
 ci:(∀c∈([8,9,15,11,14]:List Nat),L2.å K (a.ct c)/\dN K (.ref<|a.ct c) (.ref a.q)=Z (eU [15] c))/\dN K (.type "NoneType") (.ref a.q)=Z Ã
 cj:(∀c∈([8,9,15,11,14]:List Nat),L2.å K (a.ct c)/\dN K (.ref<|a.ct c) (.ref a.j)=Z (eU [8] c))/\dN K (.type "NoneType") (.ref a.j)=Z Ã
 ck:(∀c∈([8,9,15,11,14]:List Nat),L2.å K (a.ct c)/\dN K (.ref<|a.ct c) (.ref a.k)=Z (eU [9] c))/\dN K (.type "NoneType") (.ref a.k)=Z Ã
 cl:(∀c∈([8,9,15,11,14]:List Nat),L2.å K (a.ct c)/\dN K (.ref<|a.ct c) (.ref a.m)=Z (eU [11] c))/\dN K (.type "NoneType") (.ref a.m)=Z Ã
 cm:(∀c∈([8,9,15,11,14]:List Nat),L2.å K (a.ct c)/\dN K (.ref<|a.ct c) (.ref a.l)=Z (eU [] c))/\dN K (.type "NoneType") (.ref a.l)=Z Ã
 cn:(∀c∈([8,9,15,11,14]:List Nat),L2.å K (a.ct c)/\dN K (.ref<|a.ct c) (.ref a.n)=Z (eU [] c))/\dN K (.type "NoneType") (.ref a.n)=Z Ã
 co:(∀c∈([8,9,15,11,14]:List Nat),L2.å K (a.ct c)/\dN K (.ref<|a.ct c) (.ref a.o)=Z (eU [] c))/\dN K (.type "NoneType") (.ref a.o)=Z Ã
 cp:(∀c∈([8,9,15,11,14]:List Nat),L2.å K (a.ct c)/\dN K (.ref<|a.ct c) (.type "ValueError")=Z Â)/\dN K (.type "NoneType") (.type "ValueError")=Z Ã
 cq:∀c∈([8,9,15,11,14]:List Nat),fR K (.ref<|a.ct c) (.ref a.p)=Z (eU [14] c)
 cr:∀c∈([8,9,15,11,14]:List Nat),fR K (.ref<|a.ct c) (.ref a.q)=Z (eU [15] c)
 cs:∀c∈([8,9,15,11,14]:List Nat),fR K (.ref<|a.ct c) (.ref a.j)=Z (eU [8] c)
 cu:∀c∈([8,9,15,11,14]:List Nat),fR K (.ref<|a.ct c) (.ref a.m)=Z (eU [11] c)
 cv:∀c∈([8,9,15,11,14]:List Nat),fR K (.ref<|a.ct c) (.ref a.k)=Z (eU [9] c)
 cw:∀c∈([8,9,15,11,14]:List Nat),fR K (.ref<|a.ct c) (.ref a.i)=Z (eU [8,9,15,11,14] c)
 cx:mg "ValueError"=S
 cy:mg "all"=S
 cz:mg "bool"=S
 cA:mg "enumerate"=S
 cB:mg "int"=S
 cC:mg "isinstance"=S
 cD:mg "len"=S
 cE:mg "list"=S
 cF:mg "max"=S
 cG:mg "range"=S
 cH:mg "reversed"=S
 cI:mg "sorted"=S
 cJ:mg "str"=S
 cK:mg "zip"=S
 cL:∃t,mg "MOST_ARROWS"=Z (.int 120 t)
 cM:∃t,mg "MOST_BEHIND"=Z (.int 4 t)
 cN:∃t,mg "MOST_FIGURES"=Z (.int 15 t)
 cO:∃t,mg "MOST_NAMES"=Z (.int 40 t)
 cP:∃t,mg "MOST_PLANNED"=Z (.int 1000000000000 t)
 cQ:∃t,mg "MOST_SIGNS"=Z (.int 8 t)
 cR:∃t,mg "MOST_TIME"=Z (.int 1000000000 t)
variable {K:cX}{mg:Str->Option cU}
noncomputable section
variable {P:eI}{w:d5}{base:dz}{a:ć}{M:Nat->cZ}
def kJ:Nat->List D->Option D:=F7 ["self","start","goal","time","behind"]
  (Æ (l6 [0,1,2,3] "start" (J 1))
  (Æ (l6 [0,1,2,3] "goal" (J 2))
  (Æ (l6 [0,1,2,3] "time" (J 3))
  (l6 [0,1,2,3] "behind" (J 4)))))
theorem wu (T:Txt K mg a w):dR P w K mg base fL 1 a.r a.s ["self","start","goal","time","behind"] (xG K a.ct [0,1,2,3] [0,0,0,0] kJ) :=
 IN (L:=mO [0,0,0,0]) (rk:=0) T.r.fn λ_ _ _ _ _ _ _ hr nd=>(ze (ue T.bQ xv)<|ze (ue T.bM xv)<|ze (ue T.bS xv)<|zm<|ue T.bL xv)
abbrev db:=eC<|.int 0
def lc:Nat->List D->Option D:=F7 ["self","start","goal","time"]
  (wW [0,1,2,3] (Ä (J 1)<|Ä (J 2)<|Ä (J 3)<|Ä db Å) kJ)
theorem ve (T:Txt K mg a w):dR P w K mg base fL 2 a.t a.u ["self","start","goal","time"] (xG K a.ct [1] [0,0,0] lc) :=
 IN (L:=mO [0,0,0]) (rk:=0) T.s.fn λ_ _ _ _ _ _ _ hr nd=>(zm<|OH (ns:=[0,0,0,0]) (wu T) (hr.mono<|by decide) T.b.mgx T.bH.sp T.bH.rd T.bH.fc T.r.fn.kp T.r.bd (by decide)<|zc xv<|zc xv<|zc xv<|zc eR zj)
def mG:Nat->List D->Option D:=F7 ["self","start","goal","time","behind"]
  (wW [0,1,2,3] (Ä (J 1)<|Ä (J 2)<|Ä (J 3)<|Ä (J 4) Å) kJ)
theorem jo (T:Txt K mg a w):dR P w K mg base fL 2 a.v a.x ["self","start","goal","time","behind"] (xG K a.ct [2] [0,0,0,0] mG) :=
 IN (L:=mO [0,0,0,0]) (rk:=0) T.t.fn λ_ _ _ _ _ _ _ hr nd=>(zm<|OH (ns:=[0,0,0,0]) (wu T) (hr.mono<|by decide) T.b.mgx T.bH.sp T.bH.rd T.bH.fc T.r.fn.kp T.r.bd (by decide)<|zc xv<|zc xv<|zc xv<|zc xv zj)
def la:Nat->List D->Option D:=F7 ["self","start","goal","time","behind"]
  (wW [0,1,2,3] (Ä (J 1)<|Ä (J 2)<|Ä (J 3)<|Ä (J 4) Å) kJ)
theorem vf (T:Txt K mg a w):dR P w K mg base fL 2 a.y a.z ["self","start","goal","time","behind"] (xG K a.ct [3] [0,0,0,0] la) :=
 IN (L:=mO [0,0,0,0]) (rk:=0) T.v.fn λ_ _ _ _ _ _ _ hr nd=>(zm<|OH (ns:=[0,0,0,0]) (wu T) (hr.mono<|by decide) T.b.mgx T.bH.sp T.bH.rd T.bH.fc T.r.fn.kp T.r.bd (by decide)<|zc xv<|zc xv<|zc xv<|zc xv zj)
def si:List D->Option D:=Ñ ["self"]
  (É<|eC<|.str "wait")
theorem Xw (T:Txt K mg a w):dR P w K mg base fL 1 a.aa a.ab ["self"] (iP K a.ct [0] 0 si) :=
 lf (L:=mO [0]) T.y.fn λ_ _ _ _ _ _ hr nd=>(zm<|kO<|zh (n:=0))
def sf:List D->Option D:=Ñ ["self"]
  (É<|eC<|.str "back")
theorem Xx (T:Txt K mg a w):dR P w K mg base fL 1 a.ac a.ad ["self"] (iP K a.ct [0] 0 sf) :=
 lf (L:=mO [0]) T.z.fn λ_ _ _ _ _ _ hr nd=>(zm<|kO<|zh (n:=0))
def gW:List D->Option D:=Ñ ["self","names"]
  (É<|e2 se (eC<|.str " ")<|λO=>((Ä (λO=>((λO=>((J 0) O).bind λo=>lF 2 "word" si o []) O).or<|(λO=>((J 0) O).bind λo=>lF 3 "word" sf o []) O)<|Ä (e2 gK (J 1)<|e1 (eE [0,1,2,3] "start")<|J 0)<|Ä (e2 gK (J 1)<|e1 (eE [0,1,2,3] "goal")<|J 0)<|Ä (eN AG<|Ä (e1 (eE [0,1,2,3] "time")<|J 0) Å) Å) O).bind λY=>Z<|.lst Y)
theorem yp (T:Txt K mg a w):dR P w K mg base fL 2 a.ae a.af ["self","names"] (iP K a.ct [0,0] 0 gW) :=
 lf (L:=mO [0,0]) T.aa.fn λ_ _ _ _ _ _ hr nd=>(zm<|kO<|ju (k:=0) (zh (n:=0))<|eX<|zw (k:=0)<|za (C4 (KQ (n:=0) (c0:=2) (nd:=[]) (lY:=[]) xv T.d.cl T.y.me (Xw T) (hr.mono<|by decide) T.y.bd .nil<|λ_ _=>.nil)<|KQ (n:=0) (c0:=3) (nd:=[]) (lY:=[]) xv T.e.cl T.z.me (Xx T) (hr.mono<|by decide) T.z.bd .nil<|λ_ _=>.nil)<|za (XE.ow<|jA xv<|jF xv T.bQ)<|za (XE.ow<|jA xv<|jF xv T.bM)<|za (XE.ow<|z4 (k:=0) wa JG rfl T.cJ Fp<|zc (jF xv T.bS) zj) zl)
def eL:List D->Option D:=Ñ ["self","names"]
  (É<|e2 se (eC<|.str " ")<|λO=>((Ä (λO=>((λO=>((J 0) O).bind λo=>((Ä (J 1) Å) O).bind λY=>lF 0 "row_to_time" gW o (Y++[])) O).or<|(λO=>((λO=>((J 0) O).bind λo=>((Ä (J 1) Å) O).bind λY=>lF 1 "row_to_time" gW o (Y++[])) O).or<|(λO=>((λO=>((J 0) O).bind λo=>((Ä (J 1) Å) O).bind λY=>lF 2 "row_to_time" gW o (Y++[])) O).or<|(λO=>((J 0) O).bind λo=>((Ä (J 1) Å) O).bind λY=>lF 3 "row_to_time" gW o (Y++[])) O) O) O)<|Ä (eN AG<|Ä (e1 (eE [0,1,2,3] "behind")<|J 0) Å) Å) O).bind λY=>Z<|.lst Y)
theorem zy (T:Txt K mg a w):dR P w K mg base fL 3 a.ag a.ah ["self","names"] (iP K a.ct [0,0] 0 eL) :=
 lf (L:=mO [0,0]) T.ab.fn λ_ _ _ _ _ _ hr nd=>(zm<|kO<|ju (k:=0) (zh (n:=0))<|eX<|zw (k:=0)<|za (C4 (yx (n:=0) (c0:=0) (ns:=[0]) (nd:=[]) (lY:=[]) xv T.b.cl T.aa.me (yp T) (hr.mono<|by decide) T.aa.bd .nil (λ_ _=>.nil)<|zc xv zj)<|C4 (yx (n:=0) (c0:=1) (ns:=[0]) (nd:=[]) (lY:=[]) xv T.c.cl T.bC (yp T) (hr.mono<|by decide) T.aa.bd .nil (λ_ _=>.nil)<|zc xv zj)<|C4 (yx (n:=0) (c0:=2) (ns:=[0]) (nd:=[]) (lY:=[]) xv T.d.cl T.bE (yp T) (hr.mono<|by decide) T.aa.bd .nil (λ_ _=>.nil)<|zc xv zj)<|yx (n:=0) (c0:=3) (ns:=[0]) (nd:=[]) (lY:=[]) xv T.e.cl T.bG (yp T) (hr.mono<|by decide) T.aa.bd .nil (λ_ _=>.nil)<|zc xv zj)<|za (XE.ow<|z4 (k:=0) wa JG rfl T.cJ Fp<|zc (jF xv T.bL) zj) zl)
def tS:List D->Option D:=Ñ ["self","names"]
  (É<|λO=>((λO=>((J 0) O).bind λo=>((Ä (J 1) Å) O).bind λY=>lF 0 "row_to_behind" eL o (Y++[])) O).or<|(λO=>((λO=>((J 0) O).bind λo=>((Ä (J 1) Å) O).bind λY=>lF 1 "row_to_behind" eL o (Y++[])) O).or<|(λO=>((λO=>((J 0) O).bind λo=>((Ä (J 1) Å) O).bind λY=>lF 2 "row_to_behind" eL o (Y++[])) O).or<|(λO=>((J 0) O).bind λo=>((Ä (J 1) Å) O).bind λY=>lF 3 "row_to_behind" eL o (Y++[])) O) O) O)
theorem X8 (T:Txt K mg a w):dR P w K mg base fL 4 a.ai a.aj ["self","names"] (iP K a.ct [0,0] 0 tS) :=
 lf (L:=mO [0,0]) T.ac.fn λ_ _ _ _ _ _ hr nd=>(zm<|yf<|C4 (yx (n:=0) (c0:=0) (ns:=[0]) (nd:=[]) (lY:=[]) xv T.b.cl T.ab.me (zy T) (hr.mono<|by decide) T.ab.bd .nil (λ_ _=>.nil)<|zc xv zj)<|C4 (yx (n:=0) (c0:=1) (ns:=[0]) (nd:=[]) (lY:=[]) xv T.c.cl T.bB (zy T) (hr.mono<|by decide) T.ab.bd .nil (λ_ _=>.nil)<|zc xv zj)<|C4 (yx (n:=0) (c0:=2) (ns:=[0]) (nd:=[]) (lY:=[]) xv T.d.cl T.bD (zy T) (hr.mono<|by decide) T.ab.bd .nil (λ_ _=>.nil)<|zc xv zj)<|yx (n:=0) (c0:=3) (ns:=[0]) (nd:=[]) (lY:=[]) xv T.e.cl T.bF (zy T) (hr.mono<|by decide) T.ab.bd .nil (λ_ _=>.nil)<|zc xv zj)
def tQ:List D->Option D:=Ñ ["self","names"]
  (É<|λO=>((λO=>((J 0) O).bind λo=>((Ä (J 1) Å) O).bind λY=>lF 0 "row_to_behind" eL o (Y++[])) O).or<|(λO=>((λO=>((J 0) O).bind λo=>((Ä (J 1) Å) O).bind λY=>lF 1 "row_to_behind" eL o (Y++[])) O).or<|(λO=>((λO=>((J 0) O).bind λo=>((Ä (J 1) Å) O).bind λY=>lF 2 "row_to_behind" eL o (Y++[])) O).or<|(λO=>((J 0) O).bind λo=>((Ä (J 1) Å) O).bind λY=>lF 3 "row_to_behind" eL o (Y++[])) O) O) O)
theorem X9 (T:Txt K mg a w):dR P w K mg base fL 4 a.ak a.al ["self","names"] (iP K a.ct [0,0] 0 tQ) :=
 lf (L:=mO [0,0]) T.ad.fn λ_ _ _ _ _ _ hr nd=>(zm<|yf<|C4 (yx (n:=0) (c0:=0) (ns:=[0]) (nd:=[]) (lY:=[]) xv T.b.cl T.ab.me (zy T) (hr.mono<|by decide) T.ab.bd .nil (λ_ _=>.nil)<|zc xv zj)<|C4 (yx (n:=0) (c0:=1) (ns:=[0]) (nd:=[]) (lY:=[]) xv T.c.cl T.bB (zy T) (hr.mono<|by decide) T.ab.bd .nil (λ_ _=>.nil)<|zc xv zj)<|C4 (yx (n:=0) (c0:=2) (ns:=[0]) (nd:=[]) (lY:=[]) xv T.d.cl T.bD (zy T) (hr.mono<|by decide) T.ab.bd .nil (λ_ _=>.nil)<|zc xv zj)<|yx (n:=0) (c0:=3) (ns:=[0]) (nd:=[]) (lY:=[]) xv T.e.cl T.bF (zy T) (hr.mono<|by decide) T.ab.bd .nil (λ_ _=>.nil)<|zc xv zj)
def lB:List D->Option D:=Ñ ["sign"]
  (É<|eB<|Ù (tb<|e2 BH (eC<|.str "a")<|J 0)<|tb<|e2 BH (J 0)<|eC<|.str "z")
theorem Qv (T:Txt K mg a w):dR P w K mg base fL 1 a.am a.an ["sign"] (iP K a.ct [0] 0 lB) :=
 lf (L:=mO [0]) T.ae.fn λ_ _ _ _ _ _ hr nd=>(zm<|kO<|um (Et (zh (n:=0)) xv)<|uc (k:=0)<|Et xv<|zh (n:=0))
def lA:List D->Option D:=Ñ ["sign"]
  (É<|eB<|Ù (tb<|e2 BH (eC<|.str "0")<|J 0)<|tb<|e2 BH (J 0)<|eC<|.str "9")
theorem Qw (T:Txt K mg a w):dR P w K mg base fL 1 a.ao a.ap ["sign"] (iP K a.ct [0] 0 lA) :=
 lf (L:=mO [0]) T.af.fn λ_ _ _ _ _ _ hr nd=>(zm<|kO<|um (Et (zh (n:=0)) xv)<|uc (k:=0)<|Et xv<|zh (n:=0))
def mq:EF:=(fY (λO=>((J 0) O).bind LL) 1 [] (gV 0) gY<|eB<|ä (tb<|cl lB<|Ä (J 0) Å)<|tb<|cl lA<|Ä (J 0) Å)
abbrev dl:=eC<|.int 1
abbrev ds:=É<|eC<|.bl Ã
def mY:List D->Option D:=Ñ ["word"]
  (Æ (Ó (ä (Ô<|tb<|e1 (tO "str")<|J 0)<|ä (tb<|e2 BI (eN iE<|Ä (J 0) Å) dl)<|tb<|e2 EQ (eN iE<|Ä (J 0) Å)<|eC<|.int 8) ds Ë)
  (É<|eB<|Ù (tb<|cl lB<|Ä (e2 gK (J 0) db) Å)<|tb<|eN wB<|Ä mq Å))
theorem YJ (T:Txt K mg a w):dR P w K mg base fL 2 a.aq a.ar ["word"] (iP K a.ct [0] 0 mY) :=
 lf (L:=mO [0]) T.ag.fn λ_ _ _ _ _ _ hr nd=>(ze (nX (XW.t<|jt (wg<|y0<|GN (k:=0) (by decide) T.cC T.cJ Fp xv)<|jt (Hl (oR T.cD<|zc xv zj) eR)<|ub<|KB (oR T.cD<|zc xv zj)<|Hn T.cQ)<|kO<|xo (n:=0))<|zm<|kO<|um (xc T.ae (Qv T) hr<|zc (jA xv eR) zj)<|uc (k:=0)<|xq (k:=0) (ql rfl) K7 rfl T.cy Le<|zc (eX<|yV (N:=["sign"]) (om:=mO [0]) (cap:=[]) (own:=1) (XI.cc<|S4 (n:=0) xv) (λ_ _ _ _ _ h=>(nO h)) (λ_ _ _ _ _=>yh)<|λ_ _ _ _ _=>(XE.ow<|O5 (xc T.ae (Qv T) hr<|zc xv zj)<|uc (k:=0)<|xc T.af (Qw T) hr<|zc xv zj)) zj)
def pq:SF:=(Æ (Ó (ä (Ô<|tb<|cl mY<|Ä (J 2) Å)<|tb<|λO=>((J 2) O).bind λx=>((J 1) O).bind λy=>(lZ y x).bind λr=>Z<|.bl r.isSome) (É<|eC<|.bl Ã) Ë)
  (uB 1 (J 2)<|eC<|.bl Â))
abbrev io:=É<|eC<|.bl Â
def ku:List D->Option D:=Ñ ["names","seen","name"]
  (Æ (Ó (ä (Ô<|tb<|e1 (tO "list")<|J 0)<|ä (tb<|e2 BI (eN iE<|Ä (J 0) Å) dl)<|tb<|e2 EQ (eN iE<|Ä (J 0) Å)<|eC<|.int 40) ds Ë)
  (Æ (È 1<|eC<|.dK [] [])
  (Æ (Õ (Ú<|J 0) (gV 2) pq)
  io)))
theorem Xy (T:Txt K mg a w):dR P w K mg base fL 3 a.au a.av ["names"] (iP K a.ct [0] 0 ku) :=
 lf (L:=mO [0,1,0]) T.ah.fn λ_ _ _ _ _ _ hr nd=>(ze (nX (XW.t<|jt (wg<|y0<|GN (k:=0) (by decide) T.cC T.cE jr xv)<|jt (Hl (oR T.cD<|zc xv zj) eR)<|ub<|KB (oR T.cD<|zc xv zj)<|Hn T.cO)<|kO<|xo (n:=0))<|ze (jO nd KP)<|ze (xF (uq xv) (p0 nd)<|ze (nX (XW.t<|jt (wg<|y0<|xc T.ag (YJ T) hr<|zc xv zj)<|ub<|Ż (j0 hr) xv xv<|by with_unfolding_all rfl)<|kO<|xo (n:=0))<|zm<|K8 1 rfl (j0 hr) xv<|xo (n:=0))<|zm<|kO<|xo (n:=0))
def kh:List D->Option D:=Ñ ["number","least","most"]
  (Æ (Ó (ä (Ô<|tb<|e1 (tO "int")<|J 0)<|tb<|e1 (tO "bool")<|J 0) ds Ë)
  (É<|eB<|Ù (tb<|e2 BH (J 1)<|J 0)<|tb<|e2 BH (J 0)<|J 2))
theorem x8 (T:Txt K mg a w):dR P w K mg base fL 1 a.aw a.ax ["number","least","most"] (iP K a.ct [0,0,0] 0 kh) :=
 lf (L:=mO [0,0,0]) T.ai.fn λ_ _ _ _ _ _ hr nd=>(ze (nX (XW.t<|jt (wg<|y0<|GN (k:=0) (by decide) T.cC T.cB xi xv)<|ub<|y0<|GN (k:=0) (by decide) T.cC T.cz Sh xv)<|kO<|xo (n:=0))<|zm<|kO<|um (Et xv xv)<|uc (k:=0)<|Et xv xv)
abbrev en:=eE [0,1,2,3] "behind"
abbrev eV:=eE [0,1,2,3] "start"
abbrev fg:=eE [0,1,2,3] "goal"
def tV:List D->Option D:=Ñ ["arrow","many","least","most"]
  (Æ (È 2<|ø (tb<|e1 (BG [0,1,2,3,4,5,6] [3])<|J 0) dl db)
  (Æ (È 3<|ø (tb<|e1 (BG [0,1,2,3,4,5,6] [1])<|J 0) db<|eC<|.int 4)
  (Æ (Ó (ä (Ô<|tb<|cl kh<|Ä (e1 eV<|J 0)<|Ä db<|Ä (e2 wX (J 1) dl) Å)<|Ô<|tb<|cl kh<|Ä (e1 fg<|J 0)<|Ä db<|Ä (e2 wX (J 1) dl) Å) ds Ë)
  (É<|eB<|Ù (tb<|cl kh<|Ä (e1 (eE [0,1,2,3] "time")<|J 0)<|Ä db<|Ä (eC<|.int 1000000000) Å)<|tb<|cl kh<|Ä (e1 en<|J 0)<|Ä (J 2)<|Ä (J 3) Å))))
theorem Ya (T:Txt K mg a w):dR P w K mg base fL 2 a.ay a.az ["arrow","many"] (iP K a.ct [0,0] 0 tV) :=
 lf (L:=mO [0,0,0,0]) T.aj.fn λ_ _ _ _ _ _ hr nd=>(ze (p4 nd<|GQ (y0<|K9 (k:=0) T.bU T.cC T.e.mgx xv) eR eR)<|ze (p4 nd<|GQ (y0<|K9 (k:=0) T.bV T.cC T.c.mgx xv) eR<|Hn T.cM)<|ze (nX (XW.t<|jt (wg<|y0<|xc T.ai (x8 T) hr<|zc (jF xv T.bQ)<|zc eR<|zc (BN xv eR) zj)<|ub<|wg<|y0<|xc T.ai (x8 T) hr<|zc (jF xv T.bM)<|zc eR<|zc (BN xv eR) zj)<|kO<|xo (n:=0))<|zm<|kO<|um (xc T.ai (x8 T) hr<|zc (jF xv T.bS)<|zc eR<|zc (Hn T.cR) zj)<|uc (k:=0)<|xc T.ai (x8 T) hr<|zc (jF xv T.bL)<|zc xv<|zc xv zj)
def qH:SF:=(Ó (tb<|e2 (jQ Ã) (e1 (eE [0,1,2,3] "start")<|J 4)<|J 7) (Æ (CV 3 (e1 (eE [0,1,2,3] "goal")<|J 4) (λi j=>i-j)<|eC<|.int 1)
  (Ó (tb<|e2 (jQ Ã) (e2 gK (J 3)<|e1 (eE [0,1,2,3] "goal")<|J 4)<|eC<|.int 0) (â 5<|e1 (eE [0,1,2,3] "goal")<|J 4) Ë)) Ë)
def qI:SF:=(Æ (È 7<|e2 gK (J 5)<|J 6)
  (Æ (Õ (Ú<|J 2) (gV 4) qH)
  (Jn 6 (i2 λi j=>.int<|i+j)<|eC<|.int 1)))
def qU:EF:=(fY (λO=>((Ä (J 0) Å) O).bind o6) 1 [3] (gV 0) (tb<|e2 (jQ Ã) (e2 gK (J 1)<|J 0)<|eC<|.int 0)<|J 0)
def qJ:SF:=(CV 3 (e1 (eE [0,1,2,3] "goal")<|J 4) (λi j=>i+j)<|eC<|.int 1)
abbrev gt:=jQ Ã
abbrev im:=gV 0
def qV:EF:=(fY (Ú<|J 1) 1 [] im (tb<|e2 gt (e1 en<|J 0) db)<|J 0)
def lL:List D->Option D:=Ñ ["many","arrows","within","waited","arrow","placed","done","here"]
  (Æ (È 2 qV)
  (Æ (È 3<|e2 BQ (λO=>((Ä (eC<|.int 0) Å) O).bind λY=>Z<|.lst Y)<|J 0)
  (Æ (Õ (Ú<|J 2) (gV 4) qJ)
  (Æ (È 5 qU)
  (Æ (È 6<|eC<|.int 0)
  (Æ (uC (tb<|e2 BI (J 6)<|eN iE<|Ä (J 5) Å) qI)
  (É<|J 5)))))))
theorem ui (T:Txt K mg a w):dR P w K mg base fL 1 a.aA a.aB ["many","arrows"] (iP K a.ct [0,0] 0 lL) :=
 lf (L:=mO [0,0,0,1,0,1,0,0]) T.ak.fn λ_ _ _ _ _ _ hr nd=>(ze (Eu (k:=0) (N:=["arrow"]) (om:=mO [0]) (cap:=[]) (own:=1) nd (yk (n:=0) xv) (λ_ _ _ _ _ h=>(nO h)) (λ_ _ _ _ _=>(Ho<|wY hr (jF xv T.bL) eR))<|λ_ _ _ _ _=>(XE.ow xv))<|ze (jO nd<|Ln (zw (k:=0)<|za (XE.ow eR) zl) xv)<|ze (xF (uq xv) (p0 nd)<|zm<|Su 3 S3 rfl (jF xv T.bM) eR)<|ze (Eu (k:=1) (N:=["going","waited"]) (om:=mO [0]) (cap:=[3]) (own:=1) nd (XI.cc<|yu (n:=0) T.cG<|zc xv zj) (λ_ _ _ _ _ h=>(nO h)) (λ_ _ _ _ _=>(Ho<|wY hr (Dw xv xv) eR))<|λ_ _ _ _ _=>(XE.ow xv))<|ze (p4 nd eR)<|ze (NW (Hl xv<|oR T.cD<|zc xv zj)<|ze (p4 nd<|Dw xv xv)<|ze (xF (uq xv) (p0 nd)<|zm<|Fy (wY hr (jF xv T.bQ) xv) (ze (Su 3 Ε rfl (jF xv T.bM) eR)<|zm<|nX (wY hr (Dw xv<|jF xv T.bM) eR)<|xu 5 rfl<|XE.ow<|jF xv T.bM) yq)<|zm<|ž S3 rfl nd rfl (Or.inl rfl) eR)<|zm<|La (i:=5) rfl)
def pO:SF:=(Æ (uB 4 (J 3)<|eN iE<|Ä (J 5) Å)
  (Æ (â 5<|λO=>((J 1) O).bind λx=>((J 3) O).bind λy=>(lZ x y).join)
  (È 3<|e1 (eE [0,1,2,3] "start")<|e2 gK (J 0)<|λO=>((J 1) O).bind λx=>((J 3) O).bind λy=>(lZ x y).join)))
def mZ:List D->Option D:=Ñ ["arrows","chosen","going","here","seen","way"]
  (Æ (È 3<|J 2)
  (Æ (È 4<|eC<|.dK [] [])
  (Æ (È 5<|λO=>(Å O).bind λY=>Z<|.lst Y)
  (Æ (uC (tb<|λO=>((J 3) O).bind λx=>((J 4) O).bind λy=>(lZ y x).bind λr=>Z<|.bl<|!r.isSome) pO)
  (É<|e1 CJ<|λO=>((J 5) O).bind λd=>((Ý<|λO=>((J 4) O).bind λx=>((J 3) O).bind λy=>(lZ x y).join) O).bind λl=>(ï O).bind λh=>jT d l h)))))
theorem Wg (T:Txt K mg a w):dR P w K mg base fL 1 a.aC a.aD ["arrows","chosen","going"] (iP K a.ct [0,0,0] 0 mZ) :=
 lf (L:=mO [0,0,0,0,1,1]) T.al.fn λ_ _ _ _ _ _ hr nd=>(ze (p4 nd xv)<|ze (jO nd KP)<|ze (jO nd<|zw (k:=0) zl)<|ze (NW (Zj (j0 hr) xv xv<|by with_unfolding_all rfl)<|ze (K8 4 rfl (j0 hr) xv<|oR T.cD<|zc xv zj)<|ze (xu 5 rfl<|XE.ow<|JM (j0 hr) (zt 1 0) (zt 3 0)<|λ_ _=>rfl)<|zm<|p4 nd<|jF (jA xv<|JM (j0 hr) (zt 1 0) (zt 3 0)<|λ_ _=>rfl) T.bQ)<|zm<|yf<|eZ<|Sy (n:=0) (by decide) rfl rfl T.cE rfl T.cH<|eX<|y3 (n:=1) (by decide) xv (xw<|JM (j0 hr) (zt 4 1) (zt 3 0)<|λ_ _=>rfl) B8)
def t9:EF:=(fY (λO=>((Ä (J 0) Å) O).bind o6) 1 [2] (gV 0) (tb<|e2 (ê Â) (J 0)<|J 1)<|J 0)
def tK:SF:=(Ó (Ù (tb<|e2 gt (e1 en<|J 5) db)<|tb<|e2 (ê Â) (e1 eV<|J 5)<|J 2) (uB 3 (e1 fg<|J 5)<|J 4) Ë)
def qP:List D->Option D:=Ñ ["many","arrows","placed","chosen","number","arrow","unplaced"]
  (Æ (È 3<|eC<|.dK [] [])
  (Æ (Õ (λO=>((Ä (J 1) Å) O).bind λY=>match Y with|[.lst xs]=>Z (l4 0 xs)|_=>S) (gT<|Í (gV 4)<|Í (gV 5) Ò) tK)
  (þ 3 (Æ (È 6 t9)
  (É<|cl mZ<|Ä (J 1)<|Ä (J 3)<|Ä (e2 gK (J 6)<|eC<|.int 0) Å)))))
theorem Xb (T:Txt K mg a w):dR P w K mg base fL 2 a.aE a.aF ["many","arrows","placed"] (iP K a.ct [0,0,0] 0 qP) :=
 lf (L:=mO [0,0,0,1,0,0,0]) T.am.fn λ_ _ _ _ _ _ hr nd=>(ze (jO nd KP)<|ze (xF (K6 T.cA<|zc xv zj) (GM (n:=1) rfl<|yj (p0 nd)<|yj (p0 nd) uo)<|zm<|nX (XW.t<|OO (wY hr (jF xv T.bL) eR)<|OD<|we (k:=0) wb Hu (jF xv T.bQ) xv<|by with_unfolding_all rfl)<|K8 3 rfl (j0 hr) (jF xv T.bM) xv)<|Lp (i:=3) rfl<|ze (Eu (k:=0) (N:=["going","placed"]) (om:=mO [0]) (cap:=[2]) (own:=1) nd (XI.cc<|yu (n:=0) T.cG<|zc xv zj) (λ_ _ _ _ _ h=>(nO h)) (λ_ _ _ _ _=>(Ho<|we (k:=0) wb Hu xv xv<|by with_unfolding_all rfl))<|λ_ _ _ _ _=>(XE.ow xv))<|zm<|yf<|jU T.al (Wg T) hr<|zc xv<|zc xv<|zc (jA xv eR) zj)
theorem Wk (T:Txt K mg a w):dR P w K mg base fL 1 a.aG a.aH ["self","at"] (xV "at" a.j) :=
 Ov (kk:=0) T.an.fn Wc T.bY T.bZ λgH A outer s H E=>⟨_,λ_ _ _ _ h1 h2 h3=>NR h1 h2 h3,wx (w9<|j4 (B:=a.i) rfl T.i T.cc.1 T.cc.2.1 T.cc.2.2 (yb (i:=0) rfl<|Or.inl rfl)<|JF<|xp u7<|xp (O2<|yb (i:=1) rfl<|Or.inl rfl) JE)<|vw<|JD (yb (i:=0) rfl<|Or.inl rfl)<|yb (i:=1) rfl<|Or.inl rfl⟩
theorem WG (T:Txt K mg a w):dR P w K mg base fL 1 a.aI a.aJ ["self","ring"] (vG K "ring" a.k) :=
 Zn (kk:=0) T.ao.fn WD T.b1 T.b2 λgH A outer s H E hr=>wx (w9<|j4 (B:=a.i) rfl T.i T.cc.1 T.cc.2.1 T.cc.2.2 (yb (i:=0) rfl<|Or.inl rfl)<|JF<|xp u7<|xp (Ŵ hr.gd hr.units<|yb (i:=1) rfl<|Or.inl rfl) JE)<|vw<|JD (yb (i:=0) rfl<|Or.inl rfl)<|N6 wc rfl T.cE jr<|ya (yb (i:=1) rfl<|Or.inl rfl) yz
theorem WH (T:Txt K mg a w):dR P w K mg base fL 1 a.aK a.aL ["self","at"] (xV "at" a.p) :=
 Ov (kk:=0) T.ap.fn WE T.ca T.cb λgH A outer s H E=>⟨_,λ_ _ _ _ h1 h2 h3=>NR h1 h2 h3,wx (w9<|j4 (B:=a.i) rfl T.i T.cc.1 T.cc.2.1 T.cc.2.2 (yb (i:=0) rfl<|Or.inl rfl)<|JF<|xp u7<|xp (O2<|yb (i:=1) rfl<|Or.inl rfl) JE)<|vw<|JD (yb (i:=0) rfl<|Or.inl rfl)<|yb (i:=1) rfl<|Or.inl rfl⟩
theorem Wh (T:Txt K mg a w):dR P w K mg base fL 1 a.aM a.aN ["self","name"] (vH "name" a.q) :=
 Zc (kk:=0) T.aq.fn Wf T.b4 T.b5 λgH A outer s H E=>⟨_,λ_ _ _ _ h1 h2 h3=>V1 h1 h2 h3,wx (w9<|j4 (B:=a.i) rfl T.i T.cc.1 T.cc.2.1 T.cc.2.2 (yb (i:=0) rfl<|Or.inl rfl)<|JF<|xp u7<|xp (Ũ<|yb (i:=1) rfl<|Or.inl rfl) JE)<|vw<|JD (yb (i:=0) rfl<|Or.inl rfl)<|yb (i:=1) rfl<|Or.inl rfl⟩
theorem WI (T:Txt K mg a w):dR P w K mg base fL 1 a.aO a.aP ["self","arrow"] (xV "arrow" a.m) :=
 Ov (kk:=0) T.ar.fn WF T.b7 T.b8 λgH A outer s H E=>⟨_,λ_ _ _ _ h1 h2 h3=>NR h1 h2 h3,wx (w9<|j4 (B:=a.i) rfl T.i T.cc.1 T.cc.2.1 T.cc.2.2 (yb (i:=0) rfl<|Or.inl rfl)<|JF<|xp u7<|xp (O2<|yb (i:=1) rfl<|Or.inl rfl)<|xp u7 JE)<|vw<|JD (yb (i:=0) rfl<|Or.inl rfl)<|yb (i:=1) rfl<|Or.inl rfl⟩
def wD:SF:=(Æ (â 5<|λO=>((J 1) O).bind λx=>((J 4) O).bind λy=>(lZ x y).join)
  (È 4<|e1 (eE [0,1,2,3] "start")<|e2 gK (J 0)<|λO=>((J 1) O).bind λx=>((J 4) O).bind λy=>(lZ x y).join))
def tY:List D->Option D:=Ñ ["arrows","chosen","start","goal","here","way"]
  (Æ (È 4<|J 3)
  (Æ (È 5<|λO=>(Å O).bind λY=>Z<|.lst Y)
  (Æ (uC (tb<|e2 (jQ Â) (J 4)<|J 2) wD)
  (É<|e1 CJ<|J 5))))
theorem Yb (T:Txt K mg a w):dR P w K mg base fL 1 a.aQ a.aR ["arrows","chosen","start","goal"] (iP K a.ct [0,0,0,0] 1 tY) :=
 lf (L:=mO [0,0,0,0,0,1]) T.au.fn λ_ _ _ _ _ _ hr nd=>(ze (p4 nd xv)<|ze (jO nd<|zw (k:=0) zl)<|ze (NW (GB hr xv xv)<|ze (xu 5 rfl<|XE.ow<|JM (j0 hr) (zt 1 0) (zt 4 0)<|λ_ _=>rfl)<|zm<|p4 nd<|jF (jA xv<|JM (j0 hr) (zt 1 0) (zt 4 0)<|λ_ _=>rfl) T.bQ)<|zm<|yf<|Sy (n:=1) (by decide) rfl rfl T.cE rfl T.cH xv)
def sM:n9:=(rK (Ô<|tb<|cl tV<|Ä (J 4)<|Ä (eN iE<|Ä (J 1) Å) Å) (nv<|λO=>((J 3) O).bind λd=>(pP d).bind λd=>Z<|.exc 8 ["at"] [d])<|sY Ë)
def iT:n9:=(jJ (Bf (λO=>((Ä (J 2) Å) O).bind λY=>match Y with|[.lst xs]=>Z (l4 0 xs)|_=>S) (gT<|Í (gV 3)<|Í (gV 4) Ò) sM)
  (jJ (sY<|È 5<|cl lL<|Ä (eN iE<|Ä (J 1) Å)<|Ä (J 2) Å)
  (jJ (rK (tb<|e2 BI (eN iE<|Ä (J 5) Å)<|eN iE<|Ä (J 1) Å) (nv<|λO=>((cl qP<|Ä (eN iE<|Ä (J 1) Å)<|Ä (J 2)<|Ä (J 5) Å) O).bind λd=>(HX d).bind λd=>Z<|.exc 9 ["ring"] [d])<|sY Ë)
  (sY (Æ (l6 [4] "names" (eN yF<|Ä (J 1) Å))
  (l6 [4] "arrows" (eN yF<|Ä (J 2) Å)))))))
def iz:Nat->List D->Option iS:=Av ["self","names","arrows","number","arrow","placed"]
  (jJ (rK (ä (Ô<|tb<|cl ku<|Ä (J 1) Å)<|tb<|e2 EQ (eN iE<|Ä (J 2) Å)<|eC<|.int 120) (nv<|λO=>((eC .non) O).bind λd=>(pP d).bind λd=>Z<|.exc 8 ["at"] [d])<|sY Ë)
  iT)
theorem vg (T:Txt K mg a w):dR P w K mg base (rg P w) 4 a.aS a.aT ["self","names","arrows"] (vX K a.ct [4] [0,0] iz):=by
 have nz:=Wk (P:=P) (w:=w) (base:=base) T;have tF:=WG (P:=P) (w:=w) (base:=base) T;have vW:=Xb (P:=P) (w:=w) (base:=base) T;have xT:=Xy (P:=P) (w:=w) (base:=base) T;have Ag:=Ya (P:=P) (w:=w) (base:=base) T;have sJ:=ui (P:=P) (w:=w) (base:=base) T;refine QU (L:=mO [0,0,0,0,0]) (rk:=0) T.av.fn wn rfl rfl (by decide) (xg<|by decide) λx0 gH A outer s H E hr=>?_;exact(ye (Ft (XW.t<|jt (wg<|y0<|XO.sh (n:=0)<|jU T.ah xT hr<|zc (zt 1 0) zj)<|ub<|we (k:=0) Tp SS (oR T.cD<|zc (zt 2 0) zj) (Sn (n:=0) (d:=(.int 120)) rfl T.cL.choose_spec rfl ⟨_,rfl⟩)<|hV _) (yo<|wr rfl ym<|qo (c0:=8) (fn:="at") T.bY T.bX T.an.me.at_ T.an.me.fn nz (hr.mono<|by decide) T.j T.an.bd qX)<|xz yq)
  (ye (OI (K6 T.cA<|zc (zt 2 0) zj) (GM (n:=1) rfl<|yj (p0 wn.nd)<|yj (p0 wn.nd) uo) (yo<|Ft (wg<|y0<|XO.sh (n:=0)<|jU T.aj Ag hr<|zc (zt 4 0)<|zc (oR T.cD<|zc (zt 1 0) zj) zj) (yo<|wr rfl ym<|qo (c0:=8) (fn:="at") T.bY T.bX T.an.me.at_ T.an.me.fn nz (hr.mono<|by decide) T.j T.an.bd<|zt 3 0)<|xz yq) gE.leaving rfl)
  (ye (Fs<|jO wn.nd<|jU T.ak sJ hr<|zc (oR T.cD<|zc (zt 1 0) zj)<|zc (zt 2 0) zj)
  (ye (Ft (we (k:=0) Lv Lg (oR T.cD<|zc (zt 5 0) zj) (oR T.cD<|zc (zt 1 0) zj)<|hV _) (yo<|wr rfl ym<|zpa (c0:=9) (fn:="ring") T.b1 T.b0 T.ao.me.at_ T.ao.me.fn tF (hr.mono<|by decide) T.k T.ao.bd<|XO.sh (n:=0)<|jU T.am vW hr<|zc (oR T.cD<|zc (zt 1 0) zj)<|zc (zt 2 0)<|zc (zt 5 0) zj)<|xz yq)
  (xz (ze (ue T.bN<|XO.sh (n:=0)<|j8 wc (KR (n:=0)<|by decide) rfl T.cE jr<|zc (zt 1 0) zj)
  (zm<|ue T.bJ<|XO.sh (n:=0)<|j8 wc (KR (n:=0)<|by decide) rfl T.cE jr<|zc (zt 2 0) zj)))))))
def lQ:Nat->List D->Option D:=AX iz
theorem wo (T:Txt K mg a w):dR P w K mg base fL 4 a.aS a.aT ["self","names","arrows"] (xG K a.ct [4] [0,0] lQ):=RR<|vg T
abbrev gf:=eE [4] "arrows"
def o4:EF:=(fY (Ú<|e1 gf<|J 0) 1 [] im gY<|e1 en<|J 0)
def ml:List D->Option D:=Ñ ["self"]
  (É<|eN D4<|Ä (e2 dL (λO=>((Ä (eC<|.int 1) Å) O).bind λY=>Z<|.lst Y) o4) Å)
theorem qz (T:Txt K mg a w):dR P w K mg base fL 1 a.aU a.aV ["self"] (iP K a.ct [0] 0 ml) :=
 lf (L:=mO [0]) T.aw.fn λ_ _ _ _ _ _ hr nd=>(zm<|kO<|xq (k:=0) (N3 rfl) OG rfl T.cF Hs<|zc (eX<|e8 (eX<|zw (k:=0)<|za (XE.ow eR) zl)<|eX<|yV (N:=["arrow"]) (om:=mO [0]) (cap:=[]) (own:=1) (yk (n:=0)<|jF xv T.bJ) (λ_ _ _ _ _ h=>(nO h)) (λ_ _ _ _ _=>yh)<|λ_ _ _ _ _=>(XE.ow<|jF xv T.bL)) zj)
def wQ:EF:=(fY (λO=>((Ä (e1 (eE [4] "arrows")<|J 0) Å) O).bind λY=>match Y with|[.lst xs]=>Z (l4 0 xs)|_=>S) 2 [1] (gT<|Í (gV 0)<|Í (gV 1) Ò) (tb<|e2 (jQ Ã) (e1 (eE [0,1,2,3] "goal")<|J 1)<|J 2)<|J 0)
def tR:List D->Option D:=Ñ ["self","going"]
  (É wQ)
theorem Yc (T:Txt K mg a w):dR P w K mg base fL 1 a.aW a.aX ["self","going"] (iP K a.ct [0,0] 0 tR) :=
 lf (L:=mO [0,0]) T.ax.fn λ_ _ _ _ _ _ hr nd=>(zm<|yf<|eZ<|yV (N:=["number","arrow","going"]) (om:=mO [0,0]) (cap:=[1]) (own:=2) (zoo (n:=0) T.cA<|zc (jF xv T.bJ) zj) (λ_ _ _ _ _ h=>(Hq (n:=1) rfl<|yr (nO h)<|yr (nO h) ja)) (λ_ _ _ _ _=>(Ho<|wY hr (jF xv T.bM) xv))<|λ_ _ _ _ _=>(XE.ow xv))
abbrev ge:=eE [4] "names"
def sg:List D->Option D:=Ñ ["self"]
  (É<|cl lL<|Ä (eN iE<|Ä (e1 ge<|J 0) Å)<|Ä (e1 gf<|J 0) Å)
theorem Xg (T:Txt K mg a w):dR P w K mg base fL 2 a.aY a.aZ ["self"] (iP K a.ct [0] 0 sg) :=
 lf (L:=mO [0]) T.ay.fn λ_ _ _ _ _ _ hr nd=>(zm<|yf<|jU T.ak (ui T) hr<|zc (oR T.cD<|zc (jF xv T.bN) zj)<|zc (jF xv T.bJ) zj)
def pF:EF:=(fY (λO=>((J 0) O).bind LL) 1 [] (gV 0) gY<|cl lA<|Ä (J 0) Å)
abbrev ln:=jQ Â
def lC:List D->Option D:=Ñ ["word"]
  (Æ (Ó (ä (tb<|e2 BI (eN iE<|Ä (J 0) Å) dl)<|ä (tb<|e2 EQ (eN iE<|Ä (J 0) Å)<|eC<|.int 15)<|Ô<|tb<|eN wB<|Ä pF Å) ds Ë)
  (É<|eB<|ä (tb<|e2 gt (J 0)<|eC<|.str "0")<|tb<|e2 ln (e2 gK (J 0) db)<|eC<|.str "0"))
theorem ux (T:Txt K mg a w):dR P w K mg base fL 2 a.a0 a.a1 ["word"] (iP K a.ct [0] 0 lC) :=
 lf (L:=mO [0]) T.az.fn λ_ _ _ _ _ _ hr nd=>(ze (nX (XW.t<|jt (Hl (oR T.cD<|zc xv zj) eR)<|jt (KB (oR T.cD<|zc xv zj)<|Hn T.cN)<|ub<|wg<|y0<|xq (k:=0) (ql rfl) K7 rfl T.cy Le<|zc (eX<|yV (N:=["sign"]) (om:=mO [0]) (cap:=[]) (own:=1) (XI.cc<|S4 (n:=0) xv) (λ_ _ _ _ _ h=>(nO h)) (λ_ _ _ _ _=>yh)<|λ_ _ _ _ _=>(jU T.af (Qw T) hr<|zc xv zj)) zj)<|kO<|xo (n:=0))<|zm<|kO<|O5 (Ċ hr xv<|zh (n:=0))<|uc (k:=0)<|V6 hr (jA xv eR)<|zh (n:=0))
def sT:EF:=(fY (Ú<|J 0) 1 [] im gY<|cl lC<|Ä (J 0) Å)
def lh:List D->Option D:=Ñ ["words"]
  (É<|eN wB<|Ä sT Å)
theorem vh (T:Txt K mg a w):dR P w K mg base fL 3 a.a2 a.a3 ["words"] (iP K a.ct [0] 0 lh) :=
 lf (L:=mO [0]) T.aA.fn λ_ _ _ _ _ _ hr nd=>(zm<|kO<|xq (k:=0) (ql rfl) K7 rfl T.cy Le<|zc (eX<|yV (N:=["word"]) (om:=mO [0]) (cap:=[]) (own:=1) (yk (n:=0) xv) (λ_ _ _ _ _ h=>(nO h)) (λ_ _ _ _ _=>yh)<|λ_ _ _ _ _=>(jU T.az (ux T) hr<|zc xv zj)) zj)
def mX:List D->Option D:=Ñ ["words"]
  (Æ (Ó (tb<|e2 (jQ Ã) (e2 gK (J 0)<|eC<|.int 0)<|eC<|.str "ride") (É<|eB<|Ù (tb<|e2 (jQ Ã) (eN iE<|Ä (J 0) Å)<|eC<|.int 4)<|tb<|cl lC<|Ä (e2 gK (J 0)<|eC<|.int 3) Å) Ë)
  (Æ (Ó (ä (tb<|e2 (jQ Ã) (e2 gK (J 0)<|eC<|.int 0)<|eC<|.str "wait")<|tb<|e2 (jQ Ã) (e2 gK (J 0)<|eC<|.int 0)<|eC<|.str "back") (É<|eB<|Ù (tb<|e2 (jQ Ã) (eN iE<|Ä (J 0) Å)<|eC<|.int 5)<|tb<|cl lh<|Ä (λO=>((J 0) O).bind λd=>((Ý<|eC<|.int 3) O).bind λl=>(ï O).bind λh=>jT d l h) Å) Ë)
  (Æ (Ó (tb<|e2 (jQ Ã) (e2 gK (J 0)<|eC<|.int 0)<|eC<|.str "line") (É<|eB<|Ù (tb<|e2 G6 (eN iE<|Ä (J 0) Å)<|eC<|.int 4)<|Ù (tb<|e2 (jQ Ã) (e2 lR (eN iE<|Ä (J 0) Å)<|eC<|.int 2)<|eC<|.int 0)<|tb<|cl lh<|Ä (e2 dL (λO=>((Ä (e2 gK (J 0)<|eC<|.int 1) Å) O).bind λY=>Z<|.lst Y)<|λO=>((Ú<|J 0) O).bind λY=>Z<|.lst<|every2<|Y.drop 3) Å) Ë)
  (É<|eC<|.bl Ã))))
theorem Wi (T:Txt K mg a w):dR P w K mg base fL 4 a.a4 a.a5 ["words"] (iP K a.ct [0] 0 mX) :=
 lf (L:=mO [0]) T.aB.fn λ_ _ _ _ _ _ hr nd=>(ze (nX (wY hr (jA xv eR)<|zh (n:=0))<|kO<|um (Ċ hr (oR T.cD<|zc xv zj) eR)<|uc (k:=0)<|xc T.az (ux T) hr<|zc (jA xv eR) zj)<|ze (nX (XW.t<|jt (wY hr (jA xv eR)<|zh (n:=0))<|ub<|wY hr (jA xv eR)<|zh (n:=0))<|kO<|um (Ċ hr (oR T.cD<|zc xv zj) eR)<|uc (k:=0)<|xc T.aA (vh T) hr<|zc (eX<|y3 (n:=0) (by decide) xv (xw eR) B8) zj)<|ze (nX (wY hr (jA xv eR)<|zh (n:=0))<|kO<|um (V4 (oR T.cD<|zc xv zj) eR)<|um (Ċ hr (ã (oR T.cD<|zc xv zj) eR) eR)<|uc (k:=0)<|xc T.aA (vh T) hr<|zc (eX<|e8 (eX<|zw (k:=0)<|za (XE.ow<|jA xv eR) zl)<|eX<|K4 (n:=0) (i:=3) (by decide) xv eR eR) zj)<|zm<|kO<|xo (n:=0))
def oA:List D->Option D:=Ñ ["words"]
  (É<|ø (tb<|e2 (jQ Ã) (e2 gK (J 0)<|eC<|.int 0)<|eC<|.str "line") (λO=>((Ú<|J 0) O).bind λY=>Z<|.lst<|every2<|Y.drop 2)<|λO=>((J 0) O).bind λd=>((Ý<|eC<|.int 1) O).bind λl=>((Ý<|eC<|.int 3) O).bind λh=>jT d l h)
theorem WJ (T:Txt K mg a w):dR P w K mg base fL 1 a.a6 a.a7 ["words"] (iP K a.ct [0] 0 oA) :=
 lf (L:=mO [0]) T.aC.fn λ_ _ _ _ _ _ hr nd=>(zm<|kO<|GQ (wY hr (jA xv eR)<|zh (n:=0)) (eX<|K4 (n:=0) (i:=2) (by decide) xv eR eR)<|eX<|y3 (n:=0) (by decide) xv (xw eR)<|xw eR)
def eA:n9:=(rK (tb<|e2 (ê Â) (J 2)<|J 1) (nv<|λO=>((J 2) O).bind λd=>(wI d).bind λd=>Z<|.exc 15 ["name"] [d])<|sY Ë)
def kM:List D->Option iS:=uW ["told","names","name"]
  (Bf (Ú<|J 0) (gV 2) eA)
theorem w6 (T:Txt K mg a w):dR P w K mg base (rg P w) 3 a.a8 a.a9 ["told","names"] (nS K a.ct [0,0] 0 kM):=by have rB:=Wh (P:=P) (w:=w) (base:=base) T;refine tP (L:=mO [0,0,0]) T.aD.fn vq rfl rfl (by decide) (xg<|by decide) λ_ _ _ _ _ _ hr=>?_;exact(yo<|OI (uq<|zt 0 0) (p0 vq.nd) (yo<|Ft (we (k:=0) wb Hu (zt 2 0) (zt 1 0)<|by with_unfolding_all rfl) (yo<|wr rfl ym<|zpc (c0:=15) (fn:="name") T.b4 T.b3 T.aq.me.at_ T.aq.me.fn rB (hr.mono<|by decide) T.q T.aq.bd<|zt 2 0)<|xz yq) gE.leaving rfl)
def iG:List D->Option D:=Cq kM
theorem vv (T:Txt K mg a w):dR P w K mg base fL 3 a.a8 a.a9 ["told","names"] (iP K a.ct [0,0] 0 iG):=Ϙ<|w6 T
def oz:List D->Option D:=Ñ ["words","names","start","goal"]
  (Æ (È 2<|e2 wL (J 1)<|e2 gK (J 0) dl)
  (Æ (È 3<|e2 wL (J 1)<|e2 gK (J 0)<|eC<|.int 2)
  (Æ (Ó (tb<|e2 gt (e2 gK (J 0) db)<|eC<|.str "ride") (É<|cl (lc 1)<|Ä (J 2)<|Ä (J 3)<|Ä (eN mH<|Ä (e2 gK (J 0)<|eC<|.int 3) Å) Å) Ë)
  (Æ (Ó (tb<|e2 gt (e2 gK (J 0) db)<|eC<|.str "wait") (É<|cl (mG 2)<|Ä (J 2)<|Ä (J 3)<|Ä (eN mH<|Ä (e2 gK (J 0)<|eC<|.int 3) Å)<|Ä (eN mH<|Ä (e2 gK (J 0)<|eC<|.int 4) Å) Å) Ë)
  (É<|cl (la 3)<|Ä (J 2)<|Ä (J 3)<|Ä (eN mH<|Ä (e2 gK (J 0)<|eC<|.int 3) Å)<|Ä (eN mH<|Ä (e2 gK (J 0)<|eC<|.int 4) Å) Å)))))
theorem WK (T:Txt K mg a w):dR P w K mg base fL 4 a.ba a.bb ["words","names"] (iP K a.ct [0,0] 0 oz) :=
 lf (L:=mO [0,0,0,0]) T.aE.fn λ_ _ _ _ _ _ hr nd=>(ze (p4 nd<|qm (k:=0) xv<|jA xv eR)<|ze (p4 nd<|qm (k:=0) xv<|jA xv eR)<|ze (nX (wY hr (jA xv eR)<|zh (n:=0))<|yf<|eZ<|C1 T.c T.s (ve T) hr<|zc xv<|zc xv<|zc (z4 (k:=0) yc yg rfl T.cB xi<|zc (jA xv eR) zj) zj)<|ze (nX (wY hr (jA xv eR)<|zh (n:=0))<|yf<|eZ<|C1 T.d T.t (jo T) hr<|zc xv<|zc xv<|zc (z4 (k:=0) yc yg rfl T.cB xi<|zc (jA xv eR) zj)<|zc (z4 (k:=0) yc yg rfl T.cB xi<|zc (jA xv eR) zj) zj)<|zm<|yf<|eZ<|C1 T.e T.v (vf T) hr<|zc xv<|zc xv<|zc (z4 (k:=0) yc yg rfl T.cB xi<|zc (jA xv eR) zj)<|zc (z4 (k:=0) yc yg rfl T.cB xi<|zc (jA xv eR) zj) zj)
def pU:EF:=(fY (λO=>((Ä (J 2)<|Ä (λO=>((J 2) O).bind λd=>((Ý<|eC<|.int 1) O).bind λl=>(ï O).bind λh=>jT d l h)<|Ä (J 3) Å) O).bind Fz) 3 [] (gT<|Í (gV 0)<|Í (gV 1)<|Í (gV 2) Ò) gY<|cl (lc 1)<|Ä (J 0)<|Ä (J 1)<|Ä (J 2) Å)
def pV:EF:=(fY (Ú<|λO=>((Ú<|J 0) O).bind λY=>Z<|.lst<|every2<|Y.drop 3) 1 [] (gV 0) gY<|eN mH<|Ä (J 0) Å)
def pW:EF:=(fY (Ú<|λO=>((Ú<|J 0) O).bind λY=>Z<|.lst<|every2<|Y.drop 2) 1 [1] (gV 0) gY<|e2 wL (J 1)<|J 0)
def mW:List D->Option D:=Ñ ["words","names","goings","times","rides"]
  (Æ (È 2 pW)
  (Æ (È 3 pV)
  (Æ (È 4 pU)
  (É<|e2 dL (J 4)<|λO=>((Ä (cl (la 3)<|Ä (e2 gK (J 2)<|e1 BJ<|eC<|.int 1)<|Ä (e2 gK (J 2)<|eC<|.int 0)<|Ä (e2 gK (J 3)<|e1 BJ<|eC<|.int 1)<|Ä (eN mH<|Ä (e2 gK (J 0)<|eC<|.int 1) Å) Å) Å) O).bind λY=>Z<|.lst Y))))
theorem Wj (T:Txt K mg a w):dR P w K mg base fL 4 a.bc a.bd ["words","names"] (iP K a.ct [0,0] 1 mW) :=
 lf (L:=mO [0,0,0,0,0]) T.aF.fn λ_ _ _ _ _ _ hr nd=>(ze (Eu (k:=0) (N:=["name","names"]) (om:=mO [0]) (cap:=[1]) (own:=1) nd (yk (n:=0)<|eX<|K4 (n:=0) (i:=2) (by decide) xv eR eR) (λ_ _ _ _ _ h=>(nO h)) (λ_ _ _ _ _=>yh)<|λ_ _ _ _ _=>(XE.ow<|qm (k:=0) xv xv))<|ze (Eu (k:=0) (N:=["word"]) (om:=mO [0]) (cap:=[]) (own:=1) nd (yk (n:=0)<|eX<|K4 (n:=0) (i:=3) (by decide) xv eR eR) (λ_ _ _ _ _ h=>(nO h)) (λ_ _ _ _ _=>yh)<|λ_ _ _ _ _=>(XE.ow<|z4 (k:=0) yc yg rfl T.cB xi<|zc xv zj))<|ze (Eu (k:=0) (N:=["start","goal","time"]) (om:=mO [0,0,0]) (cap:=[]) (own:=3) nd (ZS (n:=0) T.cK<|zc xv<|zc (eX<|y3 (n:=0) (by decide) xv (xw eR) B8)<|zc xv zj) (λ_ _ _ _ _ h=>(Hq (n:=1) rfl<|yr (nO h)<|yr (nO h)<|yr (nO h) ja)) (λ_ _ _ _ _=>yh)<|λ_ _ _ _ _=>(eZ<|C1 T.c T.s (ve T) hr<|zc xv<|zc xv<|zc xv zj))<|zm<|yf<|e8 xv<|eX<|zw (k:=0)<|za (eZ<|C1 T.e T.v (vf T) hr<|zc (jA xv<|Lo (k:=0) eR)<|zc (jA xv eR)<|zc (jA xv<|Lo (k:=0) eR)<|zc (z4 (k:=0) yc yg rfl T.cB xi<|zc (jA xv eR) zj) zj) zl)
def km:List D->Option D:=Ñ ["words","names"]
  (Æ (Ó (tb<|e2 (jQ Ã) (e2 gK (J 0)<|eC<|.int 0)<|eC<|.str "line") (É<|cl mW<|Ä (J 0)<|Ä (J 1) Å) Ë)
  (É<|λO=>((Ä (cl oz<|Ä (J 0)<|Ä (J 1) Å) Å) O).bind λY=>Z<|.lst Y))
theorem uj (T:Txt K mg a w):dR P w K mg base fL 5 a.be a.bf ["words","names"] (iP K a.ct [0,0] 1 km) :=
 lf (L:=mO [0,0]) T.aG.fn λ_ _ _ _ _ _ hr nd=>(ze (nX (wY hr (jA xv eR)<|zh (n:=0))<|yf<|jU T.aF (Wj T) hr<|zc xv<|zc xv zj)<|zm<|yf<|zw (k:=0)<|za (jU T.aE (WK T) hr<|zc xv<|zc xv zj) zl)
def BP:EF:=(fY (Ú<|e1 (eE [4] "arrows")<|J 0) 1 [0] (gV 0) gY<|λO=>((λO=>((J 0) O).bind λo=>((Ä (e1 (eE [4] "names")<|J 1) Å) O).bind λY=>lF 2 "row" tS o (Y++[])) O).or<|(λO=>((J 0) O).bind λo=>((Ä (e1 (eE [4] "names")<|J 1) Å) O).bind λY=>lF 3 "row" tQ o (Y++[])) O)
def A7:List D->Option D:=Ñ ["net"]
  (É<|e2 se (eC<|.str "\n")<|e2 dL (λO=>((Ä (e2 se (eC<|.str " ")<|e2 dL (λO=>((Ä (eC<|.str "goings") Å) O).bind λY=>Z<|.lst Y)<|e1 (eE [4] "names")<|J 0) Å) O).bind λY=>Z<|.lst Y) BP)
theorem zpl (T:Txt K mg a w):dR P w K mg base fL 5 a.bg a.bh ["net"] (iP K a.ct [0] 0 A7) :=
 lf (L:=mO [0]) T.aH.fn λ_ _ _ _ _ _ hr nd=>(zm<|kO<|ju (k:=0) (zh (n:=0))<|eX<|e8 (eX<|zw (k:=0)<|za (XE.ow<|ju (k:=0) (zh (n:=0))<|eX<|e8 (eX<|zw (k:=0)<|za (XE.ow<|zh (n:=0)) zl)<|jF xv T.bN) zl)<|eX<|yV (N:=["arrow","net"]) (om:=mO [0]) (cap:=[0]) (own:=1) (yk (n:=0)<|jF xv T.bJ) (λ_ _ _ _ _ h=>(nO h)) (λ_ _ _ _ _=>yh)<|λ_ _ _ _ _=>(C4 (yx (n:=0) (c0:=2) (ns:=[0]) (nd:=[]) (lY:=[]) xv T.d.cl T.ac.me (X8 T) (hr.mono<|by decide) T.ac.bd .nil (λ_ _=>.nil)<|zc (jF xv T.bN) zj)<|yx (n:=0) (c0:=3) (ns:=[0]) (nd:=[]) (lY:=[]) xv T.e.cl T.ad.me (X9 T) (hr.mono<|by decide) T.ad.bd .nil (λ_ _=>.nil)<|zc (jF xv T.bN) zj))
abbrev eg:=eE [5,6] "net"
def lg:List D->Option D:=Ñ ["self","arrow","link"]
  (Æ (È 2<|e2 gK (e1 gf<|e1 eg<|J 0)<|J 1)
  (É<|e2 wX (e2 wX (e2 dL (e2 gK (e1 (eE [5] "times")<|J 0)<|e1 fg<|J 2)<|e2 ki (e1 (eE [5] "beat")<|J 0)<|e1 en<|J 2)<|e2 gK (e1 (eE [5] "times")<|J 0)<|e1 eV<|J 2)<|e1 (eE [0,1,2,3] "time")<|J 2))
theorem vi (T:Txt K mg a w):dR P w K mg base fL 1 a.bi a.bj ["self","arrow"] (iP K a.ct [1,0] 0 lg) :=
 lf (L:=[.al 1,.ow 0,.ow 0]) T.aI.fn λ_ _ _ _ _ _ hr nd=>(ze (p4 nd<|jA (jF (xK xv T.bO) T.bJ) xv)<|zm<|kO<|BN (BN (eX<|e8 (jA (xK xv T.bT)<|jF xv T.bM)<|t5 (xK xv T.bK)<|jF xv T.bL)<|jA (xK xv T.bT)<|jF xv T.bQ)<|jF xv T.bS)
def qF:n9:=(rK (tb<|e2 BI (λO=>((J 0) O).bind λo=>((Ä (J 4) Å) O).bind λY=>lF 5 "slack" lg o (Y++[]))<|eC<|.int 0) (nv<|λO=>((J 4) O).bind λd=>(pP d).bind λd=>Z<|.exc 11 ["arrow"] [d])<|sY Ë)
def lK:Nat->List D->Option iS:=Av ["self","net","times","beat","number"]
  (jJ (sY<|l6 [5,6] "net" (J 1))
  (jJ (sY<|l6 [5] "times" (eN yF<|Ä (J 2) Å))
  (jJ (sY<|l6 [5] "beat" (J 3))
  (Bf (λO=>((Ä (eN iE<|Ä (e1 (eE [4] "arrows")<|J 1) Å) Å) O).bind o6) (gV 4) qF))))
theorem uk (T:Txt K mg a w):dR P w K mg base (rg P w) 3 a.bk a.bl ["self","net","times","beat"] (vX K a.ct [5] [0,0,0] lK):=by
 have tE:=WI (P:=P) (w:=w) (base:=base) T;have uS:=vi (P:=P) (w:=w) (base:=base) T;refine QU (L:=mO [0,0,0,0]) (rk:=0) T.aJ.fn uv rfl rfl (by decide) (xg<|by decide) λx0 gH A outer s H E hr=>?_;exact(ye (Fs<|ue T.bO<|zt 1 0)
  (ye (Fs<|ue T.bT<|XO.sh (n:=0)<|j8 wc (KR (n:=0)<|by decide) rfl T.cE jr<|zc (zt 2 0) zj)
  (ye (Fs<|ue T.bK<|zt 3 0)
  (yo<|OI (yu (n:=0) T.cG<|zc (oR T.cD<|zc (wj (n:=0) (zt 1 0) T.bJ rfl) zj) zj) (p0 uv.nd) (yo<|Ft (we (k:=0) Lv Lg (XO.sh (n:=0)<|yx (n:=1) (c0:=5) (ns:=[0]) (nd:=[]) (lY:=[]) (zt 0 1) T.g.cl T.aI.me uS (hr.mono<|by decide) T.aI.bd .nil (λ_ _=>.nil)<|zc (zt 4 0) zj) eR<|hV _) (yo<|wr rfl ym<|qo (c0:=11) (fn:="arrow") T.b7 T.b6 T.ar.me.at_ T.ar.me.fn tE (hr.mono<|by decide) T.m T.ar.bd<|zt 4 0)<|xz yq) gE.leaving rfl))))
def ou:Nat->List D->Option D:=AX lK
theorem uz (T:Txt K mg a w):dR P w K mg base fL 3 a.bk a.bl ["self","net","times","beat"] (xG K a.ct [5] [0,0,0] ou):=RR<|uk T
abbrev gl:=eC .non
abbrev ms:=uV Ã
def yH:List D->Option D:=Ñ ["one","other"]
  (Æ (Ó (tb<|e2 ms (J 0) gl) (É<|J 1) Ë)
  (Æ (Ó (tb<|e2 ms (J 1) gl) (É<|J 0) Ë)
  (É<|eN yI<|Ä (J 0)<|Ä (J 1) Å)))
theorem ZC (T:Txt K mg a w):dR P w K mg base fL 1 a.bo a.bp ["one","other"] (iP K a.ct [0,0] 0 yH) :=
 lf (L:=mO [0,0]) T.aL.fn λ_ _ _ _ _ _ hr nd=>(ze (nX (CZ xv qX)<|kO xv)<|ze (nX (CZ xv qX)<|kO xv)<|zm<|kO<|xq (k:=0) (N4 rfl) Om rfl T.cF Hs<|zc xv<|zc xv zj)
def qG:SF:=(uB 1 (λO=>((Ä (J 2)<|Ä (J 3) Å) O).bind λY=>Z<|.tup Y)<|cl yH<|Ä (λO=>((J 1) O).bind λx=>((λO=>((Ä (J 2)<|Ä (J 3) Å) O).bind λY=>Z<|.tup Y) O).bind λy=>(lZ x y).bind λr=>Z<|r.getD .non)<|Ä (J 4) Å)
def nG:List D->Option D:=Ñ ["told","greatest","going","number","amount"]
  (Æ (È 1<|eC<|.dT [] [])
  (Æ (Õ (Ú<|J 0) (gT<|Í (gV 2)<|Í (gV 3)<|Í (gV 4) Ò) qG)
  (É<|J 1)))
theorem Wl (T:Txt K mg a w):dR P w K mg base fL 2 a.bq a.br ["told"] (iP K a.ct [1] 0 nG) :=
 lf (L:=[.al 1,.ow 1,.ow 0,.ow 0,.ow 0]) T.aM.fn λ_ _ _ _ _ _ hr nd=>(ze (jO nd Z4)<|ze (xF (zr0 0) (GM (n:=0) rfl<|yj (p0 nd)<|yj (p0 nd)<|yj (p0 nd) uo)<|zm<|K8 1 rfl (j0 hr) (eX<|zu<|za (XE.ow xv)<|za (XE.ow xv) zl)<|xc T.aL (ZC T) hr<|zc (ϵ (n:=1) (j0 hr) (zt 1 1) (eX<|zu<|za (XE.ow xv)<|za (XE.ow xv) zl) ⟨rfl,rfl,rfl,rfl⟩)<|zc xv zj)<|zm<|La (i:=1) rfl)
def tI:SF:=(Ó (tb<|e2 (ê Â) (J 4)<|J 2) (Æ (È 5<|e2 gK (e1 (eE [4] "arrows")<|e1 (eE [5,6] "net")<|J 0)<|J 4)
  (â 3<|λO=>((Ä (e1 (eE [0,1,2,3] "start")<|J 5)<|Ä (e1 (eE [0,1,2,3] "behind")<|J 5)<|Ä (λO=>((J 0) O).bind λo=>((Ä (J 4) Å) O).bind λY=>lF 5 "slack" lg o (Y++[])) Å) O).bind λY=>Z<|.tup Y)) Ë)
def qN:List D->Option D:=Ñ ["table","going","left_out","links","number","arrow"]
  (Æ (È 3<|λO=>(Å O).bind λY=>Z<|.lst Y)
  (Æ (Õ (Ú<|λO=>((e1 (eE [5,6] "net")<|J 0) O).bind λo=>((Ä (J 1) Å) O).bind λY=>lF 4 "into" tR o (Y++[])) (gV 4) tI)
  (É<|J 3)))
theorem Xc (T:Txt K mg a w):dR P w K mg base fL 2 a.bs a.bt ["table","going","left_out"] (iP K a.ct [0,0,1] 0 qN) :=
 lf (L:=[.ow 0,.ow 0,.al 1,.ow 1,.ow 0,.ow 0]) T.aN.fn λ_ _ _ _ _ _ hr nd=>(ze (jO nd<|zw (k:=0) zl)<|ze (xF (uq<|eX<|yx (n:=0) (c0:=4) (ns:=[0]) (nd:=[]) (lY:=[]) (jF xv T.bO) T.f.cl T.ax.me (Yc T) (hr.mono<|by decide) T.ax.bd .nil (λ_ _=>.nil)<|zc xv zj) (p0 nd)<|zm<|Fy (we (k:=0) wb Hu xv xv<|by with_unfolding_all rfl) (ze (p4 nd<|jA (jF (jF xv T.bO) T.bJ) xv)<|zm<|xu 3 rfl<|eZ<|zu<|za (XE.ow<|jF xv T.bQ)<|za (XE.ow<|jF xv T.bL)<|za (yx (n:=1) (c0:=5) (ns:=[0]) (nd:=[]) (lY:=[]) (XE.up xv (by decide:0<=1)) T.g.cl T.aI.me (vi T) (hr.mono<|by decide) T.aI.bd .nil (λ_ _=>.nil)<|zc xv zj) zl) yq)<|zm<|La (i:=3) rfl)
def mD:SF:=(È 3<|eN yI<|Ä (J 3)<|Ä (e2 wX (e2 gK (e2 gK (J 0)<|e2 wX (e1 BJ dl)<|J 5)<|J 4)<|J 6) Å)
def kL:List D->Option D:=Ñ ["rows","links","put","most","start","behind","slack"]
  (Æ (È 3<|eN yI<|Ä db<|Ä (J 2) Å)
  (Æ (Õ (Ú<|J 1) (gT<|Í (gV 4)<|Í (gV 5)<|Í (gV 6) Ò) mD)
  (É<|J 3)))
theorem v9 (T:Txt K mg a w):dR P w K mg base fL 1 a.bu a.bv ["rows","links","put"] (iP K a.ct [2,0,0] 0 kL) :=
 lf (L:=[.al 2,.ow 0,.ow 0,.ow 0,.ow 0,.ow 0,.ow 0]) T.aO.fn λ_ _ _ _ _ _ hr nd=>(ze (p4 nd<|xq (k:=0) (N4 rfl) Om rfl T.cF Hs<|zc eR<|zc xv zj)<|ze (xF (uq xv) (GM (n:=0) rfl<|yj (p0 nd)<|yj (p0 nd)<|yj (p0 nd) uo)<|zm<|p4 nd<|xq (k:=0) (N4 rfl) Om rfl T.cF Hs<|zc xv<|zc (BN (Dw (Lx (n:=2) Ll Lm (zt 0 2) (BN (Lo (k:=0) eR) xv)<|λ_ _=>rfl) xv) xv) zj)<|zm<|kO xv)
def Co:SF:=(Æ (È 12<|λO=>((J 6) O).bind λx=>((λO=>((Ä (J 11)<|Ä (J 10) Å) O).bind λY=>Z<|.tup Y) O).bind λy=>((eC<|.int 0) O).bind λz=>(lZ x y).bind λr=>Z<|r.getD z)
  (CW 9 (e1 BJ<|eC<|.int 1) (J 11)<|cl kL<|Ä (J 9)<|Ä (e2 gK (J 5)<|J 11)<|Ä (J 12) Å))
def Cp:SF:=(Æ (â 9<|e2 BQ (λO=>((Ä (eC<|.int 0) Å) O).bind λY=>Z<|.lst Y)<|J 4)
  (Õ (Ú<|J 7) (gV 11) Co))
def CQ:EF:=(fY (λO=>((Ä (J 8) Å) O).bind o6) 1 [4] (gV 0) gY<|e2 BQ (λO=>((Ä (eC<|.int 0) Å) O).bind λY=>Z<|.lst Y)<|J 1)
def CS:EF:=(fY (λO=>((Ä (J 4) Å) O).bind o6) 1 [0,3] (gV 0) gY<|cl qN<|Ä (J 1)<|Ä (J 0)<|Ä (ø (tb<|e2 (uV Ã) (J 2)<|eC .non) (λO=>(Å O).bind λY=>Z<|.lst Y)<|J 2) Å)
def CL:List D->Option D:=Ñ ["table","rounds","puts","without","many","links","greatest","order","depth","rows","number","going","put"]
  (Æ (È 4<|eN iE<|Ä (e1 (eE [4] "names")<|e1 (eE [5,6] "net")<|J 0) Å)
  (Æ (È 5 CS)
  (Æ (È 6<|cl nG<|Ä (J 2) Å)
  (Æ (È 7<|λO=>((e1 (eE [5,6] "net")<|J 0) O).bind λo=>lF 4 "order" sg o [])
  (Æ (È 8<|λO=>((e1 (eE [5,6] "net")<|J 0) O).bind λo=>lF 4 "most_behind" ml o [])
  (Æ (È 9 CQ)
  (Æ (Õ (λO=>((Ä (J 1) Å) O).bind o6) (gV 10) Cp)
  (þ 9<|É<|λO=>((J 9) O).bind λd=>((Ý<|J 8) O).bind λl=>(ï O).bind λh=>jT d l h))))))))
theorem ϯ (T:Txt K mg a w):dR P w K mg base fL 3 a.bw a.bx ["table","rounds","puts","without"] (iP K a.ct [0,0,1,1] 0 CL) :=
 lf (L:=[.ow 0,.ow 0,.al 1,.al 1,.ow 0,.ow 0,.ow 0,.ow 0,.ow 0,.ow 2,.ow 0,.ow 0,.ow 0]) T.aP.fn λ_ _ _ _ _ _ hr nd=>(ze (p4 nd<|oR T.cD<|zc (jF (jF xv T.bO) T.bN) zj)<|ze (Eu (k:=0) (N:=["going","table","without"]) (om:=mO [0]) (cap:=[0,3]) (own:=1) nd (XI.cc<|yu (n:=0) T.cG<|zc xv zj) (λ_ _ _ _ _ h=>(nO h)) (λ_ _ _ _ _=>yh)<|λ_ _ _ _ _=>(jU T.aN (Xc T) hr<|zc xv<|zc xv<|zc (GQ (CZ xv qX) (XO.sh (n:=1)<|zw (k:=0) zl) xv) zj))<|ze (jO nd<|jU T.aM (Wl T) hr<|zc xv zj)<|ze (jO nd<|KQ (n:=0) (c0:=4) (nd:=[]) (lY:=[]) (jF xv T.bO) T.f.cl T.ay.me (Xg T) (hr.mono<|by decide) T.ay.bd .nil<|λ_ _=>.nil)<|ze (jO nd<|KQ (n:=0) (c0:=4) (nd:=[]) (lY:=[]) (jF xv T.bO) T.f.cl T.aw.me (qz T) (hr.mono<|by decide) T.aw.bd .nil<|λ_ _=>.nil)<|ze (Eu (k:=2) (N:=["number","many"]) (om:=mO [0]) (cap:=[4]) (own:=1) nd (XI.cc<|yu (n:=0) T.cG<|zc xv zj) (λ_ _ _ _ _ h=>(nO h)) (λ_ _ _ _ _=>yh)<|λ_ _ _ _ _=>(Ln (zw (k:=0)<|za (XE.ow eR) zl) xv))<|ze (xF (yu (n:=0) T.cG<|zc xv zj) (p0 nd)<|ze (xu 9 rfl<|Ln (zw (k:=0)<|za (XE.ow eR) zl) xv)<|zm<|xF (uq xv) (p0 nd)<|ze (p4 nd<|ϴ (n:=0) (j0 hr) (zt 6 0) (eX<|zu<|za (XE.ow xv)<|za (XE.ow xv) zl) eR ⟨rfl,rfl,rfl,rfl⟩)<|zm<|zow 9 rfl (Lo (k:=0) eR) xv (λ_ _=>rfl)<|xc T.aO (v9 T) hr<|zc xv<|zc (jA xv xv)<|zc xv zj)<|Lp (i:=9) rfl<|zm<|yf<|eZ<|y3 (n:=0) (by decide) xv (xw xv) B8)
def tJ:SF:=(Ó (tb<|e2 (uV Â) (e2 gK (J 1)<|e1 (eE [0,1,2,3] "start")<|J 5)<|eC .non) (Æ (È 6<|e2 dL (e2 gK (J 1)<|e1 (eE [0,1,2,3] "start")<|J 5)<|λO=>((J 0) O).bind λo=>((Ä (J 4) Å) O).bind λY=>lF 5 "slack" lg o (Y++[]))
  (Ó (ä (tb<|e2 (uV Ã) (e2 gK (J 1)<|e1 (eE [0,1,2,3] "goal")<|J 5)<|eC .non)<|tb<|e2 BI (J 6)<|e2 gK (J 1)<|e1 (eE [0,1,2,3] "goal")<|J 5) (Æ (yP 1 (e1 (eE [0,1,2,3] "goal")<|J 5)<|J 6)
  (Æ (uB 2 (e1 (eE [0,1,2,3] "goal")<|J 5)<|J 4)
  (È 3<|eC<|.bl Â))) Ë)) Ë)
def qO:List D->Option D:=IQ 1 ["table","prices","chosen","lowered","number","arrow","price"]
  (Ö (È 3<|eC<|.bl Ã)
  (Ö (Õ (λO=>((Ä (e1 (eE [4] "arrows")<|e1 (eE [5,6] "net")<|J 0) Å) O).bind λY=>match Y with|[.lst xs]=>Z (l4 0 xs)|_=>S) (gT<|Í (gV 4)<|Í (gV 5) Ò) tJ)
  (à<|J 3)))
theorem Xd (T:Txt K mg a w):dR P w K mg base fL 2 a.bz a.bA ["table","prices","chosen"] (GX K a.ct 1 qO):=by refine zpf (n:=1) (L:=mO [0,0,0,0]) T.aR.fn xh rfl rfl λxa xb gH A outer s H E hr=>?_;exact(y2 (p4 xh.nd<|xo (n:=0))<|y2 (xF (K6 T.cA<|zc (jF (jF xv T.bO) T.bJ) zj) (GM (n:=1) rfl<|yj (p0 xh.nd)<|yj (p0 xh.nd) uo)<|zm<|Fy (VX (Dw xv<|jF xv T.bQ) qX) (ze (jO xh.nd<|eZ<|e8 (Dw xv<|jF xv T.bQ)<|eX<|yx (n:=1) (c0:=5) (ns:=[0]) (nd:=[]) (lY:=[]) (XE.up xv (by decide:0<=1)) T.g.cl T.aI.me (vi T) (hr.mono<|by decide) T.aI.bd .nil (λ_ _=>.nil)<|zc xv zj)<|zm<|Fy (XW.t<|jt (CZ (Dw xv<|jF xv T.bM) qX)<|ub<|Hl xv<|Dw xv<|jF xv T.bM) (ze (zoz 1 rfl (jF xv T.bM) xv)<|ze (ZQ 2 rfl (j0 hr) (jF xv T.bM) xv)<|zm<|p4 xh.nd<|xo (n:=0)) yq) yq)<|jf xv)
def A8:List D->Option D:=Ñ ["table","one","other","prices","chosen"]
  (Æ (È 3<|e2 BQ (λO=>((Ä (eC .non) Å) O).bind λY=>Z<|.lst Y)<|eN iE<|Ä (e1 (eE [4] "names")<|e1 (eE [5,6] "net")<|J 0) Å)
  (Æ (yP 3 (J 1)<|eC<|.int 0)
  (Æ (È 4<|eC<|.dK [] [])
  (Æ (Bh (EN 3 4 (Ä (J 0) Å) qO) Ë)
  (þ 4 (Æ (Ó (tb<|e2 (uV Ã) (e2 gK (J 3)<|J 2)<|eC .non) (É<|LX<|eC .non) Ë)
  (É<|λO=>(J 3 O).bind λ_=>((Ä (LX<|e2 gK (J 3)<|J 2)<|Ä (cl tY<|Ä (e1 (eE [4] "arrows")<|e1 (eE [5,6] "net")<|J 0)<|Ä (J 4)<|Ä (J 1)<|Ä (J 2) Å)<|Ä (J 3) Å) O).bind λY=>Z<|.tup Y)))))))
theorem zpm (T:Txt K mg a w):dR P w K mg base fL 3 a.bB a.bC ["table","one","other"] (iP K a.ct [0,0,0] 2 A8) :=
 lf (L:=mO [0,0,0,1,1]) T.aS.fn λ_ _ _ _ _ _ hr nd=>(ze (jO nd<|Ln (zw (k:=0)<|za (XE.ow qX) zl)<|oR T.cD<|zc (jF (jF xv T.bO) T.bN) zj)<|ze (Sm 3 rfl xv eR)<|ze (jO nd KP)<|ze (Zl (ϑ (i:=3) (j:=4) (by decide) rfl rfl (Xd T) (hr.mono<|by decide) rfl T.aR.mgx T.aR.fn.kp T.aR.bd .nil (yy uf)<|zpg xv<|ϒ (i:=3) (j:=4)) (zm zrp) gE.never)<|Lp (i:=4) rfl<|ze (nX (CZ (Dw xv xv) qX)<|yf<|Tq qX)<|zm<|ZR (i:=3) rfl<|RK (Tq<|Dw xv xv)<|RK (jU T.au (Yb T) hr<|zc (jF (jF xv T.bO) T.bJ)<|zc xv<|zc xv<|zc xv zj)<|ϧ (i:=3))
def sr:List D->Option D:=Ñ ["time"]
  (É<|ø (tb<|e2 ms (J 0) gl) (eC<|.str "-")<|eN AG<|Ä (J 0) Å)
theorem Xh (T:Txt K mg a w):dR P w K mg base fL 1 a.bD a.bE ["time"] (iP K a.ct [0] 0 sr) :=
 lf (L:=mO [0]) T.aT.fn λ_ _ _ _ _ _ hr nd=>(zm<|kO<|GQ (CZ xv qX) (zh (n:=0))<|z4 (k:=0) wa JG rfl T.cJ Fp<|zc xv zj)
def AC:EF:=(fY (Ú<|J 0) 1 [] im gY<|eN iE<|Ä (J 0) Å)
def tZ:List D->Option D:=Ñ ["words"]
  (É<|eN D4<|Ä AC Å)
theorem Re (T:Txt K mg a w):dR P w K mg base fL 1 a.bF a.bG ["words"] (iP K a.ct [0] 0 tZ) :=
 lf (L:=mO [0]) T.aU.fn λ_ _ _ _ _ _ hr nd=>(zm<|kO<|xq (k:=0) (N3 rfl) OG rfl T.cF Hs<|zc (eX<|yV (N:=["word"]) (om:=mO [0]) (cap:=[]) (own:=1) (yk (n:=0) xv) (λ_ _ _ _ _ h=>(nO h)) (λ_ _ _ _ _=>yh)<|λ_ _ _ _ _=>(XE.ow<|oR T.cD<|zc xv zj)) zj)
def qS:EF:=(fY (Ú<|J 2) 1 [3] im gY<|e2 (BO Txt.zfill) (J 0)<|J 1)
def qT:EF:=(fY (λO=>((Ä (J 1) Å) O).bind o6) 1 [0] (gV 0) gY<|eN AG<|Ä (e2 dL (J 1)<|J 0) Å)
def nI:List D->Option D:=Ñ ["first","many","words","width"]
  (Æ (È 2 qT)
  (Æ (È 3<|cl tZ<|Ä (e2 dL (λO=>((Ä (eC<|.str "round") Å) O).bind λY=>Z<|.lst Y)<|J 2) Å)
  (É<|e2 dL (λO=>((Ä (e2 (BO Txt.ljust) (eC<|.str "round")<|J 3) Å) O).bind λY=>Z<|.lst Y) qS)))
theorem Wm (T:Txt K mg a w):dR P w K mg base fL 2 a.bH a.bI ["first","many"] (iP K a.ct [0,0] 0 nI) :=
 lf (L:=mO [0,0,0,0]) T.aV.fn λ_ _ _ _ _ _ hr nd=>(ze (Eu (k:=0) (N:=["count","first"]) (om:=mO [0]) (cap:=[0]) (own:=1) nd (XI.cc<|yu (n:=0) T.cG<|zc xv zj) (λ_ _ _ _ _ h=>(nO h)) (λ_ _ _ _ _=>yh)<|λ_ _ _ _ _=>(XE.ow<|z4 (k:=0) wa JG rfl T.cJ Fp<|zc (eX<|e8 xv xv) zj))<|ze (jO nd<|jU T.aU (Re T) hr<|zc (eX<|e8 (eX<|zw (k:=0)<|za (XE.ow<|zh (n:=0)) zl) xv) zj)<|zm<|yf<|eZ<|e8 (eX<|zw (k:=0)<|za (XE.ow<|ZU (k:=0) (zh (n:=0)) xv) zl)<|eX<|yV (N:=["word","width"]) (om:=mO [0]) (cap:=[3]) (own:=1) (yk (n:=0) xv) (λ_ _ _ _ _ h=>(nO h)) (λ_ _ _ _ _=>yh)<|λ_ _ _ _ _=>(XE.ow<|ZY (k:=0) xv xv))
def sV:EF:=(fY (Ú<|J 2) 1 [3] im gY<|e2 (BO Txt.rjust) (J 0)<|J 1)
def sW:EF:=(fY (Ú<|J 1) 1 [] im gY<|cl sr<|Ä (J 0) Å)
def pE:List D->Option D:=Ñ ["name","times","words","width"]
  (Æ (È 2<|e2 dL (λO=>((Ä (J 0) Å) O).bind λY=>Z<|.lst Y) sW)
  (Æ (È 3<|cl tZ<|Ä (J 2) Å)
  (É sV)))
theorem Wv (T:Txt K mg a w):dR P w K mg base fL 2 a.bJ a.bK ["name","times"] (iP K a.ct [0,0] 0 pE) :=
 lf (L:=mO [0,0,0,0]) T.aW.fn λ_ _ _ _ _ _ hr nd=>(ze (jO nd<|eZ<|e8 (eX<|zw (k:=0)<|za (XE.ow xv) zl)<|eX<|yV (N:=["time"]) (om:=mO [0]) (cap:=[]) (own:=1) (yk (n:=0) xv) (λ_ _ _ _ _ h=>(nO h)) (λ_ _ _ _ _=>yh)<|λ_ _ _ _ _=>(jU T.aT (Xh T) hr<|zc xv zj))<|ze (jO nd<|jU T.aU (Re T) hr<|zc xv zj)<|zm<|yf<|eZ<|yV (N:=["word","width"]) (om:=mO [0]) (cap:=[3]) (own:=1) (yk (n:=0) xv) (λ_ _ _ _ _ h=>(nO h)) (λ_ _ _ _ _=>yh)<|λ_ _ _ _ _=>(XE.ow<|ZW (k:=0) xv xv))
def sU:EF:=(fY (Ú<|J 0) 1 [1] im gY<|e2 gK (J 0)<|J 1)
def pC:List D->Option D:=Ñ ["columns","place"]
  (É<|e2 se (eC<|.str " ") sU)
theorem Ww (T:Txt K mg a w):dR P w K mg base fL 1 a.bL a.bM ["columns","place"] (iP K a.ct [0,0] 0 pC) :=
 lf (L:=mO [0,0]) T.aX.fn λ_ _ _ _ _ _ hr nd=>(zm<|kO<|ju (k:=0) (zh (n:=0))<|eX<|yV (N:=["column","place"]) (om:=mO [0]) (cap:=[1]) (own:=1) (yk (n:=0) xv) (λ_ _ _ _ _ h=>(nO h)) (λ_ _ _ _ _=>yh)<|λ_ _ _ _ _=>(XE.ow<|jA xv xv))
def yM:EF:=(fY (λO=>((Ä (e2 dL (eN iE<|Ä (J 1) Å)<|eC<|.int 1) Å) O).bind o6) 1 [3] (gV 0) gY<|cl pC<|Ä (J 1)<|Ä (J 0) Å)
def yN:EF:=(fY (Ú<|J 1) 1 [4] im gY<|e2 gK (J 0)<|J 1)
def xW:SF:=(â 3<|cl pE<|Ä (J 5)<|Ä yN Å)
def vL:List D->Option D:=Ñ ["names","rows","first","columns","going","name"]
  (Æ (È 3<|λO=>((Ä (cl nI<|Ä (J 2)<|Ä (eN iE<|Ä (J 1) Å) Å) Å) O).bind λY=>Z<|.lst Y)
  (Æ (Õ (λO=>((Ä (J 0) Å) O).bind λY=>match Y with|[.lst xs]=>Z (l4 0 xs)|_=>S) (gT<|Í (gV 4)<|Í (gV 5) Ò) xW)
  (þ 3<|É<|e2 se (eC<|.str "\n") yM)))
theorem YK (T:Txt K mg a w):dR P w K mg base fL 3 a.bN a.bO ["names","rows","first"] (iP K a.ct [0,0,0] 0 vL) :=
 lf (L:=mO [0,0,0,1,0,0]) T.aY.fn λ_ _ _ _ _ _ hr nd=>(ze (jO nd<|zw (k:=0)<|za (jU T.aV (Wm T) hr<|zc xv<|zc (oR T.cD<|zc xv zj) zj) zl)<|ze (xF (K6 T.cA<|zc xv zj) (GM (n:=1) rfl<|yj (p0 nd)<|yj (p0 nd) uo)<|zm<|xu 3 rfl<|jU T.aW (Wv T) hr<|zc xv<|zc (eX<|yV (N:=["row","going"]) (om:=mO [0]) (cap:=[4]) (own:=1) (yk (n:=0) xv) (λ_ _ _ _ _ h=>(nO h)) (λ_ _ _ _ _=>yh)<|λ_ _ _ _ _=>(XE.ow<|jA xv xv)) zj)<|Lp (i:=3) rfl<|zm<|kO<|ju (k:=0) (zh (n:=0))<|eX<|yV (N:=["place","columns"]) (om:=mO [0]) (cap:=[3]) (own:=1) (XI.cc<|yu (n:=0) T.cG<|zc (eX<|e8 (oR T.cD<|zc xv zj) eR) zj) (λ_ _ _ _ _ h=>(nO h)) (λ_ _ _ _ _=>yh)<|λ_ _ _ _ _=>(jU T.aX (Ww T) hr<|zc xv<|zc xv zj))
def nu:List D->Option D:=Ñ ["word","slot"]
  (Æ (Ó (tb<|e2 ms (J 1) gl) io Ë)
  (É<|eB<|Ù (tb<|cl lC<|Ä (J 0) Å)<|Ù (tb<|e2 BH (e2 gK (J 1) db)<|eN mH<|Ä (J 0) Å)<|tb<|e2 BH (eN mH<|Ä (J 0) Å)<|e2 gK (J 1) dl))
theorem Xe (T:Txt K mg a w):dR P w K mg base fL 3 a.bP a.bQ ["word","slot"] (iP K a.ct [0,0] 0 nu) :=
 lf (L:=mO [0,0]) T.aZ.fn λ_ _ _ _ _ _ hr nd=>(ze (nX (CZ xv qX)<|kO<|xo (n:=0))<|zm<|kO<|um (xc T.az (ux T) hr<|zc xv zj)<|um (Et (jA xv eR)<|z4 (k:=0) yc yg rfl T.cB xi<|zc xv zj)<|uc (k:=0)<|Et (z4 (k:=0) yc yg rfl T.cB xi<|zc xv zj)<|jA xv eR)
def wR:EF:=(fY (λO=>((Ä (λO=>((J 0) O).bind λd=>((Ý<|eC<|.int 1) O).bind λl=>(ï O).bind λh=>jT d l h)<|Ä (J 1) Å) O).bind GS) 2 [] (gT<|Í (gV 0)<|Í (gV 1) Ò) gY<|cl nu<|Ä (J 0)<|Ä (J 1) Å)
def tU:List D->Option D:=Ñ ["words","form"]
  (Æ (È 1<|e1 (M9 uw)<|e2 gK (J 0) db)
  (Æ (Ó (tb<|e2 ln (eN iE<|Ä (J 0) Å)<|e2 dL (eN iE<|Ä (J 1) Å) dl) ds Ë)
  (É<|eN wB<|Ä wR Å)))
theorem Yd (T:Txt K mg a w):dR P w K mg base fL 4 a.bR a.bS ["words"] (iP K a.ct [0] 0 tU) :=
 lf (L:=mO [0,0]) T.a0.fn λ_ _ _ _ _ _ hr nd=>(ze (p4 nd<|Tx (k:=0) T.bz<|jA xv eR)<|ze (nX (GB hr (oR T.cD<|zc xv zj)<|eX<|e8 (oR T.cD<|zc xv zj) eR)<|kO<|xo (n:=0))<|zm<|kO<|xq (k:=0) (ql rfl) K7 rfl T.cy Le<|zc (eX<|yV (N:=["word","slot"]) (om:=mO [0,0]) (cap:=[]) (own:=2) (S7 T.cK<|zc (eX<|y3 (n:=0) (by decide) xv (xw eR) B8)<|zc xv zj) (λ_ _ _ _ _ h=>(Hq (n:=1) rfl<|yr (nO h)<|yr (nO h) ja)) (λ_ _ _ _ _=>yh)<|λ_ _ _ _ _=>(jU T.aZ (Xe T) hr<|zc xv<|zc xv zj)) zj)
def qR:EF:=(fY (Ú<|λO=>((J 0) O).bind λd=>((Ý<|eC<|.int 1) O).bind λl=>(ï O).bind λh=>jT d l h) 1 [] (gV 0) gY<|eN mH<|Ä (J 0) Å)
def nH:List D->Option D:=Ñ ["words","many"]
  (Æ (Ó (ä (tb<|e2 (jQ Â) (eN iE<|Ä (J 0) Å)<|e2 dL (J 1)<|eC<|.int 2)<|Ô<|tb<|cl lh<|Ä (λO=>((J 0) O).bind λd=>((Ý<|eC<|.int 1) O).bind λl=>(ï O).bind λh=>jT d l h) Å) (É<|eC<|.bl Ã) Ë)
  (É<|e2 BH (eN D4<|Ä qR Å)<|eC<|.int 1000000000000))
theorem Wn (T:Txt K mg a w):dR P w K mg base fL 4 a.bT a.bU ["words","many"] (iP K a.ct [0,0] 0 nH) :=
 lf (L:=mO [0,0]) T.a1.fn λ_ _ _ _ _ _ hr nd=>(ze (nX (XW.t<|jt (GB hr (oR T.cD<|zc xv zj)<|eX<|e8 xv eR)<|ub<|wg<|y0<|xc T.aA (vh T) hr<|zc (eX<|y3 (n:=0) (by decide) xv (xw eR) B8) zj)<|kO<|xo (n:=0))<|zm<|kO<|Et (xq (k:=0) (N3 rfl) OG rfl T.cF Hs<|zc (eX<|yV (N:=["word"]) (om:=mO [0]) (cap:=[]) (own:=1) (yk (n:=0)<|eX<|y3 (n:=0) (by decide) xv (xw eR) B8) (λ_ _ _ _ _ h=>(nO h)) (λ_ _ _ _ _=>yh)<|λ_ _ _ _ _=>(XE.ow<|z4 (k:=0) yc yg rfl T.cB xi<|zc xv zj)) zj)<|Hn T.cP)
def gB:List D->Option D:=Ñ ["desk","words"]
  (Æ (Ó (tb<|e2 gt (e2 gK (J 1) db)<|eC<|.str "goings") io Ë)
  (Æ (Ó (ä (tb<|e2 ms (e1 eg<|J 0) gl)<|Ù (tb<|e2 (ê Ã) (e2 gK (J 1) db)<|eC wf)<|tb<|e2 ms (e1 (eE [6] "table")<|J 0) gl) ds Ë)
  (Æ (Ó (tb<|e2 gt (e2 gK (J 1) db)<|eC<|.str "plan") (É<|cl nH<|Ä (J 1)<|Ä (eN iE<|Ä (e1 ge<|e1 eg<|J 0) Å) Å) Ë)
  (Æ (Ó (tb<|e1 (CI Â uw)<|e2 gK (J 1) db) (É<|cl mX<|Ä (J 1) Å) Ë)
  (Æ (Ó (Ô<|tb<|cl tU<|Ä (J 1) Å) ds Ë)
  (É<|eB<|ä (tb<|e2 (ê Â) (e2 gK (J 1) db)<|eC vt)<|tb<|e2 BI (eN mH<|Ä (e2 gK (J 1) dl) Å)<|eN iE<|Ä (e1 gf<|e1 eg<|J 0) Å))))))
theorem Rf (T:Txt K mg a w):dR P w K mg base fL 5 a.bV a.bW ["desk","words"] (iP K a.ct [1,0] 0 gB) :=
 lf (L:=[.al 1,.ow 0]) T.a2.fn λ_ _ _ _ _ _ hr nd=>(ze (nX (wY hr (jA xv eR)<|zh (n:=0))<|kO<|xo (n:=0))<|ze (nX (XW.t<|jt (CZ (xK xv T.bO) qX)<|ub<|XW.t<|OO (we (k:=0) YW Hu (jA xv eR) (Tw (n:=0) T.bx)<|by with_unfolding_all rfl)<|OD<|CZ (xK xv T.bR) qX)<|kO<|xo (n:=0))<|ze (nX (wY hr (jA xv eR)<|zh (n:=0))<|yf<|jU T.a1 (Wn T) hr<|zc xv<|zc (oR T.cD<|zc (jF (xK xv T.bO) T.bN) zj) zj)<|ze (nX (YA T.bz<|jA xv eR)<|yf<|jU T.aB (Wi T) hr<|zc xv zj)<|ze (nX (wg<|y0<|xc T.a0 (Yd T) hr<|zc xv zj)<|kO<|xo (n:=0))<|zm<|kO<|O5 (Ht (k:=0) wb Hu (jA xv eR) (Tw (n:=0) T.bw)<|by with_unfolding_all rfl)<|uc (k:=0)<|V5 (z4 (k:=0) yc yg rfl T.cB xi<|zc (jA xv eR) zj)<|oR T.cD<|zc (jF (xK xv T.bO) T.bJ) zj)
def t8:EF:=(fY (λO=>((Ä (λO=>((J 0) O).bind λd=>((Ý<|eC<|.int 1) O).bind λl=>(ï O).bind λh=>jT d l h)<|Ä (e1 (M9 uw)<|e2 gK (J 0)<|eC<|.int 0) Å) O).bind GS) 2 [] (gT<|Í (gV 0)<|Í (gV 1) Ò) (tb<|e2 (uV Ã) (J 1)<|eC .non)<|J 0)
def ip:List D->Option D:=Ñ ["words"]
  (Æ (Ó (tb<|e1 (CI Ã uw)<|e2 gK (J 0)<|eC<|.int 0) (É t8) Ë)
  (É<|ø (tb<|e2 (jQ Ã) (e2 gK (J 0)<|eC<|.int 0)<|eC<|.str "plan") (λO=>(Å O).bind λY=>Z<|.lst Y)<|cl oA<|Ä (J 0) Å))
theorem Qy (T:Txt K mg a w):dR P w K mg base fL 2 a.bX a.bY ["words"] (iP K a.ct [0] 0 ip) :=
 lf (L:=mO [0]) T.a3.fn λ_ _ _ _ _ _ hr nd=>(ze (nX (Ϡ T.bz<|jA xv eR)<|yf<|eZ<|yV (N:=["word","slot"]) (om:=mO [0,0]) (cap:=[]) (own:=2) (S7 T.cK<|zc (eX<|y3 (n:=0) (by decide) xv (xw eR) B8)<|zc (Tx (k:=0) T.bz<|jA xv eR) zj) (λ_ _ _ _ _ h=>(Hq (n:=1) rfl<|yr (nO h)<|yr (nO h) ja)) (λ_ _ _ _ _=>(Ho<|CZ xv qX))<|λ_ _ _ _ _=>(XE.ow xv))<|zm<|kO<|GQ (wY hr (jA xv eR)<|zh (n:=0)) (eX<|zw (k:=0) zl)<|xc T.aC (WJ T) hr<|zc xv zj)
def kK:List D->Option D:=Ñ ["desk","name"]
  (É<|e2 wL (e1 ge<|e1 eg<|J 0)<|J 1)
theorem wv (T:Txt K mg a w):dR P w K mg base fL 1 a.b1 a.b2 ["desk","name"] (iP K a.ct [1,0] 0 kK) :=
 lf (L:=[.al 1,.ow 0]) T.a5.fn λ_ _ _ _ _ _ hr nd=>(zm<|kO<|qm (k:=0) (jF (xK xv T.bO) T.bN) xv)
def pD:List D->Option D:=á 0 ["desk","words"]
  (Ö (sx 0 [5,6] "net" (cl (lQ 4)<|Ä (λO=>((J 1) O).bind λd=>((Ý<|eC<|.int 1) O).bind λl=>(ï O).bind λh=>jT d l h)<|Ä (λO=>(Å O).bind λY=>Z<|.lst Y) Å))
  (Ö (sx 0 [6] "table" (eC .non))
  (Ö (Ff 0 [6]<|λO=>(Å O).bind λY=>Z<|.lst Y)
  (à<|eC<|.str "ok"))))
theorem Wx (T:Txt K mg a w):dR P w K mg base fL 6 a.b3 a.b4 ["desk","words"] (uN K a.ct 0 1 pD):=by refine xk (n:=0) (m:=1) (L:=[]) T.a6.fn jk rfl rfl λxa gH A outer s H E hr=>?_;exact(y2 (JI (i:=0) (rF rfl) T.bO<|eX<|C1 T.f T.av (wo T) hr<|zc (eX<|y3 (n:=0) (by decide) xv (xw eR) B8)<|zc (eX<|zw (k:=0) zl) zj)<|y2 (JI (i:=0) (rF rfl) T.bR qX)<|y2 (ϗ (i:=0) (rF rfl) T.bP<|zw (k:=0) zl)<|jf<|zh (n:=0))
def mI:List D->Option D:=á 0 ["desk","arrows"]
  (Ö (sx 0 [5,6] "net" (cl (lQ 4)<|Ä (e1 ge<|e1 eg<|J 0)<|Ä (J 1) Å))
  (Ö (sx 0 [6] "table" gl)
  (à<|eC<|.str "ok")))
theorem vk (T:Txt K mg a w):dR P w K mg base fL 6 a.b5 a.b6 ["desk","arrows"] (uN K a.ct 0 1 mI):=by refine xk (n:=0) (m:=1) (L:=[]) T.a7.fn jl rfl rfl λxa gH A outer s H E hr=>?_;exact(y2 (JI (i:=0) (rF rfl) T.bO<|eX<|C1 T.f T.av (wo T) hr<|zc (jF (xK xv T.bO) T.bN)<|zc xv zj)<|y2 (JI (i:=0) (rF rfl) T.bR qX)<|jf<|zh (n:=0))
def mJ:List D->Option D:=á 0 ["desk","words"]
  (rX 0 (Ä (e2 dL (e1 gf<|e1 eg<|J 0)<|cl km<|Ä (J 1)<|Ä (e1 ge<|e1 eg<|J 0) Å) Å) mI)
theorem jp (T:Txt K mg a w):dR P w K mg base fL 7 a.b7 a.b8 ["desk","words"] (uN K a.ct 0 1 mJ):=by refine xk (n:=0) (m:=1) (L:=[]) T.a8.fn jm rfl rfl λxa gH A outer s H E hr=>?_;exact(Ϝ<|Oh (i:=0) (rF rfl) T.a7 (vk T) hr (yy uf)<|yn (eX<|e8 (jF (xK xv T.bO) T.bJ)<|xc T.aG (uj T) hr<|zc xv<|zc (jF (xK xv T.bO) T.bN) zj) wt)
def uX:EF:=(fY (Ú<|λO=>((J 1) O).bind λd=>((Ý<|eC<|.int 2) O).bind λl=>(ï O).bind λh=>jT d l h) 1 [] (gV 0) gY<|eN mH<|Ä (J 0) Å)
def sk:List D->Option D:=á 0 ["desk","words"]
  (Ö (sx 0 [6] "table" (cl (ou 5)<|Ä (e1 eg<|J 0)<|Ä uX<|Ä (eN mH<|Ä (e2 gK (J 1) dl) Å) Å))
  (à<|eC<|.str "ok"))
theorem Xi (T:Txt K mg a w):dR P w K mg base fL 5 a.b9 a.ca ["desk","words"] (uN K a.ct 0 1 sk):=by refine xk (n:=0) (m:=1) (L:=[]) T.a9.fn Qt rfl rfl λxa gH A outer s H E hr=>?_;exact(y2 (JI (i:=0) (rF rfl) T.bR<|eX<|C1 T.g T.aJ (uz T) hr<|zc (xK xv T.bO)<|zc (eX<|Tr (N:=["word"]) (om:=mO [0]) (cap:=[]) (own:=1) (qL:=λ_ h=>nomatch h) (yk (n:=0)<|eX<|y3 (n:=0) (by decide) xv (xw eR) B8) (λ_ _ _ _ _=>(nO<|show ma (["word"]:List Str)from by decide +kernel)) (λ_ _ _ _ _=>yh)<|λ_ _ _ _ _=>(XE.ow<|z4 (k:=0) yc yg rfl T.cB xi<|zc xv zj))<|zc (z4 (k:=0) yc yg rfl T.cB xi<|zc (jA xv eR) zj) zj)<|jf<|zh (n:=0))
def tX:List D->Option D:=á 0 ["desk","words"]
  (Ö (Be 0 [6]<|λO=>((Ä (cl kK<|Ä (J 0)<|Ä (e2 gK (J 1)<|eC<|.int 1) Å)<|Ä (eN mH<|Ä (e2 gK (J 1)<|eC<|.int 2) Å)<|Ä (eN mH<|Ä (e2 gK (J 1)<|eC<|.int 3) Å) Å) O).bind λY=>Z<|.tup Y)
  (à<|eC<|.str "ok"))
theorem Ye (T:Txt K mg a w):dR P w K mg base fL 2 a.cb a.cc ["desk","words"] (uN K a.ct 0 1 tX):=by refine xk (n:=0) (m:=1) (L:=[]) T.ba.fn X5 rfl rfl λxa gH A outer s H E hr=>?_;exact(y2 (ϖ (i:=0) (rF rfl) T.bP<|eX<|zu<|za (jU T.a5 (wv T) hr<|zc xv<|zc (jA xv eR) zj)<|za (XE.ow<|z4 (k:=0) yc yg rfl T.cB xi<|zc (jA xv eR) zj)<|za (XE.ow<|z4 (k:=0) yc yg rfl T.cB xi<|zc (jA xv eR) zj) zl)<|jf<|zh (n:=0))
def tT:List D->Option D:=á 0 ["desk","words"]
  (à<|cl A7<|Ä (e1 eg<|J 0) Å)
theorem Yf (T:Txt K mg a w):dR P w K mg base fL 6 a.cd a.ce ["desk","words"] (uN K a.ct 0 1 tT):=by refine xk (n:=0) (m:=1) (L:=[]) T.bb.fn X6 rfl rfl λxa gH A outer s H E hr=>?_;exact(jf<|xc T.aH (zpl T) hr<|zc (xK xv T.bO) zj)
def pS:List D->Option D:=á 0 ["desk","words"]
  (à<|cl vL<|Ä (e1 (eE [4] "names")<|e1 (eE [5,6] "net")<|J 0)<|Ä (λO=>((Ä (e1 (eE [6] "table")<|J 0)<|Ä (eN mH<|Ä (e2 gK (J 1)<|eC<|.int 1) Å)<|Ä (e1 (FJ [6])<|J 0) Å) O).bind λY=>CL<|Y++[.non])<|Ä (eC<|.int 0) Å)
theorem Yg (T:Txt K mg a w):dR P w K mg base fL 4 a.cf a.cg ["desk","words"] (uN K a.ct 0 1 pS):=by refine xk (n:=0) (m:=1) (L:=[]) T.bc.fn X7 rfl rfl λxa gH A outer s H E hr=>?_;exact(jf<|xc T.aY (YK T) hr<|zc (jF (xK xv T.bO) T.bN)<|zc (eX<|R7 (lY:=[.non]) (ns:=[0,0,1]) (nd:=[1]) (ϯ T) (hr.mono<|by decide) rfl T.aP.mgx T.aP.fn.kp T.aQ.choose_spec.2.2 T.aQ.choose_spec.2.1 (λ_ _=>(.cons (Al.of .non) .nil))<|zc (xK xv T.bR)<|zc (z4 (k:=0) yc yg rfl T.cB xi<|zc (jA xv eR) zj)<|zc (ϕ (i:=0) (rF rfl) T.bP) zj)<|zc eR zj)
def sj:List D->Option D:=á 0 ["desk","words","told"]
  (Ö (È 2<|cl A8<|Ä (e1 (eE [6] "table")<|J 0)<|Ä (cl kK<|Ä (J 0)<|Ä (e2 gK (J 1) dl) Å)<|Ä (cl kK<|Ä (J 0)<|Ä (e2 gK (J 1)<|eC<|.int 2) Å) Å)
  (à<|ø (tb<|e2 ms (J 2) gl) (eC<|.str "none")<|eN AG<|Ä (e2 gK (J 2) db) Å))
theorem Xj (T:Txt K mg a w):dR P w K mg base fL 4 a.ch a.ci ["desk","words"] (uN K a.ct 0 1 sj):=by refine xk (n:=0) (m:=1) (L:=mO [0]) T.bd.fn Qu rfl rfl λxa gH A outer s H E hr=>?_;exact(y2 (jO Qu.nd<|eZ<|jU T.aS (zpm T) hr<|zc (xK xv T.bR)<|zc (xc T.a5 (wv T) hr<|zc xv<|zc (jA xv eR) zj)<|zc (xc T.a5 (wv T) hr<|zc xv<|zc (jA xv eR) zj) zj)<|jf<|GQ (CZ xv qX) (zh (n:=0))<|z4 (k:=0) wa JG rfl T.cJ Fp<|zc (jA xv eR) zj)
def su:List D->Option D:=Ñ ["arrow","time"]
  (Æ (Ó (tb<|e1 (BG [0,1,2,3,4,5,6] [1])<|J 0) (É<|cl (lc 1)<|Ä (e1 eV<|J 0)<|Ä (e1 fg<|J 0)<|Ä (J 1) Å) Ë)
  (Æ (Ó (tb<|e1 (BG [0,1,2,3,4,5,6] [2])<|J 0) (É<|cl (mG 2)<|Ä (e1 eV<|J 0)<|Ä (e1 fg<|J 0)<|Ä (J 1)<|Ä (e1 en<|J 0) Å) Ë)
  (É<|cl (la 3)<|Ä (e1 eV<|J 0)<|Ä (e1 fg<|J 0)<|Ä (J 1)<|Ä (e1 en<|J 0) Å)))
theorem Xk (T:Txt K mg a w):dR P w K mg base fL 4 a.cj a.ck ["arrow","time"] (iP K a.ct [0,0] 0 su) :=
 lf (L:=mO [0,0]) T.be.fn λ_ _ _ _ _ _ hr nd=>(ze (nX (y0<|K9 (k:=0) T.bV T.cC T.c.mgx xv)<|yf<|eZ<|C1 T.c T.s (ve T) hr<|zc (jF xv T.bQ)<|zc (jF xv T.bM)<|zc xv zj)<|ze (nX (y0<|K9 (k:=0) T.bW T.cC T.d.mgx xv)<|yf<|eZ<|C1 T.d T.t (jo T) hr<|zc (jF xv T.bQ)<|zc (jF xv T.bM)<|zc xv<|zc (jF xv T.bL) zj)<|zm<|yf<|eZ<|C1 T.e T.v (vf T) hr<|zc (jF xv T.bQ)<|zc (jF xv T.bM)<|zc xv<|zc (jF xv T.bL) zj)
def oC:List D->Option iS:=uW ["desk","words"]
  (jJ (rL<|λO=>((Ä (λO=>((J 1) O).bind λd=>((Ý<|eC<|.int 1) O).bind λl=>(ï O).bind λh=>jT d l h)<|Ä (λO=>(Å O).bind λY=>Z<|.lst Y) Å) O).bind λY=>iz 4<|Y++[])
  (sY Ø))
theorem WL (T:Txt K mg a w):dR P w K mg base (rg P w) 6 a.b3 a.b4 ["desk","words"] (nS K a.ct [1,0] 0 oC):=by
 have mz:=vg (P:=P) (w:=w) (base:=base) T;have vU:=wo (P:=P) (w:=w) (base:=base) T;refine tP (L:=[.al 1,.ow 0]) T.a6.fn jk rfl rfl (by decide) (xg<|by decide) λ_ _ _ _ _ _ hr=>?_;exact(ye (Oj (i:=0)<|Ou (c0:=4) (lY:=[]) (ns:=[0,0]) (nd:=[]) ym ⟨T.f.mks,T.av.me.at_,T.av.me.fn,T.f.kp⟩ (by decide) mz (hr.mono<|by decide) rfl T.f.mgx T.av.bd .nil (λ_ _=>.nil)<|zc (XO.sh (n:=0)<|y3 (n:=0) (by decide) (zt 1 0) (xw eR) B8)<|zc (XO.sh (n:=0)<|zw (k:=0) zl) zj)
  (xz qd))
def l5:List D->Option iS:=uW ["desk","arrows"]
  (jJ (rL<|λO=>((Ä (e1 (eE [4] "names")<|e1 (eE [5,6] "net")<|J 0)<|Ä (J 1) Å) O).bind λY=>iz 4<|Y++[])
  (sY Ø))
theorem u0 (T:Txt K mg a w):dR P w K mg base (rg P w) 6 a.b5 a.b6 ["desk","arrows"] (nS K a.ct [1,0] 0 l5):=by
 have mz:=vg (P:=P) (w:=w) (base:=base) T;have vU:=wo (P:=P) (w:=w) (base:=base) T;refine tP (L:=[.al 1,.ow 0]) T.a7.fn jl rfl rfl (by decide) (xg<|by decide) λ_ _ _ _ _ _ hr=>?_;exact(ye (Oj (i:=0)<|Ou (c0:=4) (lY:=[]) (ns:=[0,0]) (nd:=[]) ym ⟨T.f.mks,T.av.me.at_,T.av.me.fn,T.f.kp⟩ (by decide) mz (hr.mono<|by decide) rfl T.f.mgx T.av.bd .nil (λ_ _=>.nil)<|zc (wj (n:=0) (wj (n:=1) (zt 0 1) T.bO rfl) T.bN rfl)<|zc (zt 1 0) zj)
  (xz qd))
def iH:List D->Option iS:=uW ["desk","words"]
  (yQ<|λO=>((Ä (J 0)<|Ä (e2 dL (e1 (eE [4] "arrows")<|e1 (eE [5,6] "net")<|J 0)<|cl km<|Ä (J 1)<|Ä (e1 (eE [4] "names")<|e1 (eE [5,6] "net")<|J 0) Å) Å) O).bind λY=>l5<|Y++[])
theorem WM (T:Txt K mg a w):dR P w K mg base (rg P w) 7 a.b7 a.b8 ["desk","words"] (nS K a.ct [1,0] 0 iH):=by have lW:=u0 (P:=P) (w:=w) (base:=base) T;have uT:=vk (P:=P) (w:=w) (base:=base) T;have sI:=uj (P:=P) (w:=w) (base:=base) T;refine tP (L:=[.al 1,.ow 0]) T.a8.fn jm rfl rfl (by decide) (xg<|by decide) λ_ _ _ _ _ _ hr=>?_;exact(yo<|SD<|Ot (lY:=[]) (ns:=[1,0]) (nd:=[]) ym lW (hr.mono<|by decide) rfl T.a7.mgx T.a7.fn.kp T.a7.bd .nil (λ_ _=>.nil)<|zc (zt 0 1)<|zc (XO.sh (n:=0)<|e8 (wj (n:=0) (wj (n:=1) (zt 0 1) T.bO rfl) T.bJ rfl)<|XO.sh (n:=0)<|jU T.aG sI hr<|zc (zt 1 0)<|zc (wj (n:=0) (wj (n:=1) (zt 0 1) T.bO rfl) T.bN rfl) zj) zj)
def uA:EF:=(fY (Ú<|λO=>((J 1) O).bind λd=>((Ý<|eC<|.int 2) O).bind λl=>(ï O).bind λh=>jT d l h) 1 [] (gV 0) gY<|eN mH<|Ä (J 0) Å)
def qQ:List D->Option iS:=uW ["desk","words"]
  (jJ (rL<|λO=>((Ä (e1 (eE [5,6] "net")<|J 0)<|Ä uA<|Ä (eN mH<|Ä (e2 gK (J 1)<|eC<|.int 1) Å) Å) O).bind λY=>lK 5<|Y++[])
  (sY Ø))
theorem Xf (T:Txt K mg a w):dR P w K mg base (rg P w) 5 a.b9 a.ca ["desk","words"] (nS K a.ct [1,0] 0 qQ):=by
 have sE:=uk (P:=P) (w:=w) (base:=base) T;have Cg:=uz (P:=P) (w:=w) (base:=base) T;refine tP (L:=[.al 1,.ow 0]) T.a9.fn Qt rfl rfl (by decide) (xg<|by decide) λ_ _ _ _ _ _ hr=>?_;exact(ye (Oj (i:=0)<|Ou (c0:=5) (lY:=[]) (ns:=[0,0,0]) (nd:=[]) ym ⟨T.g.mks,T.aJ.me.at_,T.aJ.me.fn,T.g.kp⟩ (by decide) sE (hr.mono<|by decide) rfl T.g.mgx T.aJ.bd .nil (λ_ _=>.nil)<|zc (wj (n:=1) (zt 0 1) T.bO rfl)<|zc (XO.sh (n:=0)<|Tr (N:=["word"]) (om:=mO [0]) (cap:=[]) (own:=1) (yk (n:=0)<|XO.sh (n:=0)<|y3 (n:=0) (by decide) (zt 1 0) (xw eR) B8) (λ_ _ _ _ _=>(nO<|show ma (["word"]:List Str)from by decide +kernel)) (λ_ _ _ _ _=>yh)<|λ_ _ _ _ _=>(XE.ow<|z4 (k:=0) yc yg rfl T.cB xi<|zc (zt 0 0) zj))<|zc (z4 (k:=0) yc yg rfl T.cB xi<|zc (jA (zt 1 0) eR) zj) zj)
  (xz qd))
def oB:List D->Option iS:=uW ["desk","words","arrows","number"]
  (jJ (sY<|È 2<|eN yF<|Ä (e1 (eE [4] "arrows")<|e1 (eE [5,6] "net")<|J 0) Å)
  (jJ (sY<|È 3<|eN mH<|Ä (e2 gK (J 1)<|eC<|.int 1) Å)
  (jJ (sY<|yP 2 (J 3)<|cl su<|Ä (e2 gK (J 2)<|J 3)<|Ä (eN mH<|Ä (e2 gK (J 1)<|eC<|.int 2) Å) Å)
  (Ef 2<|yQ<|λO=>((Ä (J 0)<|Ä (J 2) Å) O).bind λY=>l5<|Y++[]))))
theorem WN (T:Txt K mg a w):dR P w K mg base (rg P w) 7 a.cl a.cm ["desk","words"] (nS K a.ct [1,0] 0 oB):=by
 have lW:=u0 (P:=P) (w:=w) (base:=base) T;have xU:=Xk (P:=P) (w:=w) (base:=base) T;have uT:=vk (P:=P) (w:=w) (base:=base) T;refine tP (L:=[.al 1,.ow 0,.ow 1,.ow 0]) T.bf.fn vd rfl rfl (by decide) (xg<|by decide) λ_ _ _ _ _ _ hr=>?_;exact(ye (Fs<|jO vd.nd<|j8 wc (KR (n:=0)<|by decide) rfl T.cE jr<|zc (wj (n:=0) (wj (n:=1) (zt 0 1) T.bO rfl) T.bJ rfl) zj)
  (ye (Fs<|jO vd.nd<|XE.ow<|z4 (k:=0) yc yg rfl T.cB xi<|zc (jA (zt 1 0) eR) zj)
  (ye (Fs<|Sm 2 rfl (zt 3 0)<|XO.sh (n:=0)<|jU T.be xU hr<|zc (Lx (n:=1) Ll Lm (zt 2 1) (zt 3 0)<|λ_ _=>rfl)<|zc (z4 (k:=0) yc yg rfl T.cB xi<|zc (jA (zt 1 0) eR) zj) zj)
  (ϙ (i:=2) rfl<|yo<|SD<|Ot (lY:=[]) (ns:=[1,0]) (nd:=[]) ym lW (hr.mono<|by decide) rfl T.a7.mgx T.a7.fn.kp T.a7.bd .nil (λ_ _=>.nil)<|zc (zt 0 1)<|zc (zt 2 0) zj))))
def pB:Nat->List D->Option D:=F7 ["self"]
  (Æ (l6 [5,6] "net" (eC .non))
  (Æ (l6 [6] "table" (eC .non))
  (Æ (l6 [6] "puts" (λO=>(Å O).bind λY=>Z<|.lst Y))
  (l6 [6] "answered" (eC<|.int 0)))))
theorem WQ (T:Txt K mg a w):dR P w K mg base fL 1 a.cn a.co ["self"] (xG K a.ct [6] [] pB) :=
 IN (L:=[]) (rk:=0) T.bg.fn λ_ _ _ _ _ _ _ hr nd=>(ze (ue T.bO qX)<|ze (ue T.bR qX)<|ze (ϔ T.bP (eX<|zw (k:=0) zl)<|λ_ _ h=>by cases h;nofun)<|zm<|ue T.bI eR)
def pY:List (Str×(List D->Option D)):=[("goings",pD),("wait",mJ),("back",mJ),("plan",sk),("put",tX),("show",tT),("late",pS),("spare",sj)]
def pv:EM:=(Ö (Ó (tb<|e2 ln (e2 gK (J 2) db)<|eC<|.str "goings") (ç<|cl iG<|Ä (cl ip<|Ä (J 2) Å)<|Ä (e1 ge<|e1 eg<|J 0) Å) Ë)
  (Ö (æ 3<|wG 0 (e2 gK (J 2) db) (Ä (J 2) Å) pY)
  (Ö (Fe 0 [6] "answered" dl)
  (à<|J 3))))
def eS:List D->Option D:=á 0 ["self","row","words","answer"]
  (Ö (Ó (Ô<|tb<|e1 (tO "str")<|J 1) Ø Ë)
  (Ö (È 2<|e2 oI (J 1)<|eC<|.str " ")
  (Ö (Ó (Ô<|tb<|cl gB<|Ä (J 0)<|Ä (J 2) Å) Ø Ë)
  pv)))
theorem xm (T:Txt K mg a w):dR P w K mg base fL 8 a.cp a.cq ["self","row"] (uN K a.ct 0 1 eS):=by refine xk (n:=0) (m:=1) (L:=mO [0,0]) T.bh.fn x6 rfl rfl λxa gH A outer s H E hr=>?_;exact(y2 (nX (wg<|y0<|GN (k:=0) (by decide) T.cC T.cJ Fp xv) Ry)<|y2 (jO x6.nd<|eZ<|RN xv<|zh (n:=0))<|y2 (nX (wg<|y0<|xc T.a2 (Rf T) hr<|zc xv<|zc xv zj) Ry)<|y2 (nX (GB hr (jA xv eR)<|zh (n:=0))<|zrq<|xc T.aD (vv T) hr<|zc (xc T.a3 (Qy T) hr<|zc xv zj)<|zc (jF (xK xv T.bO) T.bN) zj)<|y2 (SA rfl x6.nd rfl (Or.inl rfl)<|T.bA.elim λ_ h=>h.elim λ_ h=>ϝ (i:=0) (tb:=pY) (rF rfl) h.1 (ur h.2.1 T.a6 (Wx T) hr<|ur h.2.2.1 T.a8 (jp T) hr<|ur h.2.2.2.1 T.a8 (jp T) hr<|ur h.2.2.2.2.1 T.a9 (Xi T) hr<|ur h.2.2.2.2.2.1 T.ba (Ye T) hr<|ur h.2.2.2.2.2.2.1 T.bb (Yf T) hr<|ur h.2.2.2.2.2.2.2.1 T.bc (Yg T) hr<|ur h.2.2.2.2.2.2.2.2.1 T.bd (Xj T) hr ŗ) (jA xv eR) (yy uf)<|yn xv wt)<|y2 (Ϟ (i:=0) (rF rfl) T.bI eR)<|jf xv)
def pZ:List (Str×(List D->Option iS)):=[("goings",oC),("ride",iH),("wait",iH),("back",iH),("line",iH),("change",oB),("plan",qQ)]
def pw:n9:=(jJ (rK (tb<|e2 (jQ Â) (e2 gK (J 2)<|eC<|.int 0)<|eC<|.str "goings") (pX<|λO=>((Ä (cl ip<|Ä (J 2) Å)<|Ä (e1 (eE [4] "names")<|e1 (eE [5,6] "net")<|J 0) Å) O).bind λY=>kM<|Y++[])<|sY Ë)
  (jJ (Bg 3<|DS pZ (e2 gK (J 2)<|eC<|.int 0)<|Ä (J 0)<|Ä (J 2) Å)
  (sY Ø)))
def gJ:List D->Option iS:=uW ["self","row","words","answer"]
  (jJ (rK (Ô<|tb<|e1 (tO "str")<|J 1) (nv<|λO=>((e1 (eE [6] "answered")<|J 0) O).bind λd=>(pP d).bind λd=>Z<|.exc 14 ["at"] [d])<|sY Ë)
  (jJ (sY<|È 2<|e2 oI (J 1)<|eC<|.str " ")
  (jJ (rK (Ô<|tb<|cl gB<|Ä (J 0)<|Ä (J 2) Å) (nv<|λO=>((e1 (eE [6] "answered")<|J 0) O).bind λd=>(pP d).bind λd=>Z<|.exc 14 ["at"] [d])<|sY Ë)
  pw)))
theorem Xl (T:Txt K mg a w):dR P w K mg base (rg P w) 8 a.cp a.cq ["self","row"] (nS K a.ct [1,0] 0 gJ):=by
 have tD:=WL (P:=P) (w:=w) (base:=base) T;have kG:=WM (P:=P) (w:=w) (base:=base) T;have tw:=WN (P:=P) (w:=w) (base:=base) T;have vT:=Xf (P:=P) (w:=w) (base:=base) T;have qA:=w6 (P:=P) (w:=w) (base:=base) T;have oj:=WH (P:=P) (w:=w) (base:=base) T;have Ci:=Rf (P:=P) (w:=w) (base:=base) T;have Bw:=vv (P:=P) (w:=w) (base:=base) T;have vV:=Qy (P:=P) (w:=w) (base:=base) T;refine tP (L:=[.al 1,.ow 0,.ow 0,.ow 0]) T.bh.fn x6 rfl rfl (by decide) (xg<|by decide) λ_ _ _ _ _ _ hr=>?_;exact(ye (Ft (wg<|y0<|GN (k:=0) (by decide) T.cC T.cJ Fp<|zt 1 0) (yo<|wr rfl ym<|qo (c0:=14) (fn:="at") T.ca T.b9 T.ap.me.at_ T.ap.me.fn oj (hr.mono<|by decide) T.p T.ap.bd<|wj (n:=1) (zt 0 1) T.bI rfl)<|xz yq)
  (ye (Fs<|jO x6.nd<|eZ<|RN (zt 1 0)<|zh (n:=0))
  (ye (Ft (wg<|y0<|XO.sh (n:=0)<|jU T.a2 Ci hr<|zc (zt 0 1)<|zc (zt 2 0) zj) (yo<|wr rfl ym<|qo (c0:=14) (fn:="at") T.ca T.b9 T.ap.me.at_ T.ap.me.fn oj (hr.mono<|by decide) T.p T.ap.bd<|wj (n:=1) (zt 0 1) T.bI rfl)<|xz yq)
  (ye (Ft (we (k:=0) (j6 hr.u64) ud (jA (zt 2 0) eR) (zh (n:=0))<|hV _) (yo<|RL<|Ot (lY:=[]) (ns:=[0,0]) (nd:=[]) ym qA (hr.mono<|by decide) rfl T.aD.mgx T.aD.fn.kp T.aD.bd .nil (λ_ _=>.nil)<|zc (XO.sh (n:=0)<|jU T.a3 vV hr<|zc (zt 2 0) zj)<|zc (wj (n:=0) (wj (n:=1) (zt 0 1) T.bO rfl) T.bN rfl) zj)<|xz yq)
  (ye (ϥ (k:=0) rfl x6.nd rfl (Or.inl rfl)<|T.bA.elim λ_ h=>h.elim λ_ h=>zpe (ns:=[1,0]) (tb:=pZ) ym h.1 (v8 h.2.1 T.a6 tD hr<|v8 h.2.2.2.2.2.2.2.2.2.1 T.a8 kG hr<|v8 h.2.2.1 T.a8 kG hr<|v8 h.2.2.2.1 T.a8 kG hr<|v8 h.2.2.2.2.2.2.2.2.2.2.1 T.a8 kG hr<|v8 h.2.2.2.2.2.2.2.2.2.2.2.1 T.bf tw hr<|v8 h.2.2.2.2.1 T.a9 vT hr ϓ) (jA (zt 2 0) eR)<|zc (zt 0 1)<|zc (zt 2 0) zj)
  (xz qd))))))
def gF:List D->Option D:=Ñ ["_law_script","_law_k"]
  (Æ (Ó (tb<|e2 BI (J 1)<|eN iE<|Ä (J 0) Å) (É<|e2 gK (J 0)<|J 1) Ë)
  (É db))
theorem x9 (T:Txt K mg a w):dR P w K mg base fL 1 a.cr a.cs ["_law_script","_law_k"] (iP K a.ct [0,0] 0 gF) :=
 lf (L:=mO [0,0]) T.bi.fn λ_ _ _ _ _ _ hr nd=>(ze (nX (Hl xv<|oR T.cD<|zc xv zj)<|kO<|jA xv xv)<|zm<|kO eR)
abbrev gy:=eC<|.int 2147483647
def iN:List D->Option D:=Ñ ["_law_cell","_law_k","_law_number"]
  (Æ (Ó (Ù (tb<|e2 G6 (J 0)<|e2 Ej dl<|eC<|.int 90)<|tb<|e2 EQ (e2 BS (J 0)<|e2 dL (eC<|.int 64)<|e2 ki (eC<|.int 31)<|J 1) db) (É<|e2 lR (e2 BS (J 0)<|e2 dL (eC<|.int 64)<|e2 ki (eC<|.int 31)<|J 1)<|eC<|.int 2147483648) Ë)
  (Æ (È 2<|e2 lR (e2 ki (e2 dL (e2 dL (J 0)<|e2 ki (eC<|.int 7919)<|J 1) dl)<|eC<|.int 48271) gy)
  (Æ (È 2<|e2 lR (e2 ki (J 2)<|e2 dL (e2 nF (J 2)<|eC<|.int 1009)<|eC<|.int 69621) gy)
  (É<|e2 lR (e2 ki (J 2)<|e2 dL (e2 nF (J 2)<|eC<|.int 1013)<|eC<|.int 16807) gy))))
theorem u1 (T:Txt K mg a w):dR P w K mg base fL 1 a.cu a.cv ["_law_cell","_law_k"] (iP K a.ct [0,0] 0 iN) :=
 lf (L:=mO [0,0,0]) T.bj.fn λ_ _ _ _ _ _ hr nd=>(ze (nX (XW.t<|OO (VU xv<|Ex (k:=0) Β Ϸ eR eR)<|OD<|KB (Ex (k:=0) SM R8 xv<|eX<|e8 eR<|t5 eR xv) eR)<|kO<|ã (Ex (k:=0) SM R8 xv<|eX<|e8 eR<|t5 eR xv) eR)<|ze (p4 nd<|ã (t5 (eX<|e8 (eX<|e8 xv<|t5 eR xv) eR) eR) eR)<|ze (p4 nd<|ã (t5 xv<|eX<|e8 (Ā xv eR) eR) eR)<|zm<|kO<|ã (t5 xv<|eX<|e8 (Ā xv eR) eR) eR)
def kZ:SF:=(Æ (È 10<|e2 dL (e2 nF (J 0)<|e2 dL (eC<|.int 64)<|e2 ki (eC<|.int 37)<|J 9)<|e2 ki (J 7)<|eN BE<|Ä (e2 gt (J 9)<|J 5) Å)
  (Ó (tb<|e2 gt (J 9) db) (È 8<|e2 gK (J 2)<|e2 lR (J 10)<|eC<|.int 26)<|È 8<|e2 dL (J 8)<|e2 gK (J 3)<|e2 lR (J 10)<|eC<|.int 36))
def jY:SF:=(Æ (È 8<|eC<|.str "")
  (Æ (Õ (λO=>((Ä (J 4) Å) O).bind o6) (gV 9) kZ)
  (â 6<|J 8)))
def lE:List D->Option D:=Ñ ["_law_cell","_law_many","_law_letters","_law_signs","_law_size","_law_at","_law_names_here","_law_k","_law_name","_law_j","_law_sign"]
  (Æ (È 2<|eC<|.str "abcdefghijklmnopqrstuvwxyz")
  (Æ (È 3<|e2 dL (J 2)<|eC<|.str "0123456789")
  (Æ (È 4<|e2 dL (eC<|.int 1)<|e2 lR (J 0)<|eC<|.int 8)
  (Æ (È 5<|e2 lR (e2 nF (J 0)<|eC<|.int 8)<|J 4)
  (Æ (È 6<|λO=>(Å O).bind λY=>Z<|.lst Y)
  (Æ (Õ (λO=>((Ä (J 1) Å) O).bind o6) (gV 7) jY)
  (É<|J 6)))))))
theorem Xm (T:Txt K mg a w):dR P w K mg base fL 1 a.cw a.cx ["_law_cell","_law_many"] (iP K a.ct [0,0] 0 lE) :=
 lf (L:=mO [0,0,0,0,0,0,1,0,0,0,0]) T.bk.fn λ_ _ _ _ _ _ hr nd=>(ze (p4 nd<|zh (n:=0))<|ze (jO nd<|eZ<|e8 xv<|zh (n:=0))<|ze (jO nd<|eZ<|e8 eR<|ã xv eR)<|ze (p4 nd<|ã (Ā xv eR) xv)<|ze (jO nd<|zw (k:=0) zl)<|ze (xF (yu (n:=0) T.cG<|zc xv zj) (p0 nd)<|ze (p4 nd<|zh (n:=0))<|ze (xF (yu (n:=0) T.cG<|zc xv zj) (p0 nd)<|ze (jO nd<|eZ<|e8 (Ā xv<|eX<|e8 eR<|t5 eR xv)<|t5 xv<|z4 (k:=0) Yu zr4 rfl T.cB xi<|zc (Ċ hr xv xv) zj)<|zm<|Fy (wY hr xv eR) (zm<|p4 nd<|jA xv<|ã xv eR)<|zm<|jO nd<|eZ<|e8 xv<|jA xv<|ã xv eR)<|zm<|xu 6 rfl<|XE.ow xv)<|zm<|La (i:=6) rfl)
def wU:EF:=(fY (Nd 0<|J 1) 1 [] im (tb<|J 0)<|J 0)
def jI:List D->Option D:=Ñ ["_law_e","_law_some"]
  (Æ (È 1<|λO=>((Ä (e1 (rJ [8,9,15,11,14] [14])<|J 0)<|Ä (e1 (rJ [8,9,15,11,14] [15])<|J 0)<|Ä (e1 (rJ [8,9,15,11,14] [8])<|J 0)<|Ä (e1 (rJ [8,9,15,11,14] [9])<|J 0) Å) O).bind λY=>Z<|.lst Y)
  (Æ (È 1<|e2 dL (J 1)<|λO=>((Ä (e1 (rJ [8,9,15,11,14] [11])<|J 0)<|Ä (e1 (rJ [8,9,15,11,14] [])<|J 0)<|Ä (e1 (rJ [8,9,15,11,14] [])<|J 0)<|Ä (e1 (rJ [8,9,15,11,14] [])<|J 0) Å) O).bind λY=>Z<|.lst Y)
  (Æ (Ó (ä (Ô<|tb<|e1 (rJ [8,9,15,11,14] [8,9,15,11,14])<|J 0)<|tb<|e2 (jQ Â) (eN iE<|Ä wU Å)<|eC<|.int 1) (É<|eC<|.str "other") Ë)
  (É<|e2 gK (λO=>((Ä (eC<|.str "row")<|Ä (eC<|.str "name")<|Ä (eC<|.str "net")<|Ä (eC<|.str "stuck")<|Ä (eC<|.str "fit")<|Ä (eC<|.str "loose")<|Ä (eC<|.str "many")<|Ä (eC<|.str "unlike") Å) O).bind λY=>Z<|.lst Y)<|e2 wL (J 1)<|eC<|.bl Â))))
theorem xn (T:Txt K mg a w):vF JP P w K mg base 1 a.cy a.cz ["_law_e"] (iP K a.ct [1] 0 jI):=by
 refine Nc (L:=mO [0]) T.bl.fn jx λ_ _ _ _ _ _ _ hr hA=>?_;exact(ze (jO jx.nd<|eZ<|zw (k:=0)<|za (XE.ow<|Fu (k:=0) T.ch.1 T.ch.2 T.cC T.p<|zt 0 1)<|za (XE.ow<|Fu (k:=0) T.ci.1 T.ci.2 T.cC T.q<|zt 0 1)<|za (XE.ow<|Fu (k:=0) T.cj.1 T.cj.2 T.cC T.j<|zt 0 1)<|za (XE.ow<|Fu (k:=0) T.ck.1 T.ck.2 T.cC T.k<|zt 0 1) zl)
  (ze (jO jx.nd<|eZ<|e8 (zt 1 0)<|XO.sh (n:=0)<|zw (k:=0)<|za (XE.ow<|Fu (k:=0) T.cl.1 T.cl.2 T.cC T.m<|zt 0 1)<|za (XE.ow<|Fu (k:=0) T.cm.1 T.cm.2 T.cC T.l<|zt 0 1)<|za (XE.ow<|Fu (k:=0) T.cn.1 T.cn.2 T.cC T.n<|zt 0 1)<|za (XE.ow<|Fu (k:=0) T.co.1 T.co.2 T.cC T.o<|zt 0 1) zl)
  (ze (Fy (XW.t<|jt (wg<|y0<|ϣ (k:=0) T.cp.1 T.cp.2 T.cC T.cx<|zt 0 1)<|ub<|we (k:=0) (j6 hr.u64) ud (oR T.cD<|zc (XO.sh (n:=0)<|OF (N:=["_law_one"]) (om:=mO [0]) (cap:=[]) (own:=1) (Hv<|by rfl) trivial rfl (λ_ h=>nomatch h) (Zd (i:=0) hA rfl<|zt 1 0) (λ_ _ _ _ _=>(nO<|show ma (["_law_one"]:List Str)from by decide +kernel)) (λ_ _ _ _ _=>(Ho<|y0<|zt 0 0))<|λ_ _ _ _ _=>(XE.ow<|zt 0 0)) zj) eR<|hV _) (zm<|yf<|XE.ow<|zh (n:=0)) yq)
  (zm<|yf<|XE.ow<|jA (XO.sh (n:=0)<|zw (k:=0)<|za (XE.ow<|zh (n:=0))<|za (XE.ow<|zh (n:=0))<|za (XE.ow<|zh (n:=0))<|za (XE.ow<|zh (n:=0))<|za (XE.ow<|zh (n:=0))<|za (XE.ow<|zh (n:=0))<|za (XE.ow<|zh (n:=0))<|za (XE.ow<|zh (n:=0)) zl)<|qm (k:=0) (zt 1 0)<|xo (n:=0)))))
def iA:List D->Option D:=Ñ ["_law_desk","_law_row","_law_found","_law_field","_law_e"]
  (Æ (È 2<|λO=>((Ä (eC<|.str "told")<|Ä (eC .non) Å) O).bind λY=>Z<|.tup Y)
  (Æ (È 3<|eC .non)
  (Æ (Eg (pX<|λO=>((J 0) O).bind λo=>((Ä (J 1) Å) O).bind λY=>D5 6 "say" gJ o Y)<|GG (yC [8,9,15,11,14] [14]) (Z 4) (Æ (È 2<|λO=>(J 4 O).bind λd=>jI [d])
  (È 3<|e1 (Aq [8,14] "at")<|J 4))<|GG (yC [8,9,15,11,14] [15]) (Z 4) (Æ (È 2<|λO=>(J 4 O).bind λd=>jI [d])
  (È 3<|e1 (Aq [15] "name")<|J 4))<|GG (yC [8,9,15,11,14] [8]) (Z 4) (Æ (È 2<|λO=>(J 4 O).bind λd=>jI [d])
  (È 3<|e1 (Aq [8,14] "at")<|J 4))<|GG (yC [8,9,15,11,14] [11]) (Z 4) (Æ (È 2<|λO=>(J 4 O).bind λd=>jI [d])
  (È 3<|e1 (Aq [11] "arrow")<|J 4))<|GG (yC [8,9,15,11,14] [9]) (Z 4) (Æ (È 2<|λO=>(J 4 O).bind λd=>jI [d])
  (È 3<|eN Fg<|Ä (e1 (Aq [9] "ring")<|J 4) Å))<|GG (yC [8,9,15,11,14] [8,9,15,11,14]) (Z 4) (È 2<|λO=>(J 4 O).bind λd=>jI [d])<|λ_ _ _=>S)
  (Æ (Ó (tb<|e1 (tO "bool")<|J 3) (É<|λO=>((Ä (eC<|.str "truth")<|Ä (eC .non) Å) O).bind λY=>Z<|.tup Y) Ë)
  (É<|λO=>((Ä (J 2)<|Ä (J 3) Å) O).bind λY=>Z<|.tup Y)))))
theorem ua (T:Txt K mg a w):dR P w K mg base fL 9 a.cA a.cB ["_law_desk","_law_row"] (iP K a.ct [1,0] 0 iA) :=
 lf (L:=[.al 1,.ow 0,.ow 0,.ow 0,.ow 0]) T.bm.fn λ_ _ _ _ _ _ hr nd=>(ze (jO nd<|eZ<|zu<|za (XE.ow<|zh (n:=0))<|za (XE.ow qX) zl)<|ze (p4 nd qX)<|ze (Ź (λE cW W' h1 h2=>(yo<|RL<|zpd (c0:=6) (ns:=[0]) h2 xv T.h.cl T.bh (Xl T) hr<|zc xv zj))<|Hr (i:=4) nd rfl rfl T.p (Hw T.cq) (λa=>(ze (jO nd<|jc (a:=a) (xn T) ((hr.hm _).mono<|by decide) rfl T.bl.mgx T.bl.fn.kp T.bl.bd)<|zm<|p4 nd<|JH (k:=0) xv T.cd rfl))<|Hr (i:=4) nd rfl rfl T.q (Hw T.cr) (λa=>(ze (jO nd<|jc (a:=a) (xn T) ((hr.hm _).mono<|by decide) rfl T.bl.mgx T.bl.fn.kp T.bl.bd)<|zm<|p4 nd<|JH (k:=0) xv T.ce rfl))<|Hr (i:=4) nd rfl rfl T.j (Hw T.cs) (λa=>(ze (jO nd<|jc (a:=a) (xn T) ((hr.hm _).mono<|by decide) rfl T.bl.mgx T.bl.fn.kp T.bl.bd)<|zm<|p4 nd<|JH (k:=0) xv T.cd rfl))<|Hr (i:=4) nd rfl rfl T.m (Hw T.cu) (λa=>(ze (jO nd<|jc (a:=a) (xn T) ((hr.hm _).mono<|by decide) rfl T.bl.mgx T.bl.fn.kp T.bl.bd)<|zm<|p4 nd<|JH (k:=0) xv T.cf rfl))<|Hr (i:=4) nd rfl rfl T.k (Hw T.cv) (λa=>(ze (jO nd<|jc (a:=a) (xn T) ((hr.hm _).mono<|by decide) rfl T.bl.mgx T.bl.fn.kp T.bl.bd)<|zm<|jO nd<|eZ<|Z5 Xp zor rfl T.cI Y8<|zc (JH (k:=0) xv T.cg rfl) zj))<|Hr (i:=4) nd rfl rfl T.i (Hw T.cw) (λa=>(zm<|jO nd<|jc (a:=a) (xn T) ((hr.hm _).mono<|by decide) rfl T.bl.mgx T.bl.fn.kp T.bl.bd)) Ϥ)<|ze (nX (y0<|GN (k:=0) (by decide) T.cC T.cz Sh xv)<|yf<|eZ<|zu<|za (XE.ow<|zh (n:=0))<|za (XE.ow qX) zl)<|zm<|yf<|eZ<|zu<|za (XE.ow xv)<|za (XE.ow xv) zl)
def ke:List D->Option D:=Ñ ["_law_one","_law_two","_law_pair","_law_some"]
  (Æ (È 2<|e2 dL (e2 dL (J 0)<|eC<|.str " ")<|J 1)
  (Æ (È 3<|λO=>((Ä (eC<|.str "")<|Ä (eC<|.str " ")<|Ä (eC<|.str "show ")<|Ä (eC<|.str " show")<|Ä (eC<|.str "shows")<|Ä (eC<|.str "Show")<|Ä (eC<|.str "run")<|Ä (eC<|.str "run ")<|Ä (eC<|.str "run x")<|Ä (eC<|.str "run 401")<|Ä (eC<|.str "run -1")<|Ä (eC<|.str "run 01") Å) O).bind λY=>Z<|.lst Y)
  (Æ (È 3<|e2 dL (J 3)<|λO=>((Ä (eC<|.str "run 1 1")<|Ä (eC<|.str "least ")<|Ä (eC<|.str "least 1")<|Ä (eC<|.str "rate")<|Ä (e2 dL (eC<|.str "rate ")<|J 2)<|Ä (e2 dL (eC<|.str "rate  ")<|J 0)<|Ä (eC<|.str "again")<|Ä (eC<|.str "again 0") Å) O).bind λY=>Z<|.lst Y)
  (Æ (â 3<|eC<|.str "again 201")
  (Æ (È 3<|e2 dL (J 3)<|λO=>((Ä (eC<|.str "again 5 5")<|Ä (eC<|.str "cut")<|Ä (eC<|.str "cut 2")<|Ä (eC<|.str "cut -1")<|Ä (eC<|.str "cut x")<|Ä (eC<|.str "cut 0 0")<|Ä (e2 dL (eC<|.str "cut ")<|J 0)<|Ä (eC<|.str "change 0")<|Ä (eC<|.str "change 2 5") Å) O).bind λY=>Z<|.lst Y)
  (Æ (È 3<|e2 dL (J 3)<|λO=>((Ä (eC<|.str "change 0 x")<|Ä (eC<|.str "change 0 5 5")<|Ä (eC<|.str "change 0 -5")<|Ä (eC<|.str "plan")<|Ä (eC<|.str "plan 9")<|Ä (eC<|.str "plan 9 0")<|Ä (eC<|.str "plan 9 0 0 0") Å) O).bind λY=>Z<|.lst Y)
  (Æ (È 3<|e2 dL (J 3)<|λO=>((Ä (eC<|.str "plan 9 0 x")<|Ä (eC<|.str "plan 1000000000001 0 0")<|Ä (eC<|.str "plan 9 0 1000000000001")<|Ä (e2 dL (e2 dL (eC<|.str "put ")<|J 0)<|eC<|.str " 0") Å) O).bind λY=>Z<|.lst Y)
  (Æ (â 3<|e2 dL (e2 dL (eC<|.str "put ")<|J 0)<|eC<|.str " 401 5")
  (Æ (È 3<|e2 dL (J 3)<|λO=>((Ä (e2 dL (e2 dL (eC<|.str "put ")<|J 0)<|eC<|.str " 0 1000000000001")<|Ä (e2 dL (e2 dL (eC<|.str "put ")<|J 0)<|eC<|.str " x 5")<|Ä (eC<|.str "put A x 5")<|Ä (e2 dL (e2 dL (eC<|.str "put ")<|J 0)<|eC<|.str " 0 5 5") Å) O).bind λY=>Z<|.lst Y)
  (Æ (È 3<|e2 dL (J 3)<|λO=>((Ä (e2 dL (eC<|.str "ride ")<|J 2)<|Ä (e2 dL (e2 dL (eC<|.str "ride ")<|J 2)<|eC<|.str " 5 0")<|Ä (e2 dL (e2 dL (eC<|.str "wait ")<|J 2)<|eC<|.str " 5")<|Ä (e2 dL (e2 dL (eC<|.str "back ")<|J 2)<|eC<|.str " x 1") Å) O).bind λY=>Z<|.lst Y)
  (Æ (È 3<|e2 dL (J 3)<|λO=>((Ä (e2 dL (e2 dL (eC<|.str "ride A ")<|J 1)<|eC<|.str " x")<|Ä (eC<|.str "line 1")<|Ä (e2 dL (eC<|.str "line 1 ")<|J 0)<|Ä (eC<|.str "line 1 A")<|Ä (e2 dL (e2 dL (eC<|.str "line x ")<|J 0)<|eC<|.str " 5")<|Ä (eC<|.str "turn 5") Å) O).bind λY=>Z<|.lst Y)
  (Æ (È 3<|e2 dL (J 3)<|λO=>((Ä (e2 dL (eC<|.str "goings;")<|J 0)<|Ä (eC<|.str "net")<|Ä (e2 dL (eC<|.str "late")<|J 0)<|Ä (e2 dL (eC<|.str "spares ")<|J 2)<|Ä (e2 dL (e2 dL (eC<|.str "rides ")<|J 2)<|eC<|.str " 5") Å) O).bind λY=>Z<|.lst Y)
  (É<|e2 dL (J 3)<|λO=>((Ä (e2 dL (eC<|.str "run 1")<|e2 Ge (eC<|.str "0")<|eC<|.int 15)<|Ä (e2 dL (eC<|.str "cut 1")<|e2 Ge (eC<|.str "0")<|eC<|.int 15) Å) O).bind λY=>Z<|.lst Y)))))))))))))
theorem vm (T:Txt K mg a w):dR P w K mg base fL 1 a.cC a.cD ["_law_one","_law_two"] (iP K a.ct [0,0] 0 ke) :=
 lf (L:=mO [0,0,0,1]) T.bn.fn λ_ _ _ _ _ _ hr nd=>(ze (jO nd<|eZ<|e8 (eX<|e8 xv<|zh (n:=0)) xv)<|ze (jO nd<|zw (k:=0)<|za (XE.ow<|zh (n:=0))<|za (XE.ow<|zh (n:=0))<|za (XE.ow<|zh (n:=0))<|za (XE.ow<|zh (n:=0))<|za (XE.ow<|zh (n:=0))<|za (XE.ow<|zh (n:=0))<|za (XE.ow<|zh (n:=0))<|za (XE.ow<|zh (n:=0))<|za (XE.ow<|zh (n:=0))<|za (XE.ow<|zh (n:=0))<|za (XE.ow<|zh (n:=0))<|za (XE.ow<|zh (n:=0)) zl)<|ze (jO nd<|Dy vb (vc (n:=1) (m:=0) (by decide)<|by decide) xv<|eX<|zw (k:=0)<|za (XE.ow<|zh (n:=0))<|za (XE.ow<|zh (n:=0))<|za (XE.ow<|zh (n:=0))<|za (XE.ow<|zh (n:=0))<|za (eZ<|e8 (zh (n:=0)) xv)<|za (eZ<|e8 (zh (n:=0)) xv)<|za (XE.ow<|zh (n:=0))<|za (XE.ow<|zh (n:=0)) zl)<|ze (xu 3 rfl<|XE.ow<|zh (n:=0))<|ze (jO nd<|Dy vb (vc (n:=1) (m:=0) (by decide)<|by decide) xv<|eX<|zw (k:=0)<|za (XE.ow<|zh (n:=0))<|za (XE.ow<|zh (n:=0))<|za (XE.ow<|zh (n:=0))<|za (XE.ow<|zh (n:=0))<|za (XE.ow<|zh (n:=0))<|za (XE.ow<|zh (n:=0))<|za (eZ<|e8 (zh (n:=0)) xv)<|za (XE.ow<|zh (n:=0))<|za (XE.ow<|zh (n:=0)) zl)<|ze (jO nd<|Dy vb (vc (n:=1) (m:=0) (by decide)<|by decide) xv<|eX<|zw (k:=0)<|za (XE.ow<|zh (n:=0))<|za (XE.ow<|zh (n:=0))<|za (XE.ow<|zh (n:=0))<|za (XE.ow<|zh (n:=0))<|za (XE.ow<|zh (n:=0))<|za (XE.ow<|zh (n:=0))<|za (XE.ow<|zh (n:=0)) zl)<|ze (jO nd<|Dy vb (vc (n:=1) (m:=0) (by decide)<|by decide) xv<|eX<|zw (k:=0)<|za (XE.ow<|zh (n:=0))<|za (XE.ow<|zh (n:=0))<|za (XE.ow<|zh (n:=0))<|za (eZ<|e8 (eX<|e8 (zh (n:=0)) xv)<|zh (n:=0)) zl)<|ze (xu 3 rfl<|eZ<|e8 (eX<|e8 (zh (n:=0)) xv)<|zh (n:=0))<|ze (jO nd<|Dy vb (vc (n:=1) (m:=0) (by decide)<|by decide) xv<|eX<|zw (k:=0)<|za (eZ<|e8 (eX<|e8 (zh (n:=0)) xv)<|zh (n:=0))<|za (eZ<|e8 (eX<|e8 (zh (n:=0)) xv)<|zh (n:=0))<|za (XE.ow<|zh (n:=0))<|za (eZ<|e8 (eX<|e8 (zh (n:=0)) xv)<|zh (n:=0)) zl)<|ze (jO nd<|Dy vb (vc (n:=1) (m:=0) (by decide)<|by decide) xv<|eX<|zw (k:=0)<|za (eZ<|e8 (zh (n:=0)) xv)<|za (eZ<|e8 (eX<|e8 (zh (n:=0)) xv)<|zh (n:=0))<|za (eZ<|e8 (eX<|e8 (zh (n:=0)) xv)<|zh (n:=0))<|za (eZ<|e8 (eX<|e8 (zh (n:=0)) xv)<|zh (n:=0)) zl)<|ze (jO nd<|Dy vb (vc (n:=1) (m:=0) (by decide)<|by decide) xv<|eX<|zw (k:=0)<|za (eZ<|e8 (eX<|e8 (zh (n:=0)) xv)<|zh (n:=0))<|za (XE.ow<|zh (n:=0))<|za (eZ<|e8 (zh (n:=0)) xv)<|za (XE.ow<|zh (n:=0))<|za (eZ<|e8 (eX<|e8 (zh (n:=0)) xv)<|zh (n:=0))<|za (XE.ow<|zh (n:=0)) zl)<|ze (jO nd<|Dy vb (vc (n:=1) (m:=0) (by decide)<|by decide) xv<|eX<|zw (k:=0)<|za (eZ<|e8 (zh (n:=0)) xv)<|za (XE.ow<|zh (n:=0))<|za (eZ<|e8 (zh (n:=0)) xv)<|za (eZ<|e8 (zh (n:=0)) xv)<|za (eZ<|e8 (eX<|e8 (zh (n:=0)) xv)<|zh (n:=0)) zl)<|zm<|yf<|eZ<|Dy vb (vc (n:=1) (m:=0) (by decide)<|by decide) xv<|eX<|zw (k:=0)<|za (eZ<|e8 (zh (n:=0))<|Ex (k:=0) Rp RM (zh (n:=0)) eR)<|za (eZ<|e8 (zh (n:=0))<|Ex (k:=0) Rp RM (zh (n:=0)) eR) zl)
def kd:List D->Option D:=Ñ ["_law_one","_law_two","_law_pair","_law_some"]
  (Æ (È 2<|e2 dL (e2 dL (J 0)<|eC<|.str " ")<|J 1)
  (Æ (È 3<|λO=>((Ä (eC<|.str "late")<|Ä (eC<|.str "late ")<|Ä (eC<|.str "late 401")<|Ä (eC<|.str "late x")<|Ä (eC<|.str "late 5 5")<|Ä (eC<|.str "fate")<|Ä (eC<|.str "fate 0")<|Ä (eC<|.str "fate 401")<|Ä (eC<|.str "fate x")<|Ä (e2 dL (eC<|.str "fate 5 ")<|J 0) Å) O).bind λY=>Z<|.lst Y)
  (Æ (È 3<|e2 dL (J 3)<|λO=>((Ä (e2 dL (eC<|.str "spare ")<|J 0)<|Ä (e2 dL (e2 dL (e2 dL (eC<|.str "spare ")<|J 2)<|eC<|.str " ")<|J 0)<|Ä (eC<|.str "spare")<|Ä (e2 dL (e2 dL (eC<|.str "spare ")<|J 2)<|eC<|.str " ")<|Ä (e2 dL (eC<|.str "give ")<|J 0) Å) O).bind λY=>Z<|.lst Y)
  (É<|e2 dL (J 3)<|λO=>((Ä (e2 dL (e2 dL (eC<|.str "give ")<|J 0)<|eC<|.str " 61")<|Ä (e2 dL (e2 dL (eC<|.str "give ")<|J 0)<|eC<|.str " x")<|Ä (e2 dL (eC<|.str "give ")<|J 2)<|Ä (e2 dL (e2 dL (eC<|.str "give ")<|J 2)<|eC<|.str " 5")<|Ä (eC<|.str "give A x") Å) O).bind λY=>Z<|.lst Y))))
theorem vn (T:Txt K mg a w):dR P w K mg base fL 1 a.cE a.cF ["_law_one","_law_two"] (iP K a.ct [0,0] 0 kd) :=
 lf (L:=mO [0,0,0,0]) T.bo.fn λ_ _ _ _ _ _ hr nd=>(ze (jO nd<|eZ<|e8 (eX<|e8 xv<|zh (n:=0)) xv)<|ze (jO nd<|eZ<|zw (k:=0)<|za (XE.ow<|zh (n:=0))<|za (XE.ow<|zh (n:=0))<|za (XE.ow<|zh (n:=0))<|za (XE.ow<|zh (n:=0))<|za (XE.ow<|zh (n:=0))<|za (XE.ow<|zh (n:=0))<|za (XE.ow<|zh (n:=0))<|za (XE.ow<|zh (n:=0))<|za (XE.ow<|zh (n:=0))<|za (eZ<|e8 (zh (n:=0)) xv) zl)<|ze (jO nd<|eZ<|e8 xv<|eX<|zw (k:=0)<|za (eZ<|e8 (zh (n:=0)) xv)<|za (eZ<|e8 (eX<|e8 (eX<|e8 (zh (n:=0)) xv)<|zh (n:=0)) xv)<|za (XE.ow<|zh (n:=0))<|za (eZ<|e8 (eX<|e8 (zh (n:=0)) xv)<|zh (n:=0))<|za (eZ<|e8 (zh (n:=0)) xv) zl)<|zm<|yf<|eZ<|e8 xv<|eX<|zw (k:=0)<|za (eZ<|e8 (eX<|e8 (zh (n:=0)) xv)<|zh (n:=0))<|za (eZ<|e8 (eX<|e8 (zh (n:=0)) xv)<|zh (n:=0))<|za (eZ<|e8 (zh (n:=0)) xv)<|za (eZ<|e8 (eX<|e8 (zh (n:=0)) xv)<|zh (n:=0))<|za (XE.ow<|zh (n:=0)) zl)
def i7:List D->Option D:=Ñ ["_law_one","_law_two"]
  (É<|λO=>((Ä (eC<|.str "late 5")<|Ä (eC<|.str "fate 9")<|Ä (e2 dL (e2 dL (e2 dL (eC<|.str "spare ")<|J 0)<|eC<|.str " ")<|J 1)<|Ä (e2 dL (e2 dL (eC<|.str "give ")<|J 0)<|eC<|.str " 5")<|Ä (e2 dL (eC<|.str "spare A ")<|J 1) Å) O).bind λY=>Z<|.lst Y)
theorem w8 (T:Txt K mg a w):dR P w K mg base fL 1 a.cG a.cH ["_law_one","_law_two"] (iP K a.ct [0,0] 0 i7) :=
 lf (L:=mO [0,0]) T.bp.fn λ_ _ _ _ _ _ hr nd=>(zm<|yf<|eZ<|zw (k:=0)<|za (XE.ow<|zh (n:=0))<|za (XE.ow<|zh (n:=0))<|za (eZ<|e8 (eX<|e8 (eX<|e8 (zh (n:=0)) xv)<|zh (n:=0)) xv)<|za (eZ<|e8 (eX<|e8 (zh (n:=0)) xv)<|zh (n:=0))<|za (eZ<|e8 (zh (n:=0)) xv) zl)
def nr:List D->Option D:=Ñ ["_law_one","_law_two","_law_some"]
  (Æ (È 2<|λO=>((Ä (λO=>((Ä (eC<|.str "rate A")<|Ä (λO=>((Ä (eC<|.str "name")<|Ä (eC<|.str "A") Å) O).bind λY=>Z<|.tup Y) Å) O).bind λY=>Z<|.tup Y)<|Ä (λO=>((Ä (eC<|.str "ride A B 5")<|Ä (λO=>((Ä (eC<|.str "name")<|Ä (eC<|.str "A") Å) O).bind λY=>Z<|.tup Y) Å) O).bind λY=>Z<|.tup Y)<|Ä (λO=>((Ä (e2 dL (e2 dL (eC<|.str "ride ")<|J 0)<|eC<|.str " B 5")<|Ä (λO=>((Ä (eC<|.str "name")<|Ä (eC<|.str "B") Å) O).bind λY=>Z<|.tup Y) Å) O).bind λY=>Z<|.tup Y) Å) O).bind λY=>Z<|.lst Y)
  (Æ (È 2<|e2 dL (J 2)<|λO=>((Ä (λO=>((Ä (eC<|.str "put A 0 5")<|Ä (λO=>((Ä (eC<|.str "name")<|Ä (eC<|.str "A") Å) O).bind λY=>Z<|.tup Y) Å) O).bind λY=>Z<|.tup Y)<|Ä (λO=>((Ä (e2 dL (e2 dL (eC<|.str "line 1 ")<|J 0)<|eC<|.str " 5 B 3 A 4")<|Ä (λO=>((Ä (eC<|.str "name")<|Ä (eC<|.str "B") Å) O).bind λY=>Z<|.tup Y) Å) O).bind λY=>Z<|.tup Y) Å) O).bind λY=>Z<|.lst Y)
  (Æ (È 2<|e2 dL (J 2)<|λO=>((Ä (λO=>((Ä (eC<|.str "rate ")<|Ä (λO=>((Ä (eC<|.str "name")<|Ä (eC<|.str "") Å) O).bind λY=>Z<|.tup Y) Å) O).bind λY=>Z<|.tup Y)<|Ä (λO=>((Ä (e2 dL (e2 dL (e2 dL (e2 dL (eC<|.str "ride ")<|J 1)<|eC<|.str " ")<|J 0)<|eC<|.str " 0")<|Ä (λO=>((Ä (eC<|.str "stuck")<|Ä (λO=>((Ä (eC<|.int 0)<|Ä (eC<|.int 2) Å) O).bind λY=>Z<|.lst Y) Å) O).bind λY=>Z<|.tup Y) Å) O).bind λY=>Z<|.tup Y) Å) O).bind λY=>Z<|.lst Y)
  (Æ (È 2<|e2 dL (J 2)<|λO=>((Ä (λO=>((Ä (e2 dL (e2 dL (e2 dL (e2 dL (eC<|.str "wait ")<|J 0)<|eC<|.str " ")<|J 1)<|eC<|.str " 1000000001 0")<|Ä (λO=>((Ä (eC<|.str "net")<|Ä (eC<|.int 2) Å) O).bind λY=>Z<|.tup Y) Å) O).bind λY=>Z<|.tup Y)<|Ä (λO=>((Ä (eC<|.str "change 1 1000000001")<|Ä (λO=>((Ä (eC<|.str "net")<|Ä (eC<|.int 1) Å) O).bind λY=>Z<|.tup Y) Å) O).bind λY=>Z<|.tup Y) Å) O).bind λY=>Z<|.lst Y)
  (Æ (È 2<|e2 dL (J 2)<|λO=>((Ä (λO=>((Ä (e2 dL (e2 dL (e2 dL (e2 dL (eC<|.str "back ")<|J 0)<|eC<|.str " ")<|J 1)<|eC<|.str " 5 0")<|Ä (λO=>((Ä (eC<|.str "net")<|Ä (eC<|.int 2) Å) O).bind λY=>Z<|.tup Y) Å) O).bind λY=>Z<|.tup Y)<|Ä (λO=>((Ä (e2 dL (e2 dL (e2 dL (e2 dL (eC<|.str "line 5 ")<|J 0)<|eC<|.str " 1 ")<|J 1)<|eC<|.str " 2")<|Ä (λO=>((Ä (eC<|.str "net")<|Ä (eC<|.int 3) Å) O).bind λY=>Z<|.tup Y) Å) O).bind λY=>Z<|.tup Y) Å) O).bind λY=>Z<|.lst Y)
  (Æ (È 2<|e2 dL (J 2)<|λO=>((Ä (λO=>((Ä (e2 dL (e2 dL (e2 dL (e2 dL (eC<|.str "wait ")<|J 0)<|eC<|.str " ")<|J 0)<|eC<|.str " 3 0")<|Ä (λO=>((Ä (eC<|.str "stuck")<|Ä (λO=>((Ä (eC<|.int 2) Å) O).bind λY=>Z<|.lst Y) Å) O).bind λY=>Z<|.tup Y) Å) O).bind λY=>Z<|.tup Y) Å) O).bind λY=>Z<|.lst Y)
  (Æ (È 2<|e2 dL (J 2)<|λO=>((Ä (λO=>((Ä (eC<|.str "goings")<|Ä (λO=>((Ä (eC<|.str "net")<|Ä (eC .non) Å) O).bind λY=>Z<|.tup Y) Å) O).bind λY=>Z<|.tup Y)<|Ä (λO=>((Ä (e2 dL (e2 dL (e2 dL (eC<|.str "goings ")<|J 0)<|eC<|.str " ")<|J 0)<|Ä (λO=>((Ä (eC<|.str "net")<|Ä (eC .non) Å) O).bind λY=>Z<|.tup Y) Å) O).bind λY=>Z<|.tup Y)<|Ä (λO=>((Ä (eC<|.str "goings A")<|Ä (λO=>((Ä (eC<|.str "net")<|Ä (eC .non) Å) O).bind λY=>Z<|.tup Y) Å) O).bind λY=>Z<|.tup Y) Å) O).bind λY=>Z<|.lst Y)
  (Æ (È 2<|e2 dL (J 2)<|λO=>((Ä (λO=>((Ä (eC<|.str "goings ")<|Ä (λO=>((Ä (eC<|.str "net")<|Ä (eC .non) Å) O).bind λY=>Z<|.tup Y) Å) O).bind λY=>Z<|.tup Y)<|Ä (λO=>((Ä (e2 dL (e2 dL (e2 dL (eC<|.str "goings ")<|J 0)<|eC<|.str "  ")<|J 1)<|Ä (λO=>((Ä (eC<|.str "net")<|Ä (eC .non) Å) O).bind λY=>Z<|.tup Y) Å) O).bind λY=>Z<|.tup Y) Å) O).bind λY=>Z<|.lst Y)
  (Æ (È 2<|e2 dL (J 2)<|λO=>((Ä (λO=>((Ä (eC<|.str "plan 9 0 3")<|Ä (λO=>((Ä (eC<|.str "fit")<|Ä (eC<|.int 0) Å) O).bind λY=>Z<|.tup Y) Å) O).bind λY=>Z<|.tup Y)<|Ä (λO=>((Ä (eC<|.str "plan 9 0 9")<|Ä (λO=>((Ä (eC<|.str "fit")<|Ä (eC<|.int 1) Å) O).bind λY=>Z<|.tup Y) Å) O).bind λY=>Z<|.tup Y)<|Ä (λO=>((Ä (eC<|.str "plan 8 9 0")<|Ä (λO=>((Ä (eC<|.str "fit")<|Ä (eC<|.int 0) Å) O).bind λY=>Z<|.tup Y) Å) O).bind λY=>Z<|.tup Y) Å) O).bind λY=>Z<|.lst Y)
  (É<|e2 dL (J 2)<|λO=>((Ä (λO=>((Ä (e2 dL (e2 dL (e2 dL (e2 dL (eC<|.str "line 1 ")<|J 0)<|eC<|.str " 1 ")<|J 0)<|eC<|.str " 2")<|Ä (λO=>((Ä (eC<|.str "stuck")<|Ä (λO=>((Ä (eC<|.int 2) Å) O).bind λY=>Z<|.lst Y) Å) O).bind λY=>Z<|.tup Y) Å) O).bind λY=>Z<|.tup Y) Å) O).bind λY=>Z<|.lst Y))))))))))
theorem Qz (T:Txt K mg a w):dR P w K mg base fL 1 a.cI a.cJ ["_law_one","_law_two"] (iP K a.ct [0,0] 0 nr) :=
 lf (L:=mO [0,0,0]) T.bq.fn λ_ _ _ _ _ _ hr nd=>(ze (jO nd<|eZ<|zw (k:=0)<|za (eZ<|zu<|za (XE.ow<|zh (n:=0))<|za (eZ<|zu<|za (XE.ow<|zh (n:=0))<|za (XE.ow<|zh (n:=0)) zl) zl)<|za (eZ<|zu<|za (XE.ow<|zh (n:=0))<|za (eZ<|zu<|za (XE.ow<|zh (n:=0))<|za (XE.ow<|zh (n:=0)) zl) zl)<|za (eZ<|zu<|za (eZ<|e8 (eX<|e8 (zh (n:=0)) xv)<|zh (n:=0))<|za (eZ<|zu<|za (XE.ow<|zh (n:=0))<|za (XE.ow<|zh (n:=0)) zl) zl) zl)<|ze (jO nd<|eZ<|e8 xv<|eX<|zw (k:=0)<|za (eZ<|zu<|za (XE.ow<|zh (n:=0))<|za (eZ<|zu<|za (XE.ow<|zh (n:=0))<|za (XE.ow<|zh (n:=0)) zl) zl)<|za (eZ<|zu<|za (eZ<|e8 (eX<|e8 (zh (n:=0)) xv)<|zh (n:=0))<|za (eZ<|zu<|za (XE.ow<|zh (n:=0))<|za (XE.ow<|zh (n:=0)) zl) zl) zl)<|ze (jO nd<|eZ<|e8 xv<|eX<|zw (k:=0)<|za (eZ<|zu<|za (XE.ow<|zh (n:=0))<|za (eZ<|zu<|za (XE.ow<|zh (n:=0))<|za (XE.ow<|zh (n:=0)) zl) zl)<|za (eZ<|zu<|za (eZ<|e8 (eX<|e8 (eX<|e8 (eX<|e8 (zh (n:=0)) xv)<|zh (n:=0)) xv)<|zh (n:=0))<|za (eZ<|zu<|za (XE.ow<|zh (n:=0))<|za (eZ<|zw (k:=0)<|za (XE.ow eR)<|za (XE.ow eR) zl) zl) zl) zl)<|ze (jO nd<|eZ<|e8 xv<|eX<|zw (k:=0)<|za (eZ<|zu<|za (eZ<|e8 (eX<|e8 (eX<|e8 (eX<|e8 (zh (n:=0)) xv)<|zh (n:=0)) xv)<|zh (n:=0))<|za (eZ<|zu<|za (XE.ow<|zh (n:=0))<|za (XE.ow eR) zl) zl)<|za (eZ<|zu<|za (XE.ow<|zh (n:=0))<|za (eZ<|zu<|za (XE.ow<|zh (n:=0))<|za (XE.ow eR) zl) zl) zl)<|ze (jO nd<|eZ<|e8 xv<|eX<|zw (k:=0)<|za (eZ<|zu<|za (eZ<|e8 (eX<|e8 (eX<|e8 (eX<|e8 (zh (n:=0)) xv)<|zh (n:=0)) xv)<|zh (n:=0))<|za (eZ<|zu<|za (XE.ow<|zh (n:=0))<|za (XE.ow eR) zl) zl)<|za (eZ<|zu<|za (eZ<|e8 (eX<|e8 (eX<|e8 (eX<|e8 (zh (n:=0)) xv)<|zh (n:=0)) xv)<|zh (n:=0))<|za (eZ<|zu<|za (XE.ow<|zh (n:=0))<|za (XE.ow eR) zl) zl) zl)<|ze (jO nd<|eZ<|e8 xv<|eX<|zw (k:=0)<|za (eZ<|zu<|za (eZ<|e8 (eX<|e8 (eX<|e8 (eX<|e8 (zh (n:=0)) xv)<|zh (n:=0)) xv)<|zh (n:=0))<|za (eZ<|zu<|za (XE.ow<|zh (n:=0))<|za (eZ<|zw (k:=0)<|za (XE.ow eR) zl) zl) zl) zl)<|ze (jO nd<|eZ<|e8 xv<|eX<|zw (k:=0)<|za (eZ<|zu<|za (XE.ow<|zh (n:=0))<|za (eZ<|zu<|za (XE.ow<|zh (n:=0))<|za (XE.ow qX) zl) zl)<|za (eZ<|zu<|za (eZ<|e8 (eX<|e8 (eX<|e8 (zh (n:=0)) xv)<|zh (n:=0)) xv)<|za (eZ<|zu<|za (XE.ow<|zh (n:=0))<|za (XE.ow qX) zl) zl)<|za (eZ<|zu<|za (XE.ow<|zh (n:=0))<|za (eZ<|zu<|za (XE.ow<|zh (n:=0))<|za (XE.ow qX) zl) zl) zl)<|ze (jO nd<|eZ<|e8 xv<|eX<|zw (k:=0)<|za (eZ<|zu<|za (XE.ow<|zh (n:=0))<|za (eZ<|zu<|za (XE.ow<|zh (n:=0))<|za (XE.ow qX) zl) zl)<|za (eZ<|zu<|za (eZ<|e8 (eX<|e8 (eX<|e8 (zh (n:=0)) xv)<|zh (n:=0)) xv)<|za (eZ<|zu<|za (XE.ow<|zh (n:=0))<|za (XE.ow qX) zl) zl) zl)<|ze (jO nd<|eZ<|e8 xv<|eX<|zw (k:=0)<|za (eZ<|zu<|za (XE.ow<|zh (n:=0))<|za (eZ<|zu<|za (XE.ow<|zh (n:=0))<|za (XE.ow eR) zl) zl)<|za (eZ<|zu<|za (XE.ow<|zh (n:=0))<|za (eZ<|zu<|za (XE.ow<|zh (n:=0))<|za (XE.ow eR) zl) zl)<|za (eZ<|zu<|za (XE.ow<|zh (n:=0))<|za (eZ<|zu<|za (XE.ow<|zh (n:=0))<|za (XE.ow eR) zl) zl) zl)<|zm<|yf<|eZ<|e8 xv<|eX<|zw (k:=0)<|za (eZ<|zu<|za (eZ<|e8 (eX<|e8 (eX<|e8 (eX<|e8 (zh (n:=0)) xv)<|zh (n:=0)) xv)<|zh (n:=0))<|za (eZ<|zu<|za (XE.ow<|zh (n:=0))<|za (eZ<|zw (k:=0)<|za (XE.ow eR) zl) zl) zl) zl)
def tW:List D->Option D:=Ñ ["_law_one","_law_two","_law_some"]
  (Æ (È 2<|λO=>((Ä (λO=>((Ä (e2 dL (eC<|.str "spare A ")<|J 1)<|Ä (λO=>((Ä (eC<|.str "name")<|Ä (eC<|.str "A") Å) O).bind λY=>Z<|.tup Y) Å) O).bind λY=>Z<|.tup Y)<|Ä (λO=>((Ä (e2 dL (e2 dL (eC<|.str "spare ")<|J 0)<|eC<|.str " A")<|Ä (λO=>((Ä (eC<|.str "name")<|Ä (eC<|.str "A") Å) O).bind λY=>Z<|.tup Y) Å) O).bind λY=>Z<|.tup Y)<|Ä (λO=>((Ä (eC<|.str "give A 5")<|Ä (λO=>((Ä (eC<|.str "name")<|Ä (eC<|.str "A") Å) O).bind λY=>Z<|.tup Y) Å) O).bind λY=>Z<|.tup Y) Å) O).bind λY=>Z<|.lst Y)
  (É<|e2 dL (J 2)<|λO=>((Ä (λO=>((Ä (eC<|.str "spare B A")<|Ä (λO=>((Ä (eC<|.str "name")<|Ä (eC<|.str "B") Å) O).bind λY=>Z<|.tup Y) Å) O).bind λY=>Z<|.tup Y)<|Ä (λO=>((Ä (eC<|.str "give  5")<|Ä (λO=>((Ä (eC<|.str "name")<|Ä (eC<|.str "") Å) O).bind λY=>Z<|.tup Y) Å) O).bind λY=>Z<|.tup Y) Å) O).bind λY=>Z<|.lst Y))
theorem Yh (T:Txt K mg a w):dR P w K mg base fL 1 a.cK a.cL ["_law_one","_law_two"] (iP K a.ct [0,0] 0 tW) :=
 lf (L:=mO [0,0,0]) T.br.fn λ_ _ _ _ _ _ hr nd=>(ze (jO nd<|eZ<|zw (k:=0)<|za (eZ<|zu<|za (eZ<|e8 (zh (n:=0)) xv)<|za (eZ<|zu<|za (XE.ow<|zh (n:=0))<|za (XE.ow<|zh (n:=0)) zl) zl)<|za (eZ<|zu<|za (eZ<|e8 (eX<|e8 (zh (n:=0)) xv)<|zh (n:=0))<|za (eZ<|zu<|za (XE.ow<|zh (n:=0))<|za (XE.ow<|zh (n:=0)) zl) zl)<|za (eZ<|zu<|za (XE.ow<|zh (n:=0))<|za (eZ<|zu<|za (XE.ow<|zh (n:=0))<|za (XE.ow<|zh (n:=0)) zl) zl) zl)<|zm<|yf<|eZ<|e8 xv<|eX<|zw (k:=0)<|za (eZ<|zu<|za (XE.ow<|zh (n:=0))<|za (eZ<|zu<|za (XE.ow<|zh (n:=0))<|za (XE.ow<|zh (n:=0)) zl) zl)<|za (eZ<|zu<|za (XE.ow<|zh (n:=0))<|za (eZ<|zu<|za (XE.ow<|zh (n:=0))<|za (XE.ow<|zh (n:=0)) zl) zl) zl)
def lD:List D->Option D:=Ñ ["_law_what","_law_more"]
  (Æ (Ó (tb<|e2 (jQ Ã) (e2 gK (J 0)<|eC<|.int 0)<|eC<|.str "row") (É<|λO=>((Ä (eC<|.str "row")<|Ä (e2 dL (e2 gK (J 0)<|eC<|.int 1)<|J 1) Å) O).bind λY=>Z<|.tup Y) Ë)
  (É<|J 0))
theorem Qx (T:Txt K mg a w):dR P w K mg base fL 1 a.cM a.cN ["_law_what","_law_more"] (iP K a.ct [0,0] 0 lD) :=
 lf (L:=mO [0,0]) T.bs.fn λ_ _ _ _ _ _ hr nd=>(ze (nX (wY hr (jA xv eR)<|zh (n:=0))<|yf<|eZ<|zu<|za (XE.ow<|zh (n:=0))<|za (eZ<|e8 (jA xv eR) xv) zl)<|zm<|kO xv)
def nJ:EF:=(fY (Ú<|J 1) 2 [] (gT<|Í (gV 0)<|Í (gV 1) Ò) gY<|λO=>((Ä (J 0)<|Ä (cl lD<|Ä (J 1)<|Ä (eC<|.int 2) Å) Å) O).bind λY=>Z<|.tup Y)
def nL:EF:=(fY (Ú<|J 1) 2 [] (gT<|Í (gV 0)<|Í (gV 1) Ò) gY<|λO=>((Ä (J 0)<|Ä (cl lD<|Ä (J 1)<|Ä (eC<|.int 1) Å) Å) O).bind λY=>Z<|.tup Y)
def nE:SF:=(Ó (tb<|J 4) (Æ (wV (yG ln (mE 0 6 "say" (Ä (eC<|.str "late 3") Å) eS)<|e2 gK (J 3) dl) ds Ë)
  (È 1 nJ))<|È 1 nL)
def kl:SF:=(Æ (ì (gT<|Í (gV 6)<|Í (gV 7) Ò)<|e2 gK (J 1)<|e2 lR (e2 dL (J 2)<|e2 ki (J 5)<|e2 dL dl<|e2 lR (J 2)<|eC<|.int 7)<|eN iE<|Ä (J 1) Å)
  (Æ (wV (Gb (mT<|tb<|e2 ln (cl iA<|Ä (J 0)<|Ä (J 6) Å)<|J 7)<|yG ln (mE 0 6 "say" (Ä (eC<|.str "show") Å) eS)<|e2 gK (J 3) db) ds Ë)
  nE))
def li:List D->Option D:=á 0 ["_law_desk","_law_some","_law_start","_law_shown_now","_law_asked","_law_k","_law_row","_law_due"]
  (Ö (Õ (λO=>((Ä (eC<|.int 8) Å) O).bind o6) (gV 5) kl)
  (à<|eC<|.bl Â))
theorem jq (T:Txt K mg a w):dR P w K mg base fL 10 a.cO a.cP ["_law_desk","_law_some","_law_start","_law_shown_now","_law_asked"] (uN K a.ct 0 4 li):=by refine xk (n:=0) (m:=4) (L:=mO [0,0,0]) T.bt.fn yw rfl rfl λxa gH A outer s H E hr=>?_;exact(y2 (xF (yu (n:=0) T.cG<|zc eR zj) (p0 yw.nd)<|ze (SW (jA xv<|ã (eX<|e8 xv<|t5 xv<|eX<|e8 eR<|ã xv eR)<|oR T.cD<|zc xv zj)<|GM (n:=0) rfl<|yj (p0 yw.nd)<|yj (p0 yw.nd) uo)<|ze (Hx (FF.t<|S8 (Ŗ<|GB hr (xc T.bm (ua T) hr<|zc xv<|zc xv zj) xv)<|Sk<|JJ (k:=0) (j6 hr.u64) ud (jv (i:=0) (c0:=6) (rF rfl) T.h.cl T.bh (xm T) hr (yy uf)<|yn (zh (n:=0)) wt) (jA xv eR)<|hV _) (zm<|kO<|xo (n:=0)) yq)<|zm<|Fy (y0 xv) (ze (Hx (JJ (k:=0) (j6 hr.u64) ud (jv (i:=0) (c0:=6) (rF rfl) T.h.cl T.bh (xm T) hr (yy uf)<|yn (zh (n:=0)) wt) (jA xv eR)<|hV _) (zm<|kO<|xo (n:=0)) yq)<|zm<|N2 (k:=0) (N:=["_law_other","_law_what"]) (om:=mO [0,0]) (cap:=[]) (own:=2) rfl yw.nd rfl (Or.inl rfl) (Hv<|by rfl) rfl rfl (λ_ h=>nomatch h) (yk (n:=0) xv) (λ_ _ _ _ _=>(Hq (n:=0) rfl<|yr (nO<|show ma (["_law_other","_law_what"]:List Str)from by decide +kernel)<|yr (nO<|show ma (["_law_other","_law_what"]:List Str)from by decide +kernel) ja)) (λ_ _ _ _ _=>yh)<|λ_ _ _ _ _=>(eZ<|zu<|za (XE.ow xv)<|za (jU T.bs (Qx T) hr<|zc xv<|zc eR zj) zl))<|zm<|N2 (k:=0) (N:=["_law_other","_law_what"]) (om:=mO [0,0]) (cap:=[]) (own:=2) rfl yw.nd rfl (Or.inl rfl) (Hv<|by rfl) rfl rfl (λ_ h=>nomatch h) (yk (n:=0) xv) (λ_ _ _ _ _=>(Hq (n:=0) rfl<|yr (nO<|show ma (["_law_other","_law_what"]:List Str)from by decide +kernel)<|yr (nO<|show ma (["_law_other","_law_what"]:List Str)from by decide +kernel) ja)) (λ_ _ _ _ _=>yh)<|λ_ _ _ _ _=>(eZ<|zu<|za (XE.ow xv)<|za (jU T.bs (Qx T) hr<|zc xv<|zc eR zj) zl))<|jf<|xo (n:=0))
def AB:EF:=(fY (Ú<|J 0) 1 [1] (gV 0) gY<|λO=>((Ä (J 0)<|Ä (λO=>((Ä (eC<|.str "row")<|Ä (J 1) Å) O).bind λY=>Z<|.tup Y) Å) O).bind λY=>Z<|.tup Y)
def qM:List D->Option D:=Ñ ["_law_rows","_law_count"]
  (É AB)
theorem Oa (T:Txt K mg a w):dR P w K mg base fL 1 a.cQ a.cR ["_law_rows","_law_count"] (iP K a.ct [0,0] 0 qM) :=
 lf (L:=mO [0,0]) T.bu.fn λ_ _ _ _ _ _ hr nd=>(zm<|yf<|eZ<|yV (N:=["_law_row","_law_count"]) (om:=mO [0]) (cap:=[1]) (own:=1) (yk (n:=0) xv) (λ_ _ _ _ _ h=>(nO h)) (λ_ _ _ _ _=>yh)<|λ_ _ _ _ _=>(eZ<|zu<|za (XE.ow xv)<|za (eZ<|zu<|za (XE.ow<|zh (n:=0))<|za (XE.ow xv) zl) zl))
def AS:SF:=(Æ (wV (CK<|mB<|rX 3 (Ä (J 4)<|Ä (cl iN<|Ä (cl gF<|Ä (J 0)<|Ä (eC<|.int 3) Å)<|Ä (eC<|.int 1) Å)<|Ä (λO=>((Ä (J 9)<|Ä (J 10) Å) O).bind λY=>Z<|.tup Y)<|Ä (eC<|.bl Â) Å) li) (É<|eC<|.bl Ã) Ë)
  (λO=>((A6 (λO=>((mE 3 6 "say" (Ä (e2 dL (e2 dL (e2 dL (eC<|.str "spare ")<|J 1)<|eC<|.str " ")<|J 2) Å) eS) O).bind λr=>((eC<|.str "1") r.2).bind λy=>((jQ Ã) r.1 y).bind λd=>Z (d,r.2))<|D3<|e2 (jQ Ã) (cl iA<|Ä (J 3)<|Ä (eC<|.str "cut 2") Å)<|λO=>((Ä (eC<|.str "row")<|Ä (eC<|.int 31) Å) O).bind λY=>Z<|.tup Y) O).bind λr=>Z<|.rt r.1))
def AT:SF:=(Æ (È 4<|e2 dL (e2 dL (cl qM<|Ä (e2 dL (cl ke<|Ä (J 1)<|Ä (J 2) Å)<|cl kd<|Ä (J 1)<|Ä (J 2) Å)<|Ä (eC<|.int 14) Å)<|cl nr<|Ä (J 1)<|Ä (J 2) Å)<|cl tW<|Ä (J 1)<|Ä (J 2) Å)
  AS)
def AU:SF:=(Æ (wV (CK<|mB<|rX 3 (Ä (J 4)<|Ä (cl iN<|Ä (cl gF<|Ä (J 0)<|Ä (eC<|.int 2) Å)<|Ä (eC<|.int 1) Å)<|Ä (λO=>((Ä (J 9)<|Ä (eC<|.str "") Å) O).bind λY=>Z<|.tup Y)<|Ä (eC<|.bl Ã) Å) li) (É<|eC<|.bl Ã) Ë)
  (Æ (wV (Gb (yG (jQ Â) (mE 3 6 "say" (Ä (eC<|.str "plan 10 0 5") Å) eS)<|eC<|.str "ok")<|yG (jQ Â) (mE 3 6 "say" (Ä (e2 dL (e2 dL (eC<|.str "put ")<|J 1)<|eC<|.str " 0 3") Å) eS)<|eC<|.str "ok") (É<|eC<|.bl Ã) Ë)
  (Æ (æ 10<|mE 3 6 "say" (Ä (eC<|.str "late 3") Å) eS)
  AT)))
def DO:SF:=(Æ (È 4<|cl qM<|Ä (e2 dL (e2 dL (cl ke<|Ä (J 1)<|Ä (J 2) Å)<|cl kd<|Ä (J 1)<|Ä (J 2) Å)<|cl i7<|Ä (J 1)<|Ä (J 2) Å)<|Ä (eC<|.int 3) Å)
  (Æ (È 4<|e2 dL (e2 dL (J 4)<|cl nr<|Ä (J 1)<|Ä (J 2) Å)<|cl qM<|Ä (λO=>((Ä (eC .non)<|Ä (eC<|.int 5) Å) O).bind λY=>Z<|.lst Y)<|Ä (eC<|.int 3) Å)
  AU))
def AV:SF:=(Æ (È 9<|e2 se (eC<|.str "\n")<|J 7)
  DO)
def DN:SF:=(wV (yG ln (mE 3 6 "say" (Ä (J 8) Å) eS)<|eC<|.str "ok") ds Ë)
def wF:SF:=(Æ (Õ (Ú<|J 7) (gV 8) DN)
  AV)
def AW:SF:=(Æ (È 7<|λO=>((Ä (e2 dL (e2 dL (e2 dL (eC<|.str "goings ")<|J 1)<|eC<|.str " ")<|J 2)<|Ä (e2 dL (e2 dL (e2 dL (e2 dL (eC<|.str "wait ")<|J 1)<|eC<|.str " ")<|J 2)<|eC<|.str " 4 0")<|Ä (e2 dL (e2 dL (e2 dL (e2 dL (eC<|.str "back ")<|J 2)<|eC<|.str " ")<|J 1)<|eC<|.str " 4 1") Å) O).bind λY=>Z<|.lst Y)
  wF)
def wC:SF:=(Ó (tb<|e2 (jQ Â) (cl iA<|Ä (J 3)<|Ä (e2 gK (J 4)<|e2 lR (e2 dL (J 5)<|e2 ki (eC<|.int 17)<|J 6)<|eN iE<|Ä (J 4) Å) Å)<|λO=>((Ä (eC<|.str "row")<|Ä (eC<|.int 0) Å) O).bind λY=>Z<|.tup Y) (É<|eC<|.bl Ã) Ë)
def DP:SF:=(Æ (È 5<|cl iN<|Ä (cl gF<|Ä (J 0)<|Ä (eC<|.int 1) Å)<|Ä (eC<|.int 1) Å)
  (Æ (Õ (λO=>((Ä (eC<|.int 6) Å) O).bind o6) (gV 6) wC)
  (Æ (Ó (tb<|e2 (jQ Â) (cl iA<|Ä (J 3)<|Ä (e2 gK (λO=>((Ä (eC .non)<|Ä (eC<|.int 5)<|Ä (eC<|.bl Â)<|Ä (λO=>((Ä (eC<|.str "show") Å) O).bind λY=>Z<|.lst Y) Å) O).bind λY=>Z<|.lst Y)<|e2 lR (J 5)<|eC<|.int 4) Å)<|λO=>((Ä (eC<|.str "row")<|Ä (eC<|.int 0) Å) O).bind λY=>Z<|.tup Y) (É<|eC<|.bl Ã) Ë)
  AW)))
def DR:SF:=(Æ (È 3<|λ_=>pB 6 [])
  (Æ (È 4<|e2 dL (e2 dL (e2 dL (cl ke<|Ä (J 1)<|Ä (J 2) Å)<|cl kd<|Ä (J 1)<|Ä (J 2) Å)<|cl i7<|Ä (J 1)<|Ä (J 2) Å)<|λO=>((Ä (eC<|.str "show")<|Ä (eC<|.str "run 5")<|Ä (eC<|.str "cut 0") Å) O).bind λY=>Z<|.lst Y)
  DP))
def E3:List D->Option D:=Ñ ["_law_script","_law_one","_law_two","_law_desk","_law_some","_law_first","_law_k","_law_rows","_law_row","_law_net","_law_told"]
  (Æ (ì (gL<|Í (gV 1)<|Í (gV 2) Ò)<|cl lE<|Ä (cl gF<|Ä (J 0)<|Ä db Å)<|Ä (eC<|.int 2) Å)
  DR)
theorem œ (T:Txt K mg a w):dR P w K mg base fL 11 a.cS a.cT ["_law_script"] (iP K a.ct [0] 0 E3) :=
 lf (L:=mO [0,0,0,1,0,0,0,0,0,0,0]) T.bv.fn λ_ _ _ _ _ _ hr nd=>(ze (SW (xc T.bk (Xm T) hr<|zc (xc T.bi (x9 T) hr<|zc xv<|zc eR zj)<|zc eR zj)<|ź (n:=0) rfl<|yj (p0 nd)<|yj (p0 nd) uo)<|ze (jO nd<|zpb (c0:=6) T.h T.bg (WQ T) hr)<|ze (jO nd<|eZ<|e8 (eX<|e8 (eX<|e8 (xc T.bn (vm T) hr<|zc xv<|zc xv zj)<|xc T.bo (vn T) hr<|zc xv<|zc xv zj)<|xc T.bp (w8 T) hr<|zc xv<|zc xv zj)<|eX<|zw (k:=0)<|za (XE.ow<|zh (n:=0))<|za (XE.ow<|zh (n:=0))<|za (XE.ow<|zh (n:=0)) zl)<|ze (jO nd<|jU T.bj (u1 T) hr<|zc (xc T.bi (x9 T) hr<|zc xv<|zc eR zj)<|zc eR zj)<|ze (xF (yu (n:=0) T.cG<|zc eR zj) (p0 nd)<|zm<|nX (GB hr (xc T.bm (ua T) hr<|zc xv<|zc (jA xv<|ã (eX<|e8 xv<|t5 eR xv)<|oR T.cD<|zc xv zj) zj)<|eX<|zu<|za (XE.ow<|zh (n:=0))<|za (XE.ow eR) zl)<|kO<|xo (n:=0))<|ze (nX (GB hr (xc T.bm (ua T) hr<|zc xv<|zc (jA (eX<|zw (k:=0)<|za (XE.ow qX)<|za (XE.ow eR)<|za (XE.ow<|xo (n:=0))<|za (eZ<|zw (k:=0)<|za (XE.ow<|zh (n:=0)) zl) zl)<|ã xv eR) zj)<|eX<|zu<|za (XE.ow<|zh (n:=0))<|za (XE.ow eR) zl)<|kO<|xo (n:=0))<|ze (jO nd<|eZ<|zw (k:=0)<|za (eZ<|e8 (eX<|e8 (eX<|e8 (zh (n:=0)) xv)<|zh (n:=0)) xv)<|za (eZ<|e8 (eX<|e8 (eX<|e8 (eX<|e8 (zh (n:=0)) xv)<|zh (n:=0)) xv)<|zh (n:=0))<|za (eZ<|e8 (eX<|e8 (eX<|e8 (eX<|e8 (zh (n:=0)) xv)<|zh (n:=0)) xv)<|zh (n:=0)) zl)<|ze (xF (uq xv) (p0 nd)<|zm<|Hx (JJ (k:=0) (j6 hr.u64) ud (jv (i:=3) (c0:=6) (An rfl) T.h.cl T.bh (xm T) hr (yy uf)<|yn xv wt) (zh (n:=0))<|hV _) (zm<|kO<|xo (n:=0)) yq)<|ze (p4 nd<|ju (k:=0) (zh (n:=0)) xv)<|ze (jO nd<|jU T.bu (Oa T) hr<|zc (eX<|e8 (eX<|e8 (xc T.bn (vm T) hr<|zc xv<|zc xv zj)<|xc T.bo (vn T) hr<|zc xv<|zc xv zj)<|xc T.bp (w8 T) hr<|zc xv<|zc xv zj)<|zc eR zj)<|ze (jO nd<|eZ<|e8 (eX<|e8 xv<|xc T.bq (Qz T) hr<|zc xv<|zc xv zj)<|xc T.bu (Oa T) hr<|zc (eX<|zw (k:=0)<|za (XE.ow qX)<|za (XE.ow eR) zl)<|zc eR zj)<|ze (Hx (SG<|SH<|Oh (i:=3) (An rfl) T.bt (jq T) hr (yy<|yy<|yy<|yy uf)<|yn xv<|yn (xc T.bj (u1 T) hr<|zc (xc T.bi (x9 T) hr<|zc xv<|zc eR zj)<|zc eR zj)<|yn (eX<|zu<|za (XE.ow xv)<|za (XE.ow<|zh (n:=0)) zl)<|yn (xo (n:=0)) wt) (zm<|kO<|xo (n:=0)) yq)<|ze (Hx (FF.t<|S8 (JJ (k:=0) (j6 hr.u64) ud (jv (i:=3) (c0:=6) (An rfl) T.h.cl T.bh (xm T) hr (yy uf)<|yn (zh (n:=0)) wt) (zh (n:=0))<|hV _)<|Sk<|JJ (k:=0) (j6 hr.u64) ud (jv (i:=3) (c0:=6) (An rfl) T.h.cl T.bh (xm T) hr (yy uf)<|yn (eX<|e8 (eX<|e8 (zh (n:=0)) xv)<|zh (n:=0)) wt) (zh (n:=0))<|hV _) (zm<|kO<|xo (n:=0)) yq)<|ze (SA rfl nd rfl (Or.inl rfl)<|jv (i:=3) (c0:=6) (An rfl) T.h.cl T.bh (xm T) hr (yy uf)<|yn (zh (n:=0)) wt)<|ze (jO nd<|eZ<|e8 (eX<|e8 (xc T.bu (Oa T) hr<|zc (eX<|e8 (xc T.bn (vm T) hr<|zc xv<|zc xv zj)<|xc T.bo (vn T) hr<|zc xv<|zc xv zj)<|zc eR zj)<|xc T.bq (Qz T) hr<|zc xv<|zc xv zj)<|xc T.br (Yh T) hr<|zc xv<|zc xv zj)<|ze (Hx (SG<|SH<|Oh (i:=3) (An rfl) T.bt (jq T) hr (yy<|yy<|yy<|yy uf)<|yn xv<|yn (xc T.bj (u1 T) hr<|zc (xc T.bi (x9 T) hr<|zc xv<|zc eR zj)<|zc eR zj)<|yn (eX<|zu<|za (XE.ow xv)<|za (XE.ow xv) zl)<|yn (xo (n:=0)) wt) (zm<|kO<|xo (n:=0)) yq)<|zm<|Ϛ<|ŕ (ϛ (OS hr.u64) ud (jv (i:=3) (c0:=6) (An rfl) T.h.cl T.bh (xm T) hr (yy uf)<|yn (eX<|e8 (eX<|e8 (eX<|e8 (zh (n:=0)) xv)<|zh (n:=0)) xv) wt) (zh (n:=0))<|hV _)<|ľ<|Ċ hr (xc T.bm (ua T) hr<|zc xv<|zc (zh (n:=0)) zj)<|eX<|zu<|za (XE.ow<|zh (n:=0))<|za (XE.ow eR) zl)
end
local macro_rules| `(tactic|walk_at "mid")=>`(tactic|simp -implicitDefEqProofs [cl,Ñ,á,Ö,à,æ,Ø,Î,Æ,Ó,È,É,õ,ç,ă,ì,â,Õ,Ú,Ė,Ë,eC,e1,e2,eN,Å,Ä,ï,Ý,wq,tb,Ĕ,Ô,Ù,ä,eB,ø,gV,gT,Í,Ò,ğ,Ğ,Ď,Ę,ĉ,ė,ď,Ĝ,ĝ,ě,į,Į,D.isN,D.isB,ĕ,ē,qk,wm,je,Ĉ,ġ,Ġ,Đ,wq,ģ,Ģ,þ,Ě,ę, *])
local macro_rules| `(tactic|walk_at "mie")=>`(tactic|simp -implicitDefEqProofs [cl,Ñ,á,Ö,à,æ,Ø,Î,Æ,Ó,È,É,õ,ç,ă,ì,â,Õ,Ú,Ė,Ë,eC,e1,e2,eN,Å,Ä,ï,Ý,wq,tb,Ĕ,Ô,Ù,ä,eB,ø,gV,gT,Í,Ò,ğ,Ğ,Ď,Ę,ĉ,ė,ď,Ĝ,ĝ,ě,ĕ,ē,qk,wm,je,Ĉ,ġ,Ġ,Đ,wq,ģ,Ģ,þ,Ě,ę, *])
variable {α:Type}
theorem Ϯ {fi:L3.Env->Option (List D)}{own:Nat}{cap:List Nat}{g:D->L3.Env->Option L3.Env}{p:BF}{f:EF}{r:L3.Env}(enc:α->D)(q:α->Bool)(h:α->D)(xs:List α)(hi:fi r=Z (xs.map enc))(hl:xs.length<=16777216)
  (st:∀x∈xs,∃ρ1,g (enc x) (dg own S++rY r cap)=Z ρ1/\p ρ1=Z (q x)/\(q x=Â->f ρ1=Z (h x))):fY fi own cap g p f r=l9 ((xs.filter q).map h):=by
 unfold fY;rw[hi];simp only[gD,dY];rw[if_pos hl,Rk enc q h xs st];rfl
theorem KW {fi:L3.Env->Option (List D)}{own:Nat}{cap:List Nat}{g:D->L3.Env->Option L3.Env}{f:EF}{r:L3.Env}(enc:α->D)(h:α->D)(xs:List α)(hi:fi r=Z (xs.map enc))(hl:xs.length<=16777216)
  (st:∀x∈xs,∃ρ1,g (enc x) (dg own S++rY r cap)=Z ρ1/\f ρ1=Z (h x)):fY fi own cap g gY f r=l9 (xs.map h):=by
 have:=Ϯ (p:=gY) enc (λ_=>Â) h xs hi hl λx hx=>by obtain⟨ρ1,h1,h2⟩:=st x hx;exact⟨ρ1,h1,rfl,λ_=>h2⟩
 rw[this,List.filter_eq_self.mpr λ_ _=>rfl]
inductive Kd where
 |ride|wait|back
deriving DecidableEq
structure TQ where
 c:Kd
 s:Nat
 g:Nat
 t:Int
 b:Nat
noncomputable def Kd.n:Kd->Nat
 |.ride=>1|.wait=>2|.back=>3
def iX (a:TQ):D:=.obj a.c.n ["start","goal","time","behind"] [.int a.s,.int a.g,.int a.t,.int a.b]
theorem Rg {α:Type}(f:α->Bool):∀xs:List α,oo (xs.map λx=>D.bl<|f x)=Z (xs.map f)
 |[]=>rfl
 |x::xs=>by show(oo<|xs.map λx=>D.bl<|f x).bind _=_;rw[Rg f xs];rfl
theorem all_map (f:α->Bool)(xs:List α):wB [.lst<|xs.map λx=>D.bl<|f x]=Z (.bl<|xs.all f):=by show(oo _).bind _=_;rw[Rg];show Z (D.bl<|(xs.map f).all id)=_;rw[List.all_map];rfl
noncomputable def fU (ws:List Str):D:=.lst<|ws.map D.str
theorem S9 {b:Nat}:∀{ys:List Str},(∀y∈ys,y.length<=b)->(ys.map (·.length)).sum<=ys.length*b
 |[],_=>by simp
 |y::ys,h=>by have h1:=h y cV;have h2:=S9 (b:=b) (ys:=ys) λz hz=>h z<|df _ hz;rw[dJ,EC,dw,zJ];lia
theorem RT (sp:Str):∀ys:List Str,(Str.join sp ys).length<=(ys.map (·.length)).sum+ys.length*sp.length
 |[]=>by unfold Str.join;exact gQ _
 |[y]=>by unfold Str.join;simp
 |y::z::ys=>by have ih:=RT sp (z::ys);unfold Str.join;rw[Sv,Sv];simp only[dJ,EC,dw]at ih ⊢;rw[zJ];lia
variable {w:Str}
noncomputable def nM (c:Nat):Str:=⟨#[c]⟩
theorem ļ:(" ":Str)=nM 32:=by decide +kernel
def B5 (c:Nat)(w:Str):Prop:=c∉w.cps.toList
theorem Ta {c:Nat}:∀{a b X Y':List Nat},c∉a->c∉b->a++c::X=b++c::Y'->a=b/\X=Y'
 |[],[],X,Y',_,_,h=>by simpa using h
 |[],y::b,X,Y',_,hb,h=>by
  have:c=y:=by simpa using(List.cons.inj h).1
  exact absurd (by rw[this];exact cV) hb
 |x::a,[],X,Y',ha,_,h=>by
  have:x=c:=by simpa using(List.cons.inj h).1
  exact absurd (by rw[this];exact cV) ha
 |x::a,y::b,X,Y',ha,hb,h=>by obtain⟨e,h2⟩:=List.cons.inj h;subst e;obtain⟨e1,e2⟩:=Ta (λz=>ha<|df _ z) (λz=>hb<|df _ z) h2;exact⟨by rw[e1],e2⟩
theorem Lb {x y:Str}(h:x.cps.toList=y.cps.toList):x=y:=by obtain⟨a⟩:=x;obtain⟨b⟩:=y;exact congrArg Str.mk<|rO.mp h
theorem wp (x y:Str):(x++y).cps.toList=x.cps.toList++y.cps.toList:=by show(x.cps++y.cps).toList=_;simp
theorem join_list (c:Nat)(a b:Str)(r:List Str):(Str.join (nM c) (a::b::r)).cps.toList=a.cps.toList++c::(Str.join (nM c) (b::r)).cps.toList:=by rw[show Str.join (nM c) (a::b::r)=a++nM c++Str.join (nM c) (b::r)from rfl,wp,wp];simp[nM]
theorem RU {c:Nat}:∀{ws us:List Str},ws≠[]->us≠[]->(∀w∈ws,B5 c w)->(∀w∈us,B5 c w)->Str.join (nM c) ws=Str.join (nM c) us->ws=us
 |[],_,h,_,_,_,_=>absurd rfl h
 |_::_,[],_,h,_,_,_=>absurd rfl h
 |[a],[b],_,_,_,_,h=>by have h:a=b:=h;rw[h]
 |[a],b::b'::r,_,_,ha,_,h=>by have e:=congrArg (λx:Str=>x.cps.toList) h;rw[join_list]at e;have e:a.cps.toList=_:=e;exact absurd (by rw[e];simp)<|ha a cV
 |a::a'::r,[b],_,_,_,hb,h=>by have e:=congrArg (λx:Str=>x.cps.toList) h;rw[join_list]at e;have e:_=b.cps.toList:=e;exact absurd (by rw[←e];simp)<|hb b cV
 |a::a'::r,b::b'::r',_,_,ha,hb,h=>by have e:=congrArg (λx:Str=>x.cps.toList) h;rw[join_list,join_list]at e;obtain⟨e1,e2⟩:=Ta (ha a cV) (hb b cV) e;have:=RU (ws:=a'::r) (us:=b'::r') (by simp) (by simp) (λw hw=>ha w<|df _ hw) (λw hw=>hb w<|df _ hw)<|Lb e2;rw[Lb e1,this]
theorem zpn (x y:Str):Txt.split x y≠[]:=by
 unfold Txt.split;split
 ·simp
 ·split
  ·simp
  ·intro h;have:=congrArg List.length h;rw[PyProof.Rows.len_partsBetween]at this;simp at this
theorem YL {c:Nat}{ws:List Str}(h:ws≠[])(hf:∀w∈ws,B5 c w):Txt.split (Str.join (nM c) ws) (nM c)=ws :=
 RU (zpn _ _) h (StrLaws.split_free _ c) hf (StrLaws.join_split _ _)
theorem ϭ {c:Nat}{ws:List Str}{b:Nat}(h:ws≠[])(hf:∀w∈ws,B5 c w)(hb:∀w∈ws,w.length<=b)(hz:ws.length*b+ws.length<=16777216):oI (.str<|Str.join (nM c) ws) (.str<|nM c)=Z (fU ws):=by
 show(if _ then _ else _)=_;rw[YL h hf,if_pos]
 ·rfl
 ·refine⟨rfl,?_,by lia⟩;have h1:=RT (nM c) ws;have h2:=S9 hb;have:(nM c).length=1:=rfl;rw[this,Nat.mul_one]at h1;lia
theorem Ϭ {c:Nat}{x y:Str}(hx:B5 c x)(hy:B5 c y):B5 c (x++y):=by
 unfold B5;rw[wp];intro z;rcases dD.mp z with z|z
 ·exact hx z
 ·exact hy z
theorem LA (a c:Nat):BH (.str<|nM a) (.str<|nM c)=Z (.bl<|decide<|a<=c):=by
 show Z (D.bl<|!(decide<|[c] < [a]))=_;have:decide (([c]:List Nat) < [a])=decide (c<a):=by
  by_cases h:c<a
  ·rw[decide_eq_true h];exact decide_eq_true<|show([c]:List Nat) < [a]from List.Lex.rel h
  ·rw[decide_eq_false h,decide_eq_false];intro z;cases z with
   |rel q=>exact h q
   |cons q=>cases q
 rw[this];by_cases h:c<a
 ·rw[decide_eq_true h,decide_eq_false<|by lia];rfl
 ·rw[decide_eq_false h,decide_eq_true<|by lia];rfl
theorem RV (c:Nat):lB [.str<|nM c]=Z (.bl<|decide<|97<=c/\c<=122):=by
 have h1:=LA 97 c;have h2:=LA c 122;have e1:("a":Str)=nM 97:=by decide +kernel
 have e2:("z":Str)=nM 122:=by decide +kernel
 unfold lB;rw[e1,e2];by_cases k1:97<=c
 ·by_cases k2:c<=122
  ·rw[decide_eq_true ⟨k1,k2⟩];rw[decide_eq_true k1]at h1;rw[decide_eq_true k2]at h2;clear e1 e2 k1 k2;walk_at "mid"
  ·rw[decide_eq_false λz=>k2 z.2];rw[decide_eq_true k1]at h1;rw[decide_eq_false k2]at h2;clear e1 e2 k1 k2;walk_at "mid"
 ·rw[decide_eq_false λz=>k1 z.1];rw[decide_eq_false k1]at h1;clear e1 e2 k1 h2;walk_at "mid"
theorem RW (c:Nat):lA [.str<|nM c]=Z (.bl<|decide<|48<=c/\c<=57):=by
 have h1:=LA 48 c;have h2:=LA c 57;have e1:("0":Str)=nM 48:=by decide +kernel
 have e2:("9":Str)=nM 57:=by decide +kernel
 unfold lA;rw[e1,e2];by_cases k1:48<=c
 ·by_cases k2:c<=57
  ·rw[decide_eq_true ⟨k1,k2⟩];rw[decide_eq_true k1]at h1;rw[decide_eq_true k2]at h2;clear e1 e2 k1 k2;walk_at "mid"
  ·rw[decide_eq_false λz=>k2 z.2];rw[decide_eq_true k1]at h1;rw[decide_eq_false k2]at h2;clear e1 e2 k1 k2;walk_at "mid"
 ·rw[decide_eq_false λz=>k1 z.1];rw[decide_eq_false k1]at h1;clear e1 e2 k1 h2;walk_at "mid"
noncomputable def Ga (c:Nat):Bool:=decide<|97<=c/\c<=122
noncomputable def EO (c:Nat):Bool:=decide<|48<=c/\c<=57
theorem xy (w:Str):w.cps.toList.length=w.length:=gu
theorem RX {x:Str}(h:x.length<=16777216):iE [.str x]=gX (x.length:Int):=by show(if x.length<=16777216 then Z (D.int x.length)else S)=_;rw[if_pos h]
theorem Ax {c:Nat}{r:List Nat}(h:w.cps.toList=c::r)(hl:w.length<=100):gK (.str w) (.int 0)=Z (.str<|nM c):=by show(if w.length<=16777216 then(atI w.cps.toList 0).bind λc=>Z (D.str ⟨#[c]⟩)else S)=_;rw[if_pos<|by lia,h,show atI (c::r) 0=Z c from Sb (xs:=c::r) (j:=0) rfl];rfl
def wM (w:Str):Bool:=match w.cps.toList with
 |[]=>Ã
 |c::r=>decide (r.length<8)&&Ga c&&r.all λc=>Ga c || EO c
theorem u2 (h:wM w=Â):mY [.str w]=Z (.bl Â):=by
 unfold wM at h;cases hw:w.cps.toList with
 |nil=>rw[hw]at h;cases h
 |cons c r=>
  rw[hw]at h;dsimp only at h;rw[dP,dP]at h;obtain⟨⟨h1,h2⟩,h3⟩:=h;have h1:r.length<8:=of_decide_eq_true h1;have hl:=xy w;rw[hw,dw]at hl;have l1:=RX (x:=w) (by lia);have x0:=Ax hw (by lia);have t0:=RV c;rw[show decide (97<=c/\c<=122)=Â from h2]at t0;have i1:tO "str" (.str w)=Z (.bl Â):=rfl;have a1:eN wB (Ä mq Å) [Z<|.str w]=Z (.bl Â):=by
   have:mq [Z<|.str w]=l9 ((c::r).map λ_=>D.bl Â):=by
    refine KW (λc=>D.str<|nM c) (λ_=>D.bl Â) (c::r) ?_ (by simp;lia) λx hx=>⟨_,rfl,?_⟩
    ·show Z (uD w)=_;unfold uD;rw[hw];rfl
    ·have k1:=RV x;have k2:=RW x;by_cases q:97<=x/\x<=122
     ·rw[decide_eq_true q]at k1;clear k2 q;walk_at "mid"
     ·rw[decide_eq_false q]at k1;have:48<=x/\x<=57:=by
       rcases dn.mp hx with rfl|hx
       ·exact absurd (of_decide_eq_true h2) q
       ·have:=fN.mp h3 x hx;rw[iV]at this;rcases this with z|z
        ·exact absurd (of_decide_eq_true z) q
        ·exact of_decide_eq_true z
      rw[decide_eq_true this]at k2;clear q this;walk_at "mid"
   unfold eN Ä;rw[this];show wB [.lst<|(c::r).map λ_=>D.bl Â]=_;rw[all_map];simp
  have c1:¬(w.length:Int)<1:=by lia
  have c2:¬(w.length:Int) > 8:=by lia
  generalize (w.length:Int)=wl at *;unfold mY;generalize eN wB (Ä mq Å)=AA at *;clear h1 h2 h3 hl hw;walk_at "mid"
inductive Tk where
 |l (s:Str)|x|y|k (s:Str)
noncomputable def Tk.s (x y:Str):Tk->Str
 |.l s=>s|.x=>x|.y=>y|.k s=>s++x
def kN (x y:Str)(ws:List Tk):Str:=Str.join (nM 32)<|ws.map<|Tk.s x y
noncomputable def q1:List (List Tk):=[[.l ""],[.l "",.l ""],[.l "show",.l ""],[.l "",.l "show"],[.l "shows"],[.l "Show"],[.l "run"],[.l "run",.l ""],[.l "run",.l "x"],[.l "run",.l "401"],[.l "run",.l "-1"],[.l "run",.l "01"],[.l "run",.l "1",.l "1"],[.l "least",.l ""],[.l "least",.l "1"],[.l "rate"],[.l "rate",.x,.y],[.l "rate",.l "",.x],[.l "again"],[.l "again",.l "0"],[.l "again",.l "201"],[.l "again",.l "5",.l "5"],[.l "cut"],[.l "cut",.l "2"],[.l "cut",.l "-1"],[.l "cut",.l "x"],[.l "cut",.l "0",.l "0"]]
noncomputable def q2:List (List Tk):=[[.l "change",.l "0"],[.l "change",.l "2",.l "5"],[.l "change",.l "0",.l "x"],[.l "change",.l "0",.l "5",.l "5"],[.l "change",.l "0",.l "-5"],[.l "plan"],[.l "plan",.l "9"],[.l "plan",.l "9",.l "0"],[.l "plan",.l "9",.l "0",.l "0",.l "0"],[.l "plan",.l "9",.l "0",.l "x"],[.l "plan",.l "1000000000001",.l "0",.l "0"],[.l "plan",.l "9",.l "0",.l "1000000000001"],[.l "put",.x,.l "0"],[.l "put",.x,.l "401",.l "5"],[.l "put",.x,.l "0",.l "1000000000001"],[.l "put",.x,.l "x",.l "5"],[.l "put",.l "A",.l "x",.l "5"],[.l "put",.x,.l "0",.l "5",.l "5"],[.l "ride",.x,.y],[.l "ride",.x,.y,.l "5",.l "0"],[.l "wait",.x,.y,.l "5"],[.l "back",.x,.y,.l "x",.l "1"],[.l "ride",.l "A",.y,.l "x"],[.l "line",.l "1"],[.l "line",.l "1",.x],[.l "line",.l "1",.l "A"],[.l "line",.l "x",.x,.l "5"],[.l "turn",.l "5"]]
noncomputable def q4:List (List Tk):=[[.l "spares",.x,.y],[.l "rides",.x,.y,.l "5"],[.l "run",.l "1000000000000000"],[.l "cut",.l "1000000000000000"]]
noncomputable def p1:List (List Tk):=[[.l "late"],[.l "late",.l ""],[.l "late",.l "401"],[.l "late",.l "x"],[.l "late",.l "5",.l "5"],[.l "fate"],[.l "fate",.l "0"],[.l "fate",.l "401"],[.l "fate",.l "x"],[.l "fate",.l "5",.x],[.l "spare",.x],[.l "spare",.x,.y,.x],[.l "spare"],[.l "spare",.x,.y,.l ""],[.l "give",.x],[.l "give",.x,.l "61"],[.l "give",.x,.l "x"]]
noncomputable def p3:List (List Tk):=[[.l "give",.x,.y,.l "5"],[.l "give",.l "A",.l "x"]]
noncomputable def rA:List (List Tk):=[[.l "late",.l "5"],[.l "fate",.l "9"],[.l "spare",.x,.y],[.l "give",.x,.l "5"],[.l "spare",.l "A",.y]]
noncomputable def rE:List (List Tk):=[[.l "show"],[.l "run",.l "5"],[.l "cut",.l "0"]]
def rN:List (List Tk):=q1++[.l "cut",.x]::q2++[[.k "goings;"],[.l "net"],[.k "late"]]++q4
def rP:List (List Tk):=p1++[.l "give",.x,.y]::p3
variable {N:List Str}{a:EF}{Y:List D}{fs:L3.Env->Option (List D)}{gm:EM}{nt pt tl:D}{O ρ':L3.Env}
section
variable {f g:SF}{u v:n9}{p q:BF}{b:EF}{d x y:D}{xs:List D}{i:Nat}{ro:Option é}{rx:Option vZ}{rb:Option Bool}{rd:Option D}{rm:Option (D×L3.Env)}
theorem fx (h:u (Î N Y)=Z (.xc O d)):uW N u Y=Z (.xc d):=by unfold uW;rw[h];rfl
theorem qn (h:u O=Z (.ok<|.nx ρ'))(h2:v ρ'=rx):jJ u v O=rx:=by unfold jJ;rw[h];exact h2
theorem qx (h:u O=Z (.xc ρ' d)):jJ u v O=Z (.xc ρ' d):=by unfold jJ;rw[h];rfl
theorem xt (h:p O=Z Â)(h2:u O=rx):rK p u v O=rx:=by unfold rK;rw[h];exact h2
theorem xf (h:p O=Z Ã)(h2:v O=rx):rK p u v O=rx:=by unfold rK;rw[h];exact h2
theorem Qs (h:a O=Z d):sY (È i a) O=Z (.ok<|.nx<|O.set i<|Z d):=by unfold sY È;rw[h];rfl
theorem LB (h1:f O=Z (.nx ρ'))(h2:g ρ'=ro):Æ f g O=ro:=by unfold Æ;rw[h1];exact h2
theorem zx {k:é->Option D}(h1:f O=Z (.nx ρ'))(h2:(g ρ').bind k=rd):(Æ f g O).bind k=rd:=by unfold Æ;rw[h1];exact h2
theorem L (h1:f O=Z (.nx ρ'))(h2:gm ρ'=rm):Ö f gm O=rm:=by unfold Ö;rw[h1];exact h2
theorem ww (h:a O=Z d):È i a O=Z (.nx<|O.set i<|Z d):=by unfold È;rw[h];rfl
theorem Ă (h:gm O=Z (d,ρ')):æ i gm O=Z (.nx<|ρ'.set i<|Z d):=by unfold æ;rw[h];rfl
theorem tM (h:p O=Z Â)(h2:f O=ro):Ó p f g O=ro:=by unfold Ó;rw[h];exact h2
theorem kA (h:p O=Z Ã)(h2:g O=ro):Ó p f g O=ro:=by unfold Ó;rw[h];exact h2
theorem kR {b:Bool}(h:a O=Z (.bl b)):tb a O=Z b:=by unfold tb;rw[h];rfl
theorem BL (h:p O=Z Â):Ô p O=Z Ã:=by unfold Ô;rw[h];rfl
theorem BK (h:p O=Z Ã):Ô p O=Z Â:=by unfold Ô;rw[h];rfl
theorem yK (h:p O=Z Ã)(h2:q O=rb):ä p q O=rb:=by unfold ä;rw[h];exact h2
theorem HR (h:p O=Z Ã):Ù p q O=Z Ã:=by unfold Ù;rw[h];rfl
theorem z8 {m:List D->Option D}(h1:fs O=Z Y)(h2:m (Y++xs)=rd):(λO=>(fs O).bind λY=>m<|Y++xs) O=rd:=by show(fs O).bind _=_;rw[h1];exact h2
theorem iC (h1:a O=Z d)(h2:fs O=Z Y):Ä a fs O=Z (d::Y):=by unfold Ä;rw[h1,h2];rfl
theorem gU {op:D->D->Option D}(h1:a O=Z x)(h2:b O=Z y)(h3:op x y=rd):e2 op a b O=rd:=by unfold e2;rw[h1,h2];exact h3
theorem LR (h:a O=Z d):ç a O=Z (.nx O):=by unfold ç;rw[h];rfl
theorem Ed (h:a O=Z d):É a O=Z (.rt d):=by unfold É;rw[h];rfl
end
noncomputable def dk (nt tl pt:D)(n:Int):D:=.obj 6 ["net","table","puts","answered"] [nt,tl,pt,.int n]
noncomputable def Pk (n:Int):D:=.exc 14 ["at"] [.int n]
noncomputable def G3 (d:D):D:=.exc 8 ["at"] [d]
noncomputable def L6 (w:Str):D:=.exc 15 ["name"] [.str w]
section
variable {U' e:D}{n:Int}{r:Str}
theorem Jl {f:L3.Env->Option D}{x d:D}{c:Nat}{s:Str}(h:pP x=Z d)(h2:f O=Z x):nv (λO=>(f O).bind λd=>(pP d).bind λd=>Z<|.exc c [s] [d]) O=Z (.xc O<|.exc c [s] [d]):=by show(ej (ej (f O) _) _)=_;rw[h2];show(ej (ej (pP x) _) _)=_;rw[h];rfl
theorem Œ (hn:pP (.int n)=gX n)(sp:oI (.str r) (.str " ")=Z U')(hr:gB [dk nt tl pt n,U']=Z (.bl Ã)):gJ [dk nt tl pt n,.str r]=Z (.xc<|Pk n) :=
 fx (O:=[Z<|dk nt tl pt n,Z<|.str r,Z U',S]) (qn rfl<|qn (Qs<|gU rfl rfl sp)<|qx<|xt (BK<|kR<|z8 rfl hr)<|Jl hn rfl)
theorem Lq (sp:oI (.str r) (.str " ")=Z U')(hr:gB [dk nt tl pt n,U']=Z (.bl Â))(h:pw [Z<|dk nt tl pt n,Z<|.str r,Z U',S]=Z (.xc O e)):gJ [dk nt tl pt n,.str r]=Z (.xc e) :=
 fx (qn rfl<|qn (Qs<|gU rfl rfl sp)<|qn (xf (BL<|kR<|z8 rfl hr) rfl) h)
end
def xM (d:D):Bool:=match d.py with
 |some a=>sS a&&a.canLay0
 |none=>Ã
theorem OX {neg:Bool}{d:D}(h:xM d=Â):jQ neg d d=Z (.bl !neg):=by
 unfold xM at h;cases hp:d.py with
 |none=>rw[hp]at h;cases h
 |some a=>rw[hp]at h;have h:=oU.mp h;unfold jQ;rw[hp];show(if sS a=Â/\sS a=Â then _ else S)=_;rw[if_pos ⟨h.1,h.1⟩,PySem.SeqAt.eqv_refl a h.2];cases neg<;>rfl
theorem Lc {d:D}(h:xM d=Â):jQ Â d d=Z (.bl Ã):=OX h
theorem Lr (n:Int):xM (.tup [.str "row",.int n])=Â:=by kernel_rfl
section
variable {f:n9}{h:Nat->D->SF}{a:B3}{d:D}{ro:Option é}
theorem dx (q:a O=Z (.xc d)):pX a O=Z (.xc O d):=by unfold pX;rw[q];rfl
def NT (h:Nat->D->SF)(d:D)(O:L3.Env):Option é:=match d with
 |.exc c ns Y=>h c (.exc c ns Y) O
 |_=>S
theorem Ļ (q:f O=Z (.xc ρ' d))(q2:NT h d ρ'=ro):Eg f h O=ro:=by unfold Eg;rw[q,←q2];cases d<;>rfl
end
class inductive Sd:D->D->D->Prop
 |name (w:Str) (h:xM (.tup [.str "name",.str w])=Â):Sd (L6 w) (.str "name") (.str w)
 |net (n:Int):Sd (G3<|.int n) (.str "net") (.int n)
 |nets:Sd (G3 .non) (.str "net") .non
 |fit (n:Int):Sd (.exc 11 ["arrow"] [.int n]) (.str "fit") (.int n)
 |ring:Sd (.exc 9 ["ring"] [.lst [.int 0,.int 2]]) (.str "stuck") (.lst [.int 0,.int 2])
 |one:Sd (.exc 9 ["ring"] [.lst [.int 2]]) (.str "stuck") (.lst [.int 2])
section
variable {r e k v:D}{n:Int}
theorem said (h:gJ [dk nt tl pt n,r]=Z (.xc e))(s:Sd e k v\/e=Pk n/\k=.str "row"/\v=.int n):iA [dk nt tl pt n,r]=Z (.tup [k,v]):=by
 have h:=(show D5 6 "say" gJ (dk nt tl pt n) [r]=gJ [dk nt tl pt n,r]by kernel_rfl).trans h;refine zx rfl<|zx rfl<|zx (ρ':=[Z<|dk nt tl pt n,Z r,Z k,Z v,S]) (Ļ (dx h) ?_) ?_
 all_goals rcases s with s|⟨rfl,rfl,rfl⟩
 ·cases s<;>kernel_rfl
 ·kernel_rfl
 ·cases s<;>kernel_rfl
 ·kernel_rfl
theorem ĺ (s:Sd e k v):xM (.tup [k,v])=Â:=by
 cases s with
 |name w h=>exact h
 |_=>kernel_rfl
theorem Ĺ (s:Sd e k v)(c:Int):lD [.tup [k,v],.int c]=Z (.tup [k,v]):=by cases s<;>kernel_rfl
end
variable {ws:List Tk}
theorem Ld (h:wM w=Â):1<=w.length/\w.length<=8:=by
 unfold wM at h;rw[←xy];cases hw:w.cps.toList with
 |nil=>rw[hw]at h;cases h
 |cons c r=>rw[hw]at h;dsimp only at h;rw[dP,dP]at h;have:=of_decide_eq_true h.1.1;rw[dw];lia
theorem Tb (h:wM w=Â){x:Nat}(hx:x∈w.cps.toList):48<=x/\x<=122:=by
 unfold wM at h;cases hw:w.cps.toList with
 |nil=>rw[hw]at hx;cases hx
 |cons c r=>
  rw[hw]at h hx;dsimp only at h;rw[dP,dP]at h;rcases dn.mp hx with rfl|hx
  ·have:=of_decide_eq_true (p:=97<=x/\x<=122) h.1.2;lia
  ·have:=fN.mp h.2 x hx;rw[iV]at this;rcases this with z|z
   ·have:=of_decide_eq_true (p:=97<=x/\x<=122) z;lia
   ·have:=of_decide_eq_true (p:=48<=x/\x<=57) z;lia
theorem SI (h:wM w=Â){c:Nat}(hc:c<48):B5 c w:=λz=>by have:=Tb h z;lia
theorem ő (h:wM w=Â):dX.strOk w=Â:=by unfold dX.strOk;rw[←m6,fN];intro x hx;have:=Tb h hx;rw[decide_eq_true_iff];lia
noncomputable def Nq:Tk->Bool
 |.l s=>!s.cps.toList.contains 32&&decide (s.length<=20)
 |.k s=>!s.cps.toList.contains 32&&decide (s.length<=10)
 |_=>Â
structure mC (x y:Str):Prop where
 nx:wM x=Â
 ny:wM y=Â
 ne:x≠y
def WT (x y:Str)(ws:List Tk):D:=fU<|ws.map<|Tk.s x y
section
variable {x y:Str}
theorem ĸ (h:mC x y){t:Tk}(ht:Nq t=Â):B5 32 (t.s x y)/\(t.s x y).length<=20:=by
 have fx:=SI h.nx (c:=32) (by lia);have lx:=Ld h.nx;have ly:=Ld h.ny;have lit:∀{s:Str} {b:Bool},(!s.cps.toList.contains 32&&b)=Â->B5 32 s/\b=Â:=λq=>by rw[dP,BV,List.contains_eq_mem,decide_eq_false_iff_not]at q;exact q
 cases t with
 |l s=>exact⟨(lit ht).1,of_decide_eq_true (lit ht).2⟩
 |x=>exact⟨fx,by show x.length<=20;lia⟩
 |y=>exact⟨SI h.ny<|by lia,by show y.length<=20;lia⟩
 |k s=>have:=of_decide_eq_true (lit ht).2;refine⟨Ϭ (lit ht).1 fx,?_⟩;rw[←xy];show(s++x).cps.toList.length<=20;rw[wp,d7,xy,xy];lia
theorem AD (h:mC x y)(hk:(ws.all Nq&&decide (0<ws.length/\ws.length<=20))=Â):oI (.str<|kN x y ws) (.str " ")=Z (WT x y ws):=by
 rw[dP,fN,decide_eq_true_iff]at hk;have m:∀w∈ws.map (Tk.s x y),B5 32 w/\w.length<=20:=λw hw=>by obtain⟨t,ht,rfl⟩:=g0.mp hw;exact ĸ h<|hk.1 t ht
 rw[ļ];exact ϭ (b:=20) (λe=>by rw[List.map_eq_nil_iff]at e;rw[e]at hk;simp at hk) (λw hw=>(m w hw).1) (λw hw=>(m w hw).2) (by rw[dY];lia)
theorem sP:wL (fU [x,y]) (.str x)=gX 0:=by show(ej (EB (λz=>Dk z<|.str x) [D.str x,D.str y]) _)=_;rw[kx,show Dk (.str x) (.str x)=Â from beq_self_eq_true x];rfl
theorem Ay (h:mC x y):wL (fU [x,y]) (.str y)=gX 1:=by show(ej (EB (λz=>Dk z<|.str y) [D.str x,D.str y]) _)=_;rw[kx,show Dk (.str x) (.str y)=Ã from beq_false_of_ne h.ne,kx,show Dk (.str y) (.str y)=Â from beq_self_eq_true y];rfl
theorem rH:ê Â (.str x) (fU [x,y])=Z (.bl Ã):=by show Z (D.bl !(x==x || (y==x || false)))=_;rw[beq_self_eq_true];rfl
theorem Aw:ê Â (.str y) (fU [x,y])=Z (.bl Ã):=by show Z (D.bl !(x==y || (y==y || false)))=_;rw[beq_self_eq_true,Bool.true_or,Bool.or_true];rfl
theorem IH (h1:w≠x)(h2:w≠y):ê Â (.str w) (fU [x,y])=Z (.bl Â):=by show Z (D.bl !(x==w || (y==w || false)))=_;rw[beq_false_of_ne h1.symm,beq_false_of_ne h2.symm];rfl
end
variable {T as:List D}{ρ1:L3.Env}
section
variable {c:B3}{u v:n9}{p q:BF}{f g:SF}{d:D}{xs:List D}{i k:Nat}{r:Option iS}
theorem xY {m:List D->Option iS}(h1:fs O=Z Y)(h2:m (Y++xs)=r):(λO=>(fs O).bind λY=>m<|Y++xs) O=r:=by show(fs O).bind _=_;rw[h1];exact h2
theorem Pj (h:c O=Z (.ok d)):pX c O=Z (.ok<|.nx O):=by unfold pX;rw[h];rfl
theorem ox (h:c O=Z (.xc d)):rL c O=Z (.xc O d):=by unfold rL;rw[h];rfl
theorem Qh (h:c O=Z (.xc d)):yQ c O=Z (.xc O d):=by unfold yQ;rw[h];rfl
theorem Ĥ (h:c O=Z (.xc d)):Bg i c O=Z (.xc O d):=by unfold Bg;rw[h];rfl
theorem UC (h:u O=Z (.xc ρ' d)):Ef i u O=Z (.xc (ρ'.set i S) d):=by unfold Ef;rw[h];rfl
theorem LS {tb:List (Str×(List D->Option iS))}{mf:List D->Option iS}(h1:a O=Z (.str w))(h2:tb.lookup w=Z mf)(h3:fs O=Z Y)(h4:mf Y=r):DS tb a fs O=r:=by unfold DS;rw[h1];show(ej (tb.lookup w) _)=_;rw[h2];show(ej (fs O) _)=_;rw[h3];exact h4
theorem Pn (h:u (Z (.obj k [] [])::Î N.tail Y)=Z (.xc O d)):Av N u k Y=Z (.xc d):=by unfold Av;rw[h];rfl
theorem Gf (h:p O=Z Â):ä p q O=Z Â:=by unfold ä;rw[h];rfl
theorem O6 (h:f O=Z (.rt d)):Æ f g O=Z (.rt d):=by unfold Æ;rw[h];rfl
theorem GR {g:D->L3.Env->Option L3.Env}{ρ2:L3.Env}{r:Option é}(h1:g d O=Z ρ1)(h2:f ρ1=Z (.nx ρ2))(h3:pQ g f Y ρ2=r):pQ g f (d::Y) O=r:=by unfold pQ;rw[h1];show(f ρ1).bind _=_;rw[h2];exact h3
theorem Tz {g:D->L3.Env->Option L3.Env}{e:D}(h1:g d O=Z ρ1)(h2:f ρ1=Z (.rt e)):pQ g f (d::Y) O=Z (.rt e):=by unfold pQ;rw[h1];show(f ρ1).bind _=_;rw[h2];rfl
theorem HA {g:D->L3.Env->Option L3.Env}(h:fs O=Z Y):Õ fs g f O=pQ g f Y O:=by unfold Õ;rw[h];rfl
theorem wO {k:é->Option D}{e:Option D}(h:f O=Z (.rt d))(h2:k (.rt d)=e):(Æ f g O).bind k=e:=by rw[O6 h];exact h2
end
section
variable {x y:Str}
theorem D7 {s:Option D}{ks:List kr}{vs:List D}(h:mY [.str x]=Z (.bl Â))(h2:qK ks vs (.inr x)=S)(hl:ks.length<16777216):pq [s,Z<|.dK ks vs,Z<|.str x]=Z (.nx [s,Z<|.dK (oG ks vs (.inr x)<|.bl Â).1 (oG ks vs (.inr x)<|.bl Â).2,Z<|.str x]) :=
 LB (kA (yK (BL<|kR<|z8 rfl h)<|kR<|by show Z (D.bl (qK ks vs<|.inr x).isSome)=_;rw[h2];rfl) rfl) (by show(if ks.length<16777216 then _ else S)=_;rw[if_pos hl];rfl)
theorem TB {z:Str}:qK [(Sum.inr x:kr)] [.bl Â] (.inr z)=if x=z then Z (.bl Â)else S:=by
 show(([((Sum.inr x:kr),D.bl Â)].find? _).map _)=_;rw[fJ];by_cases e:x=z
 ·rw[if_pos e,e];simp
 ·rw[if_neg e,decide_eq_false λz=>by cases z;exact e rfl];rfl
theorem Tc (h:mC x y):ku [fU [x,y]]=Z (.bl Â) :=
 zx rfl (zx rfl<|zx ((HA rfl).trans<|GR rfl (D7 (u2 h.nx) rfl<|by simp)<|GR rfl (D7 (u2 h.ny) (TB.trans<|if_neg h.ne)<|by simp[oG]) rfl) rfl)
theorem Ő (h:mC x y):ku [fU [x,x]]=Z (.bl Ã) :=
 zx rfl (zx rfl<|wO ((HA rfl).trans<|GR rfl (D7 (u2 h.nx) rfl<|by simp)<|Tz rfl<|O6<|tM (yK (BL<|kR<|z8 rfl<|u2 h.nx)<|kR (by show Z (D.bl (qK [(Sum.inr x:kr)] [.bl Â]<|.inr x).isSome)=_;rw[TB,if_pos rfl];rfl)) rfl) rfl)
theorem ŏ (h:mC x y):ku [fU [x,"",y]]=Z (.bl Ã) :=
 zx rfl (zx rfl<|wO ((HA rfl).trans<|GR rfl (D7 (u2 h.nx) rfl<|by simp)<|Tz rfl<|O6<|tM (Gf<|by kernel_rfl) rfl) rfl)
def AK:List D:=[iX ⟨.wait,0,1,4,0⟩,iX ⟨.back,1,0,4,1⟩]
def nK (x y:Str)(as:List D):D:=.obj 4 ["names","arrows"] [fU [x,y],.lst as]
abbrev E7 (ws:List Tk):Bool:=ws.all Nq&&decide (0<ws.length/\ws.length<=20)
variable {e:D}{n:Int}
theorem Td {ns:D}(h:mC x y)(hk:E7 ws=Â)(hr:gB [dk nt tl pt n,WT x y ws]=Z (.bl Â))(hg:tb (e2 (jQ Â) (e2 gK (J 2)<|eC<|.int 0)<|eC<|.str "goings") [Z<|dk nt tl pt n,Z<|.str<|kN x y ws,Z<|WT x y ws,S]=Z Ã)(h0:gK (WT x y ws) (.int 0)=Z (.str "goings"))(hs:jT (WT x y ws) (Z 1) S=Z ns)(hn:ku [ns]=Z (.bl Ã)):gJ [dk nt tl pt n,.str<|kN x y ws]=Z (.xc<|G3 .non) :=
 Lq (AD h hk) hr (qn (xf hg rfl)<|qx<|Ĥ<|LS h0 rfl rfl<|fx<|qx<|ox<|xY (iC hs rfl)<|Pn<|qx<|xt (Gf<|BK<|kR<|z8 rfl hn) rfl)
theorem TC (h:mC x y)(hl:as.length<=20)(hn:iT [Z<|.obj 4 [] [],Z<|fU [x,y],l9 as,S,S,S]=Z (.xc O e)):iz 4 [fU [x,y],.lst as]=Z (.xc e) :=
 Pn (qn (xf (yK (BL<|kR<|z8 rfl<|Tc h)<|kR<|gU rfl rfl<|(ĉ _ _).trans<|by rw[decide_eq_false<|by lia]) rfl) hn)
theorem HB {T z:Option D}{d N:D}{r:Option vZ}(h:ê Â d N=Z (.bl Ã))(h2:sO (gV 2) eA Y [T,Z N,Z d]=r):sO (gV 2) eA (d::Y) [T,Z N,z]=r:=by show(ej (eA [T,Z N,Z d]) _)=_;rw[show eA [T,Z N,Z d]=Z (.ok<|.nx [T,Z N,Z d])from xf (kR<|gU rfl rfl h) rfl];exact h2
theorem TD {T z:Option D}{N:D}(h:ê Â (.str w) N=Z (.bl Â))(hw:wI (.str w)=Z (.str w)):sO (gV 2) eA (.str w::Y) [T,Z N,z]=Z (.xc [T,Z N,Z<|.str w]<|L6 w):=by show(ej (eA [T,Z N,Z<|.str w]) _)=_;rw[show eA [T,Z N,Z<|.str w]=Z (.xc [T,Z N,Z<|.str w]<|L6 w)from xt (kR<|gU rfl rfl h) (by show(ej (ej (wI<|.str w) _) _)=_;rw[hw];rfl)];rfl
theorem Te (h:mC x y)(hk:E7 ws=Â)(hr:gB [dk (nK x y AK) tl pt n,WT x y ws]=Z (.bl Â))(hg:tb (e2 (jQ Â) (e2 gK (J 2)<|eC<|.int 0)<|eC<|.str "goings") [Z<|dk (nK x y AK) tl pt n,Z<|.str<|kN x y ws,Z<|WT x y ws,S]=Z Â)(ht:ip [WT x y ws]=l9 T)(hx:sO (gV 2) eA T [l9 T,Z<|fU [x,y],S]=Z (.xc O e)):gJ [dk (nK x y AK) tl pt n,.str<|kN x y ws]=Z (.xc e) :=
 Lq (AD h hk) hr (qx<|xt hg<|dx<|xY (iC (z8 rfl ht) rfl)<|fx hx)
theorem Hy {p q:Str}(h:mC x y)(hk:E7 ws=Â)(hr:gB [dk (nK x y AK) tl pt n,WT x y ws]=Z (.bl Â))(hg:tb (e2 (jQ Â) (e2 gK (J 2)<|eC<|.int 0)<|eC<|.str "goings") [Z<|dk (nK x y AK) tl pt n,Z<|.str<|kN x y ws,Z<|WT x y ws,S]=Z Â)(ht:ip [WT x y ws]=Z (fU [p,q]))(hp:ê Â (.str p) (fU [x,y])=Z (.bl Ã))(hq:ê Â (.str q) (fU [x,y])=Z (.bl Ã))(h0:gK (WT x y ws) (.int 0)=Z (.str w))(hd:pZ.lookup w=Z iH)
  (ha:km [WT x y ws,fU [x,y]]=l9 as) (hl:as.length<=10) (hn:iT [Z<|.obj 4 [] [],Z<|fU [x,y],l9<|AK++as,S,S,S]=Z (.xc O e)):gJ [dk (nK x y AK) tl pt n,.str<|kN x y ws]=Z (.xc e) :=
 Lq (AD h hk) hr (qn (xt hg<|Pj (d:=.non)<|xY (iC (z8 rfl ht) rfl)<|by show(ej (sO (gV 2) eA [.str p,.str q] [Z<|fU [p,q],Z<|fU [x,y],S]) _)=_;rw[HB hp<|HB hq rfl];rfl)<|qx<|Ĥ<|LS h0 hd rfl<|fx<|Qh<|xY (iC rfl<|iC (gU rfl (z8 rfl ha)<|show dL (.lst AK) (.lst as)=l9 (AK++as)from if_pos (by show 2+as.length<=_;lia)) rfl)<|fx<|qx<|ox<|xY rfl<|TC h (by rw[d7];show 2+as.length<=20;lia) hn)
end
section
variable {f:EF}{ρ0:L3.Env}{d y:D}{ys:List D}{g:D->L3.Env->Option L3.Env}{o:Nat}{cp:List Nat}
theorem sQ {k:é->Option D}{r:Option D}(h:a O=Z d)(h2:k (.rt d)=r):(É a O).bind k=r:=by rw[Ed h];exact h2
theorem HC (h:fs O=Z Y):(λO=>(fs O).bind λY=>Z<|D.lst Y) O=l9 Y:=by show(fs O).bind _=_;rw[h];rfl
theorem Ao (h1:g d ρ0=Z ρ1)(h2:f ρ1=Z y)(h3:pz g gY f ρ0 Y=Z ys):pz g gY f ρ0 (d::Y)=Z (y::ys):=by unfold pz;rw[h1,h3];show(ej (f ρ1) _)=_;rw[h2];rfl
theorem ec {f2:EF}(h1:fs O=Z Y)(hl:Y.length<=1000)(h2:pz g gY f2 (dg o S++rY O cp) Y=Z ys):fY fs o cp g gY f2 O=l9 ys:=by unfold fY;rw[h1];show(if Y.length<=16777216 then _ else _)=_;rw[if_pos<|by lia,h2];rfl
end
theorem nb {x:Str}(hw:wM w=Ã)(hx:wM x=Â):w≠x:=λe=>by rw[e,hx]at hw;cases hw
noncomputable def E8:List (List Tk×D×D) :=
  [([.l "rate",.l "A"],.str "name",.str "A"),([.l "ride",.l "A",.l "B",.l "5"],.str "name",.str "A"),([.l "ride",.x,.l "B",.l "5"],.str "name",.str "B"),([.l "put",.l "A",.l "0",.l "5"],.str "name",.str "A"),([.l "line",.l "1",.x,.l "5",.l "B",.l "3",.l "A",.l "4"],.str "name",.str "B"),([.l "rate",.l ""],.str "name",.str ""),
   ([.l "ride",.y,.x,.l "0"],.str "stuck",.lst [.int 0,.int 2]),([.l "wait",.x,.y,.l "1000000001",.l "0"],.str "net",.int 2),([.l "change",.l "1",.l "1000000001"],.str "net",.int 1),([.l "back",.x,.y,.l "5",.l "0"],.str "net",.int 2),([.l "line",.l "5",.x,.l "1",.y,.l "2"],.str "net",.int 3),([.l "wait",.x,.x,.l "3",.l "0"],.str "stuck",.lst [.int 2]),
   ([.l "goings"],.str "net",.non),([.l "goings",.x,.x],.str "net",.non),([.l "goings",.l "A"],.str "net",.non),([.l "goings",.l ""],.str "net",.non),([.l "goings",.x,.l "",.y],.str "net",.non),
   ([.l "plan",.l "9",.l "0",.l "3"],.str "fit",.int 0),([.l "plan",.l "9",.l "0",.l "9"],.str "fit",.int 1),([.l "plan",.l "8",.l "9",.l "0"],.str "fit",.int 0),([.l "line",.l "1",.x,.l "1",.x,.l "2"],.str "stuck",.lst [.int 2])]
section
variable {x y:Str}{n:Int}
def ô (x y:Str)(tl pt:D)(n:Int)(p:List Tk×D×D):Prop:=∃e,gJ [dk (nK x y AK) tl pt n,.str<|kN x y p.1]=Z (.xc e)/\Sd e p.2.1 p.2.2
theorem yU (h:mC x y)(hw:wM w=Ã:=by kernel_rfl)(ho:xM (.tup [.str "name",.str w])=Â:=by kernel_rfl)(hk:E7 ws=Â:=by kernel_rfl)(hr:gB [dk (nK x y AK) tl pt n,WT x y ws]=Z (.bl Â):=by kernel_rfl)(hg:tb (e2 (jQ Â) (e2 gK (J 2)<|eC<|.int 0)<|eC<|.str "goings") [Z<|dk (nK x y AK) tl pt n,Z<|.str<|kN x y ws,Z<|WT x y ws,S]=Z Â:=by kernel_rfl)(ht:ip [WT x y ws]=l9 (.str w::T):=by kernel_rfl)(hf:wI (.str w)=Z (.str w):=by kernel_rfl):ô x y tl pt n (ws,.str "name",.str w) :=
 ⟨_,Te h hk hr hg ht<|TD (IH (nb hw h.nx)<|nb hw h.ny) hf,.name w ho⟩
theorem GI (h:mC x y)(hw:wM w=Ã:=by kernel_rfl)(ho:xM (.tup [.str "name",.str w])=Â:=by kernel_rfl)(hk:E7 ws=Â:=by kernel_rfl)(hr:gB [dk (nK x y AK) tl pt n,WT x y ws]=Z (.bl Â):=by kernel_rfl)(hg:tb (e2 (jQ Â) (e2 gK (J 2)<|eC<|.int 0)<|eC<|.str "goings") [Z<|dk (nK x y AK) tl pt n,Z<|.str<|kN x y ws,Z<|WT x y ws,S]=Z Â:=by kernel_rfl)(ht:ip [WT x y ws]=l9 (.str x::.str w::T):=by kernel_rfl)(hf:wI (.str w)=Z (.str w):=by kernel_rfl):ô x y tl pt n (ws,.str "name",.str w) :=
 ⟨_,Te h hk hr hg ht<|HB rH<|TD (IH (nb hw h.nx)<|nb hw h.ny) hf,.name w ho⟩
theorem o7 (h:mC x y):ô x y tl pt n ([.l "ride",.y,.x,.l "0"],.str "stuck",.lst [.int 0,.int 2]) :=
 ⟨_,Hy (O:=[Z<|.obj 4 [] [],Z<|fU [x,y],l9<|AK++[iX ⟨.ride,1,0,0,0⟩],gX 2,Z<|iX ⟨.ride,1,0,0,0⟩,Z<|.lst []]) (as:=[iX ⟨.ride,1,0,0,0⟩]) (p:=y) (q:=x) (w:="ride") h (by kernel_rfl) (by kernel_rfl) (by kernel_rfl) (by kernel_rfl) Aw rH (by kernel_rfl) rfl (zx (kA (by kernel_rfl) rfl)<|sQ (HC<|iC (z8 rfl<|zx (ww<|gU rfl (by kernel_rfl)<|Ay h)<|zx (ww<|gU rfl (by kernel_rfl) sP)<|by kernel_rfl) rfl) rfl) (by decide)<|by kernel_rfl,.ring⟩
theorem o8 (h:mC x y):ô x y tl pt n ([.l "wait",.x,.y,.l "1000000001",.l "0"],.str "net",.int 2) :=
 ⟨_,Hy (O:=[Z<|.obj 4 [] [],Z<|fU [x,y],l9<|AK++[iX ⟨.wait,0,1,1000000001,0⟩],gX 2,Z<|iX ⟨.wait,0,1,1000000001,0⟩,S]) (as:=[iX ⟨.wait,0,1,1000000001,0⟩]) (p:=x) (q:=y) (w:="wait") h (by kernel_rfl) (by kernel_rfl) (by kernel_rfl) (by kernel_rfl) rH Aw (by kernel_rfl) rfl (zx (kA (by kernel_rfl) rfl)<|sQ (HC<|iC (z8 rfl<|zx (ww<|gU rfl (by kernel_rfl) sP)<|zx (ww<|gU rfl (by kernel_rfl)<|Ay h)<|by kernel_rfl) rfl) rfl) (by decide)<|by kernel_rfl,.net 2⟩
theorem Vy (h:mC x y):ô x y tl pt n ([.l "back",.x,.y,.l "5",.l "0"],.str "net",.int 2) :=
 ⟨_,Hy (O:=[Z<|.obj 4 [] [],Z<|fU [x,y],l9<|AK++[iX ⟨.back,0,1,5,0⟩],gX 2,Z<|iX ⟨.back,0,1,5,0⟩,S]) (as:=[iX ⟨.back,0,1,5,0⟩]) (p:=x) (q:=y) (w:="back") h (by kernel_rfl) (by kernel_rfl) (by kernel_rfl) (by kernel_rfl) rH Aw (by kernel_rfl) rfl (zx (kA (by kernel_rfl) rfl)<|sQ (HC<|iC (z8 rfl<|zx (ww<|gU rfl (by kernel_rfl) sP)<|zx (ww<|gU rfl (by kernel_rfl)<|Ay h)<|by kernel_rfl) rfl) rfl) (by decide)<|by kernel_rfl,.net 2⟩
theorem VA (h:mC x y):ô x y tl pt n ([.l "wait",.x,.x,.l "3",.l "0"],.str "stuck",.lst [.int 2]) :=
 ⟨_,Hy (O:=[Z<|.obj 4 [] [],Z<|fU [x,y],l9<|AK++[iX ⟨.wait,0,0,3,0⟩],gX 2,Z<|iX ⟨.wait,0,0,3,0⟩,Z<|.lst []]) (as:=[iX ⟨.wait,0,0,3,0⟩]) (p:=x) (q:=x) (w:="wait") h (by kernel_rfl) (by kernel_rfl) (by kernel_rfl) (by kernel_rfl) rH rH (by kernel_rfl) rfl (zx (kA (by kernel_rfl) rfl)<|sQ (HC<|iC (z8 rfl<|zx (ww<|gU rfl (by kernel_rfl) sP)<|zx (ww<|gU rfl (by kernel_rfl) sP)<|by kernel_rfl) rfl) rfl) (by decide)<|by kernel_rfl,.one⟩
theorem Vz (h:mC x y):ô x y tl pt n ([.l "line",.l "5",.x,.l "1",.y,.l "2"],.str "net",.int 3) :=
 ⟨_,Hy (O:=[Z<|.obj 4 [] [],Z<|fU [x,y],l9<|AK++[iX ⟨.ride,0,1,1,0⟩,iX ⟨.back,1,0,2,5⟩],gX 3,Z<|iX ⟨.back,1,0,2,5⟩,S]) (as:=[iX ⟨.ride,0,1,1,0⟩,iX ⟨.back,1,0,2,5⟩]) (p:=x) (q:=y) (w:="line") h (by kernel_rfl) (by kernel_rfl) (by kernel_rfl) (by kernel_rfl) rH Aw (by kernel_rfl) rfl (wO (tM (by kernel_rfl)<|Ed<|z8 rfl<|zx (ww<|ec (Y:=[.str x,.str y]) (by kernel_rfl) (by simp)<|Ao rfl (gU rfl rfl sP)<|Ao rfl (gU rfl rfl<|Ay h) rfl)<|by kernel_rfl) rfl) (by decide)<|by kernel_rfl,.net 3⟩
theorem VB (h:mC x y):ô x y tl pt n ([.l "line",.l "1",.x,.l "1",.x,.l "2"],.str "stuck",.lst [.int 2]) :=
 ⟨_,Hy (O:=[Z<|.obj 4 [] [],Z<|fU [x,y],l9<|AK++[iX ⟨.ride,0,0,1,0⟩,iX ⟨.back,0,0,2,1⟩],gX 3,Z<|iX ⟨.back,0,0,2,1⟩,Z<|.lst []]) (as:=[iX ⟨.ride,0,0,1,0⟩,iX ⟨.back,0,0,2,1⟩]) (p:=x) (q:=x) (w:="line") h (by kernel_rfl) (by kernel_rfl) (by kernel_rfl) (by kernel_rfl) rH rH (by kernel_rfl) rfl (wO (tM (by kernel_rfl)<|Ed<|z8 rfl<|zx (ww<|ec (Y:=[.str x,.str x]) (by kernel_rfl) (by simp)<|Ao rfl (gU rfl rfl sP)<|Ao rfl (gU rfl rfl sP) rfl)<|by kernel_rfl) rfl) (by decide)<|by kernel_rfl,.one⟩
theorem o9 (h:mC x y):ô x y tl pt n ([.l "change",.l "1",.l "1000000001"],.str "net",.int 1) :=
 ⟨_,Lq (AD h<|by kernel_rfl) (by kernel_rfl)<|qn (xt (by kernel_rfl)<|Pj (d:=.non)<|xY (iC (z8 (rd:=some<|.lst []) rfl<|by kernel_rfl) rfl) rfl)<|qx<|Ĥ<|LS (w:="change") (by kernel_rfl) rfl rfl<|fx<|qn rfl<|qn (ρ':=[Z<|dk (nK x y AK) tl pt n,Z<|WT x y [.l "change",.l "1",.l "1000000001"],l9 AK,gX 1]) (by kernel_rfl)<|qn (ρ':=[Z<|dk (nK x y AK) tl pt n,Z<|WT x y [.l "change",.l "1",.l "1000000001"],Z<|.lst [iX ⟨.wait,0,1,4,0⟩,iX ⟨.back,1,0,1000000001,1⟩],gX 1]) (by kernel_rfl)<|UC<|Qh<|xY rfl<|fx<|qx<|ox<|xY rfl<|TC (O:=[Z<|.obj 4 [] [],Z<|fU [x,y],Z<|.lst [iX ⟨.wait,0,1,4,0⟩,iX ⟨.back,1,0,1000000001,1⟩],gX 1,Z<|iX ⟨.back,1,0,1000000001,1⟩,S]) h (by decide)<|by kernel_rfl,.net 1⟩
theorem Tf (h:mC x y):∀p∈E8,ô x y tl pt n p:=by simp only[E8,iw];exact⟨yU (T:=[]) h,yU (T:=[.str "B"]) h,GI (T:=[]) h,yU (T:=[]) h,GI (T:=[.str "A"]) h,yU (T:=[]) h,o7 h,o8 h,o9 h,Vy h,Vz h,VA h,⟨G3 .non,by kernel_rfl,.nets⟩,⟨_,Td h (by kernel_rfl) (by kernel_rfl) (by kernel_rfl) (by kernel_rfl) (by kernel_rfl)<|Ő h,.nets⟩,⟨G3 .non,by kernel_rfl,.nets⟩,⟨G3 .non,by kernel_rfl,.nets⟩,⟨_,Td h (by kernel_rfl) (by kernel_rfl) (by kernel_rfl) (by kernel_rfl) (by kernel_rfl)<|ŏ h,.nets⟩,⟨.exc 11 ["arrow"] [.int 0],by kernel_rfl,.fit 0⟩,⟨.exc 11 ["arrow"] [.int 1],by kernel_rfl,.fit 1⟩,⟨.exc 11 ["arrow"] [.int 0],by kernel_rfl,.fit 0⟩,VB h,nofun⟩
def nW (x y:Str):D:=.obj 5 ["net","times","beat"] [nK x y AK,.lst [.int 0,.int 5],.int 10]
noncomputable def MC:List (List Tk×D×D):=[([.l "spare",.l "A",.y],.str "name",.str "A"),([.l "spare",.x,.l "A"],.str "name",.str "A"),([.l "give",.l "A",.l "5"],.str "name",.str "A"),([.l "spare",.l "B",.l "A"],.str "name",.str "B"),([.l "give",.l "",.l "5"],.str "name",.str "")]
theorem Ŏ (h:mC x y):∀p∈MC,ô x y (nW x y) pt n p:=by simp only[MC,iw];exact⟨yU (T:=[.str y]) h,GI (T:=[]) h,yU (T:=[]) h,yU (T:=[.str "A"]) h,yU (T:=[]) h,nofun⟩
end
def Ĭ (x:Option D):Bool:=match x with
 |some (.bl Ã)=>Â
 |_=>Ã
theorem ō {x:Option D}(h:Ĭ x=Â):x=Z (.bl Ã):=by
 unfold Ĭ at h;split at h
 ·rfl
 ·cases h
noncomputable def kn:List Str:=["goings","plan","ride","wait","back","line","cut","change","put","show","run","least","rate","again","late","fate","spare","give"]
section
variable {x y:Str}{n:Int}
theorem Ō {s k:Str}(hx:1<=x.length)(hk:(k.cps.toList.take s.length==s.cps.toList&&decide (s.length<k.length))=Ã):s++x≠k:=λe=>by
 subst e;rw[Bool.and_eq_false_iff]at hk;have l:(s++x).length=s.length+x.length:=by rw[←xy,wp,d7,xy,xy]
 rcases hk with hk|hk
 ·rw[wp,←xy s,List.take_left,beq_self_eq_true]at hk;cases hk
 ·have:=of_decide_eq_false hk;lia
theorem L5 (ho:dX.strOk w=Â)(hn:∀k∈kn,w≠k){k:String}(hk:(k:Str)∈kn):jQ Ã (.str w) (.str k)=Z (.bl Ã):=by rw[zr9 ho<|OW k,decide_eq_false<|hn _ hk];rfl
theorem M4 (ho:dX.strOk w=Â)(hn:∀k∈kn,w≠k)(EW:uV Ã nt .non=Z (.bl Â)\/nt=nK x y AK):gB [dk nt tl pt n,fU [w]]=Z (.bl Ã):=by
 have E:∀{k:String} {O:L3.Env} {a:EF},(k:Str)∈kn->a O=Z (.str w)->tb (e2 (jQ Ã) a<|eC<|.str k) O=Z Ã:=λhk h=>kR<|gU h rfl<|L5 ho hn hk;have m:∀{k:Str},k∈kn->(w==k)=Ã:=λhk=>beq_false_of_ne<|hn _ hk;rcases EW with EW|rfl
 ·exact zx (kA (E (k:="goings") (by decide +kernel) rfl) rfl)<|wO (tM (Gf<|kR<|gU rfl rfl EW) rfl) rfl
 ·have i1:ê Ã (.str w) wf=Z (.bl Ã):=by show Z (D.bl<|Dv (.str w) [.str "late",.str "fate",.str "spare",.str "give"])=_;unfold Dv;simp only[iZ,List.any_nil,Dk];rw[beq_false_of_ne (hn "late" (by decide +kernel)).symm,beq_false_of_ne (hn "fate" (by decide +kernel)).symm,beq_false_of_ne (hn "spare" (by decide +kernel)).symm,beq_false_of_ne (hn "give" (by decide +kernel)).symm];rfl
  have i2:CI Â uw (.str w)=Z (.bl Â):=by
   show Z (D.bl !(uw.lookup w).isSome)=_;have:uw.lookup w=S:=List.lookup_eq_none_iff.mpr λp hp=>by
    have:p.1∈kn:=by revert p;decide +kernel
    simpa using hn _ this
   rw[this];rfl
  refine zx (kA (E (k:="goings") (by decide +kernel) rfl) rfl) (zx (kA (yK (by kernel_rfl)<|HR<|kR<|gU rfl rfl i1) rfl)<|zx (kA (E (k:="plan") (by decide +kernel) rfl) rfl)<|wO (tM (kR ?_)<|Ed<|z8 rfl ?_) rfl)
  ·exact i2
  ·exact zx (kA (E (k:="ride") (by decide +kernel) rfl) rfl) (zx (kA (yK (E (k:="wait") (by decide +kernel) rfl)<|E (k:="back") (by decide +kernel) rfl) rfl)<|zx (kA (E (k:="line") (by decide +kernel) rfl) rfl) rfl)
theorem Tg {s:Str}(h:mC x y)(hs:dX.strOk s=Â)(hk:(kn.all λk=>!(k.cps.toList.take s.length==s.cps.toList&&decide (s.length<k.length)))=Â)(EW:uV Ã nt .non=Z (.bl Â)\/nt=nK x y AK):gB [dk nt tl pt n,WT x y [.k s]]=Z (.bl Ã):=by refine M4 (w:=s++x) ?_ (λk q=>Ō (Ld h.nx).1<|by have:=fN.mp hk k q;rwa[BV]at this) EW;have hx:=ő h.nx;unfold dX.strOk at *;rw[←m6]at *;rw[wp,List.all_append,hs,hx];rfl
end
section
variable {x y:Str}{n:Int}
theorem BB {op:List D->Option D}{r:Option D}(h1:fs O=Z Y)(h2:op Y=r):eN op fs O=r:=by unfold eN;rw[h1];exact h2
theorem LY {f:BF}{b:Bool}(h:f O=Z b):eB f O=Z (.bl b):=by unfold eB;rw[h];rfl
theorem ķ (h:wM x=Â):lC [.str x]=Z (.bl Ã):=by
 have l:=Ld h;have le:=RX (x:=x) (by lia);have q:pF [Z<|.str x]=l9 (x.cps.toList.map λc=>D.bl<|EO c) :=
  KW (λc=>D.str<|nM c) (λc=>D.bl<|EO c) x.cps.toList rfl (by rw[xy];lia) λc _=>⟨_,rfl,RW c⟩
 have a:x.cps.toList.all EO=Ã:=by
  unfold wM at h;cases hw:x.cps.toList with
  |nil=>rw[hw]at h;cases h
  |cons c r=>
   rw[hw]at h;have h:=(oU.mp (oU.mp h).1).2;have:EO c=Ã:=decide_eq_false λz=>by have:=of_decide_eq_true (p:=97<=c/\c<=122) h;lia
   rw[hG,this];rfl
 refine wO (tM (yK (kR<|gU (BB rfl le) rfl<|(Ď _ _).trans<|by rw[decide_eq_false<|by lia])<|yK (kR<|gU (BB rfl le) rfl<|(ĉ _ _).trans<|by rw[decide_eq_false<|by lia])<|BK<|kR<|BB (iC q rfl)<|(all_map EO _).trans<|by rw[a]) rfl) rfl
theorem Jq {l u:Int}(h:wM x=Â):nu [.str x,.kt [.int l,.int u]]=Z (.bl Ã) :=
 zx (kA rfl rfl) (sQ (LY<|HR<|kR<|z8 rfl<|ķ h) rfl)
theorem TJ (h:mC x y):gB [dk (nK x y AK) tl pt n,WT x y [.l "cut",.x]]=Z (.bl Ã) :=
 zx (kA (by kernel_rfl) rfl) (zx (kA (by kernel_rfl) rfl)<|zx (kA (by kernel_rfl) rfl)<|zx (kA (by kernel_rfl) rfl)<|wO (tM (BK<|kR<|z8 rfl<|zx (ww (d:=.kt [.kt [.int 0,.int 999999999999999]])<|by kernel_rfl)<|zx (kA (by kernel_rfl) rfl)<|sQ (BB (iC (ec (Y:=[.tup [.str x,.kt [.int 0,.int 999999999999999]]]) (by kernel_rfl) (by simp)<|Ao rfl (z8 rfl<|Jq h.nx) rfl) rfl) rfl) rfl) rfl) rfl)
theorem ϫ (h:mC x y):gB [dk (nK x y AK) (nW x y) pt n,WT x y [.l "give",.x,.y]]=Z (.bl Ã) :=
 zx (kA (by kernel_rfl) rfl) (zx (kA (by kernel_rfl) rfl)<|zx (kA (by kernel_rfl) rfl)<|zx (kA (by kernel_rfl) rfl)<|wO (tM (BK<|kR<|z8 rfl<|zx (ww (d:=.kt [.non,.kt [.int 0,.int 60]])<|by kernel_rfl)<|zx (kA (by kernel_rfl) rfl)<|sQ (BB (iC (ec (Y:=[.tup [.str x,.non],.tup [.str y,.kt [.int 0,.int 60]]]) (by kernel_rfl) (by simp)<|Ao rfl (y:=.bl Â) rfl<|Ao rfl (z8 rfl<|Jq h.ny) rfl) rfl) rfl) rfl) rfl) rfl)
def bad (st:D)(x y:Str)(ws:List Tk):Bool:=Ĭ<|gB [st,WT x y ws]
def yJ (st:D)(x y:Str)(ws:List Tk):Prop:=E7 ws=Â/\gB [st,WT x y ws]=Z (.bl Ã)
theorem OY {st:D}{l:List (List Tk)}(h1:(l.all λws=>E7 ws)=Â)(h2:(l.all<|bad st x y)=Â):∀ws∈l,yJ st x y ws:=λws hw=>⟨fN.mp h1 ws hw,ō<|fN.mp h2 ws hw⟩
theorem O7 (h:mC x y)(EW:uV Ã nt .non=Z (.bl Â)\/nt=nK x y AK):yJ (dk nt tl pt n) x y [.k "goings;"]/\yJ (dk nt tl pt n) x y [.k "late"]:=⟨⟨by kernel_rfl,Tg h (OW _) (by decide +kernel) EW⟩,by kernel_rfl,Tg h (OW _) (by decide +kernel) EW⟩
theorem Nl (h:mC x y):∀ws∈rN++rP++rA++rE,yJ (dk .non .non pt n) x y ws:=by have p:=O7 (nt:=.non) (tl:=.non) (pt:=pt) (n:=n) h<|.inl rfl;have q:=OY (st:=dk .non .non pt n) (x:=x) (y:=y) (l:=q1++[.l "cut",.x]::q2++[.l "net"]::q4++rP++rA++rE) (by kernel_rfl) (by kernel_rfl);simp only[rN,iQ,iw]at q ⊢;exact⟨⟨⟨⟨⟨⟨q.1.1.1.1.1,q.1.1.1.1.2⟩,p.1,q.1.1.1.2.1,p.2,nofun⟩,q.1.1.1.2.2⟩,q.1.1.2⟩,q.1.2⟩,q.2⟩
theorem Nm (h:mC x y):∀ws∈rN++rP++rA,yJ (dk (nK x y AK) .non pt n) x y ws:=by have p:=O7 (tl:=.non) (pt:=pt) (n:=n) h<|.inr rfl;have q:=OY (st:=dk (nK x y AK) .non pt n) (x:=x) (y:=y) (l:=q1++q2++[.l "net"]::q4++rP++rA) (by kernel_rfl) (by kernel_rfl);simp only[rN,iQ,iw]at q ⊢;exact⟨⟨⟨⟨⟨q.1.1.1.1,⟨by kernel_rfl,TJ h⟩,q.1.1.1.2⟩,p.1,q.1.1.2.1,p.2,nofun⟩,q.1.1.2.2⟩,q.1.2⟩,q.2⟩
theorem IX (h:mC x y):∀ws∈rN++rP,yJ (dk (nK x y AK) (nW x y) pt n) x y ws:=by have p:=O7 (tl:=nW x y) (pt:=pt) (n:=n) h<|.inr rfl;have q:=OY (st:=dk (nK x y AK) (nW x y) pt n) (x:=x) (y:=y) (l:=q1++q2++[.l "net"]::q4++p1++p3) (by kernel_rfl) (by kernel_rfl);simp only[rN,rP,iQ,iw]at q ⊢;exact⟨⟨⟨⟨q.1.1.1.1,⟨by kernel_rfl,TJ h⟩,q.1.1.1.2⟩,p.1,q.1.1.2.1,p.2,nofun⟩,q.1.1.2.2⟩,q.1.2,⟨by kernel_rfl,ϫ h⟩,q.2⟩
end
section
variable {b:EF}{d p p':D}{es:List D}{i k:Nat}{u:n9}{mf:List D->Option D}{n:Int}
theorem fm (h:gm (Î N Y)=Z (d,Z p::O)):á 0 N gm Y=Z (.tup [d,p]):=by unfold á;rw[h];rfl
theorem Uy (h:u (Z (.obj k [] [])::Î N.tail Y)=Z (.ok<|.nx (Z d::O))):Av N u k Y=Z (.ok d):=by unfold Av;rw[h];rfl
theorem Bz (h3:J i O=Z p)(h4:fs O=Z es)(hc:nk p=Â)(h5:mf (p::es)=Z (.tup [d,p'])):rX i fs mf O=Z (d,O.set i<|Z p'):=by unfold rX;rw[h3,h4];show(if nk p=Â then _ else _)=_;rw[if_pos hc,h5];rfl
theorem HU {tb:List (Str×(List D->Option D))}(h1:a O=Z (.str w))(h2:tb.lookup w=Z mf)(h:rX i fs mf O=Z (d,ρ')):wG i a fs tb O=Z (d,ρ'):=by unfold wG;rw[h1];show(ej (tb.lookup w) _)=_;rw[h2];exact h
theorem HY (h:a (Z (dk nt tl pt n)::O)=Z d):sx 0 [5,6] "net" a (Z (dk nt tl pt n)::O)=Z (.nx (Z (dk d tl pt n)::O)):=by unfold sx;rw[h];rfl
theorem LK (h:a (Z (dk nt tl (.cel []) n)::O)=Z d):Be 0 [6] a (Z (dk nt tl (.cel []) n)::O)=Z (.nx (Z (dk nt tl (.cel [d]) n)::O)):=by unfold Be;rw[h];rfl
theorem Pf {β:Type}{o:Option α}{k:α->Option β}{a:α}{r:Option β}(h:o=Z a)(h2:k a=r):o.bind k=r:=by rw[h];exact h2
theorem Ni (h:a O=Z d):à a O=Z (d,O):=by unfold à;rw[h];rfl
theorem Ey {row FH:D}(h0:J i O=Z (dk nt tl pt n))(h1:fs O=Z [row])(h2:eS [dk nt tl pt n,row]=Z (.tup [FH,d])):mE i 6 "say" fs eS O=Z (FH,O.set i<|Z d):=by unfold mE;rw[h0,h1];show(if 6=6/\(["net","table","puts","answered"]:List Str).contains "say"=Ã then(eS [dk nt tl pt n,row]).bind _ else S)=_;rw[if_pos ⟨rfl,by decide +kernel⟩,h2];rfl
end
section
variable {x y:Str}{P8 Qm Qd U' FH:D}{n:Int}{r:Str}
theorem TK {d:D}(sp:oI (.str r) (.str " ")=Z U')(hr:gB [dk nt tl pt n,U']=Z (.bl Â))(h:pv [Z<|dk nt tl pt n,Z<|.str r,Z U',S]=Z (FH,Z d::O)):eS [dk nt tl pt n,.str r]=Z (.tup [FH,d]) :=
 fm (L rfl<|L (ww<|gU rfl rfl sp)<|L (kA (BL<|kR<|z8 rfl hr) rfl) h)
theorem O8 {q p:Str}(hp:ê Â (.str p) (fU [x,y])=Z (.bl Ã))(hq:ê Â (.str q) (fU [x,y])=Z (.bl Ã)):iG [fU [p,q],fU [x,y]]=Z .non:=by show(ej (ej (sO (gV 2) eA [.str p,.str q] [Z<|fU [p,q],Z<|fU [x,y],S]) _) _)=_;rw[HB hp<|HB hq rfl];rfl
theorem Ķ:iG [fU [x],fU [x,y]]=Z .non:=by show(ej (ej (sO (gV 2) eA [.str x] [Z<|fU [x],Z<|fU [x,y],S]) _) _)=_;rw[HB rH rfl];rfl
theorem LC {T:D}{mf:List D->Option D}(h:mC x y)(hk:E7 ws=Â)(hr:gB [dk (nK x y as) tl pt n,WT x y ws]=Z (.bl Â))(hg:tb (e2 (jQ Â) (e2 gK (J 2)<|eC<|.int 0)<|eC<|.str "goings") [Z<|dk (nK x y as) tl pt n,Z<|.str<|kN x y ws,Z<|WT x y ws,S]=Z Â)(ht:ip [WT x y ws]=Z T)(hm:iG [T,fU [x,y]]=Z .non)(h0:gK (WT x y ws) (.int 0)=Z (.str w))(hd:pY.lookup w=Z mf)(h5:mf [dk (nK x y as) tl pt n,WT x y ws]=Z (.tup [FH,dk P8 Qm Qd n])) :
  eS [dk (nK x y as) tl pt n,.str<|kN x y ws]=Z (.tup [FH,dk P8 Qm Qd<|n+1]) :=
 TK (AD h hk) hr (L (tM hg<|LR<|z8 (iC (z8 rfl ht) rfl) hm)<|L (Ă<|HU h0 hd<|Bz rfl rfl rfl h5)<|L rfl rfl)
theorem TL (h:mC x y)(hl:as.length<=20)(hn:iT [Z<|.obj 4 [] [],Z<|fU [x,y],l9 as,S,S,S]=Z (.ok<|.nx (Z (nK x y as)::O))):lQ 4 [fU [x,y],.lst as]=Z (nK x y as):=by show(ej (iz 4 _) Np)=_;rw[show iz 4 [fU [x,y],.lst as]=Z (.ok<|nK x y as)from Uy (qn (xf (yK (BL<|kR<|z8 rfl<|Tc h)<|kR<|gU rfl rfl<|(ĉ _ _).trans<|by rw[decide_eq_false<|by lia]) rfl) hn)];rfl
theorem ĵ (h:mC x y):eS [dk nt tl pt n,.str<|kN x y [.l "goings",.x,.y]]=Z (.tup [.str "ok",dk (nK x y []) .non (.cel [])<|n+1]) :=
 TK (AD h<|by kernel_rfl) (by kernel_rfl) (L (kA (by kernel_rfl) rfl)<|L (Ă<|HU (w:="goings") (by kernel_rfl) rfl<|Bz rfl rfl rfl<|fm<|L (HY<|z8 (iC (d:=fU [x,y]) (by kernel_rfl) rfl)<|TL (O:=[Z<|fU [x,y],Z<|.lst [],S,S,Z<|.lst [.int 0,.int 1]]) h (by decide)<|by kernel_rfl)<|L rfl<|L rfl rfl)<|L rfl rfl)
theorem take {bs:List D}(h:mC x y)(hl:bs.length<=20)(hn:iT [Z<|.obj 4 [] [],Z<|fU [x,y],l9 bs,S,S,S]=Z (.ok<|.nx (Z (nK x y bs)::O))):mI [dk (nK x y as) tl pt n,.lst bs]=Z (.tup [.str "ok",dk (nK x y bs) .non pt n]) :=
 fm (L (HY<|z8 rfl<|TL h hl hn)<|L rfl rfl)
theorem Ĵ (h:mC x y):eS [dk (nK x y []) tl pt n,.str<|kN x y [.l "wait",.x,.y,.l "4",.l "0"]]=Z (.tup [.str "ok",dk (nK x y [iX ⟨.wait,0,1,4,0⟩]) .non pt<|n+1]) :=
 LC (T:=fU [x,y]) (w:="wait") h (by kernel_rfl) (by kernel_rfl) (by kernel_rfl) (by kernel_rfl) (O8 rH Aw) (by kernel_rfl) rfl (fm<|Bz rfl (iC (d:=.lst [iX ⟨.wait,0,1,4,0⟩]) (gU rfl (z8 rfl<|zx (kA (by kernel_rfl) rfl)<|sQ (HC<|iC (z8 rfl<|zx (ww<|gU rfl (by kernel_rfl) sP)<|zx (ww<|gU rfl (by kernel_rfl)<|Ay h) (rd:=some<|iX ⟨.wait,0,1,4,0⟩)<|by kernel_rfl) rfl) rfl) rfl) rfl) rfl<|take (O:=[Z<|fU [x,y],Z<|.lst [iX ⟨.wait,0,1,4,0⟩],gX 0,Z<|iX ⟨.wait,0,1,4,0⟩,Z<|.lst [.int 0,.int 1]]) h (by decide)<|by kernel_rfl)
theorem ĳ (h:mC x y):eS [dk (nK x y [iX ⟨.wait,0,1,4,0⟩]) tl pt n,.str<|kN x y [.l "back",.y,.x,.l "4",.l "1"]]=Z (.tup [.str "ok",dk (nK x y AK) .non pt<|n+1]) :=
 LC (T:=fU [y,x]) (w:="back") h (by kernel_rfl) (by kernel_rfl) (by kernel_rfl) (by kernel_rfl) (O8 Aw rH) (by kernel_rfl) rfl (fm<|Bz rfl (iC (d:=.lst AK) (gU rfl (z8 rfl<|zx (kA (by kernel_rfl) rfl)<|sQ (HC<|iC (z8 rfl<|zx (ww<|gU rfl (by kernel_rfl)<|Ay h)<|zx (ww<|gU rfl (by kernel_rfl) sP) (rd:=some<|iX ⟨.back,1,0,4,1⟩)<|by kernel_rfl) rfl) rfl) rfl) rfl) rfl<|take (O:=[Z<|fU [x,y],l9 AK,gX 1,Z<|iX ⟨.back,1,0,4,1⟩,Z<|.lst [.int 0,.int 1]]) h (by decide)<|by kernel_rfl)
noncomputable def Gh:D:=.cel [.tup [.int 0,.int 0,.int 3]]
theorem Ψ (h:mC x y):eS [dk (nK x y AK) tl (.cel []) n,.str<|kN x y [.l "put",.x,.l "0",.l "3"]]=Z (.tup [.str "ok",dk (nK x y AK) tl Gh<|n+1]) :=
 LC (T:=fU [x]) (w:="put") h (by kernel_rfl) (by kernel_rfl) (by kernel_rfl) (by kernel_rfl) Ķ (by kernel_rfl) rfl (fm<|L (LK<|Pf (iC (d:=.int 0) (z8 (Y:=[dk (nK x y AK) tl (.cel []) n,.str x]) (by kernel_rfl)<|sQ (gU rfl rfl sP) rfl) (Y:=[.int 0,.int 3])<|by kernel_rfl) rfl) rfl)
theorem ŋ (h:mC x y):eS [dk (nK x y AK) (nW x y) pt n,.str<|kN x y [.l "spare",.x,.y]]=Z (.tup [.str "1",dk (nK x y AK) (nW x y) pt<|n+1]) :=
 LC (T:=fU [x,y]) (w:="spare") h (by kernel_rfl) (by kernel_rfl) (by kernel_rfl) (by kernel_rfl) (O8 rH Aw) (by kernel_rfl) rfl (fm<|L (ww (d:=.tup [.int 1,.lst [.int 0],.lst [.int 0,.int 1]])<|z8 (Y:=[nW x y,.int 0,.int 1]) (iC rfl<|iC (z8 (Y:=[dk (nK x y AK) (nW x y) pt n,.str x]) (by kernel_rfl)<|sQ (gU rfl rfl sP) rfl)<|iC (z8 (Y:=[dk (nK x y AK) (nW x y) pt n,.str y]) (by kernel_rfl)<|sQ (gU rfl rfl<|Ay h) rfl) rfl)<|by kernel_rfl)<|Ni<|by kernel_rfl)
end
noncomputable def mk (g:Nat->Nat)(n:Nat):Str:=⟨((kz n).map g).toArray⟩
def Jm (x y:Str):D:=fU [kN x y [.l "goings",.x,.y],kN x y [.l "wait",.x,.y,.l "4",.l "0"],kN x y [.l "back",.y,.x,.l "4",.l "1"]]
def zU (x y:Str):Str:=Str.join (nM 10) [kN x y [.l "goings",.x,.y],kN x y [.l "wait",.x,.y,.l "4",.l "0"],kN x y [.l "back",.y,.x,.l "4",.l "1"]]
def Az (x y:Str):Str:=match pS [dk (nK x y AK) (nW x y) Gh 0,fU ["late","3"]]with
 |some (.tup [.str t,_])=>t
 |_=>""
noncomputable abbrev ü:=D×Option D
def xI (n:Int)(p:ü):D:=.tup [p.1,p.2.getD<|.tup [.str "row",.int n]]
def oH (x y:Str)(l:List<|List Tk):List ü:=l.map λws=>(.str<|kN x y ws,S)
def Ec (x y:Str)(l:List<|List Tk×D×D):List ü:=l.map λp=>(.str<|kN x y p.1,Z<|.tup [p.2.1,p.2.2])
def LZ (x y:Str):List ü:=oH x y (rN++rP++rA)++Ec x y E8++[(.non,S),(.int 5,S)]
def L0 (x y:Str):List ü:=oH x y (rN++rP)++Ec x y E8++Ec x y MC
structure Fx (x y:Str):Prop where
 ka:ke [.str x,.str y]=l9 ((oH x y rN).map (·.1))
 kb:kd [.str x,.str y]=l9 ((oH x y rP).map (·.1))
 kc:i7 [.str x,.str y]=l9 ((oH x y rA).map (·.1))
 k2:∀S' d s f k,AW [S',Z<|.str x,Z<|.str y,d,s,f,k,S,S,S,S]=wF [S',Z<|.str x,Z<|.str y,d,s,f,k,Z<|Jm x y,S,S,S]
 k3:∀S' d s f k r,AV [S',Z<|.str x,Z<|.str y,d,s,f,k,Z<|Jm x y,r,S,S]=AU [S',Z<|.str x,Z<|.str y,d,l9<|(LZ x y).map<|xI 3,f,k,Z<|Jm x y,r,Z<|.str<|zU x y,S]
 k5:∀S' d s f k r q v t,AT [S',Z<|.str x,Z<|.str y,d,s,f,k,q,r,v,t]=AS [S',Z<|.str x,Z<|.str y,d,l9<|(L0 x y).map<|xI 14,f,k,q,r,v,t]
 k6:∀S' t,e2 dL (e2 dL (eC<|.str "put ")<|J 1) (eC<|.str " 0 3") (S'::Z (.str x)::t)=Z (.str<|kN x y [.l "put",.x,.l "0",.l "3"])
 k7:∀S' t,e2 dL (e2 dL (e2 dL (eC<|.str "spare ")<|J 1)<|eC<|.str " ") (J 2) (S'::Z (.str x)::Z (.str y)::t)=Z (.str<|kN x y [.l "spare",.x,.y])
 k8:∀tl pt n,eS [dk (nK x y AK) tl pt n,.str "show"]=Z (.tup [.str<|zU x y,dk (nK x y AK) tl pt<|n+1])
 k9:∀n,eS [dk (nK x y AK) (nW x y) Gh n,.str "late 3"]=Z (.tup [.str<|Az x y,dk (nK x y AK) (nW x y) Gh<|n+1])
theorem f1 (g g':Nat->Nat):Fx (mk g 1) (mk g' 1):=by constructor<;>intros<;>kernel_rfl
theorem f2 (g g':Nat->Nat):Fx (mk g 2) (mk g' 2):=by constructor<;>intros<;>kernel_rfl
theorem f3 (g g':Nat->Nat):Fx (mk g 3) (mk g' 3):=by constructor<;>intros<;>kernel_rfl
theorem f4 (g g':Nat->Nat):Fx (mk g 4) (mk g' 4):=by constructor<;>intros<;>kernel_rfl
theorem f5 (g g':Nat->Nat):Fx (mk g 5) (mk g' 5):=by constructor<;>intros<;>kernel_rfl
theorem f6 (g g':Nat->Nat):Fx (mk g 6) (mk g' 6):=by constructor<;>intros<;>kernel_rfl
theorem f7 (g g':Nat->Nat):Fx (mk g 7) (mk g' 7):=by constructor<;>intros<;>kernel_rfl
theorem f8 (g g':Nat->Nat):Fx (mk g 8) (mk g' 8):=by constructor<;>intros<;>kernel_rfl
theorem Ĳ {n:Nat}(h1:1<=n)(h8:n<=8)(g g':Nat->Nat):Fx (mk g n) (mk g' n):=by
 have:n=1\/n=2\/n=3\/n=4\/n=5\/n=6\/n=7\/n=8:=by lia
 rcases this with rfl|rfl|rfl|rfl|rfl|rfl|rfl|rfl
 ·exact f1 g g'
 ·exact f2 g g'
 ·exact f3 g g'
 ·exact f4 g g'
 ·exact f5 g g'
 ·exact f6 g g'
 ·exact f7 g g'
 ·exact f8 g g'
theorem Ŋ {x y:Str}{n:Int}:eS [dk (nK x y AK) .non (.cel []) n,.str "plan 10 0 5"]=Z (.tup [.str "ok",dk (nK x y AK) (nW x y) (.cel [])<|n+1]):=by kernel_rfl
noncomputable def Ē (g g':Nat->Nat)(c:Nat):Nat:=if c<1000000 then c else if c<1001000 then g (c-1000000)else g' (c-1001000)
theorem Th {g g':Nat->Nat}{v:Str}(h:w.cps.toList=v.cps.toList.map (Ē g g'))(hg:∀i,g i<1114112)(U0:∀i,g' i<1114112):xM (.str w)=Â:=by
 have:dX.strOk w=Â:=by
  unfold dX.strOk;rw[←m6,h,fN];intro c hc;obtain⟨d,_,rfl⟩:=g0.mp hc;rw[decide_eq_true_iff];unfold Ē;split
  ·lia
  ·split
   ·exact hg _
   ·exact U0 _
 show(((dX.str w).canLay0&&decide ((dX.str w).depth<=60))&&(dX.str w).canLay0)=Â;rw[show(dX.str w).canLay0=Â from this];rfl
theorem ı:∀{n:Nat},1<=n->n<=8->∀g g':Nat->Nat,(zU (mk g n)<|mk g' n).cps.toList=(zU (mk (1000000 + ·) n)<|mk (1001000 + ·) n).cps.toList.map (Ē g g')/\(Az (mk g n)<|mk g' n).cps.toList=(Az (mk (1000000 + ·) n)<|mk (1001000 + ·) n).cps.toList.map (Ē g g'):=by
 intro n h1 h8 g g';have:n=1\/n=2\/n=3\/n=4\/n=5\/n=6\/n=7\/n=8:=by lia
 rcases this with rfl|rfl|rfl|rfl|rfl|rfl|rfl|rfl<;>constructor<;>kernel_rfl
section
variable {b:EF}{p:BF}{q:BM}{f g:SF}{d:D}
theorem HS {h:D->L3.Env->Option L3.Env}(h1:a O=Z d)(h2:h d O=Z ρ'):ì h a O=Z (.nx ρ'):=by unfold ì;rw[h1];show(ej (h d O) _)=_;rw[h2];rfl
theorem yD (h:q O=Z (Ã,ρ')):wV q f Ë O=Z (.nx ρ'):=by unfold wV;rw[h];rfl
theorem Nu (h:p O=Z Ã)(h2:q O=Z (Ã,ρ')):Gb (mT p) q O=Z (Ã,ρ'):=by unfold Gb mT;rw[h];exact h2
theorem Ap (h:gm O=Z (d,ρ'))(h2:a ρ'=Z d)(h3:xM d=Â):yG (jQ Â) gm a O=Z (Ã,ρ'):=by unfold yG;rw[h];show(ej (a ρ') _)=_;rw[h2];show(ej (jQ Â d d) _)=_;rw[Lc h3];rfl
theorem TN (h:fs O=Z Y):(λO=>(fs O).bind λY=>Z<|D.tup Y) O=Z (.tup Y):=by show(fs O).bind _=_;rw[h];rfl
theorem IK {E:List ü}{enc:ü->D}(hE:0<E.length)(h1:a O=l9 (E.map enc)){z:Int}(h2:b O=gX z):∃e∈E,e2 gK a (e2 lR b<|eN iE<|Ä a Å) O=Z (enc e):=by
 have m1:=uG z (show(E.length:Int)≠0 by lia);have m2:=qY z (show(0:Int)<E.length by lia);obtain⟨j,hj⟩:∃j:Nat,z%(E.length:Int)=j:=⟨(z%(E.length:Int)).toNat,by lia⟩;have hl:j<E.length:=by lia
 refine⟨E[j],Ca hl,gU h1 (gU h2 (BB (iC h1 rfl)<|show iE [.lst<|E.map enc]=gX E.length by rw[ď,dY])<|(wm<|by lia).trans<|by rw[hj]) ?_⟩;exact So enc (.inl rfl)<|gI hl
end
section
variable {x y:Str}{E:List ü}{s k n c:Int}{u:Str}{z6 z7:Option D}
structure Gd (x y:Str)(tl pt:D)(p:ü):Prop where
 said:∀n:Int,0<=n->n<64->iA [dk (nK x y AK) tl pt n,p.1]=Z (p.2.getD<|.tup [.str "row",.int n])
 ok:∀n:Int,xM (p.2.getD<|.tup [.str "row",.int n])=Â
 later:∀n c:Int,lD [p.2.getD<|.tup [.str "row",.int n],.int c]=Z (p.2.getD<|.tup [.str "row",.int<|n+c])
theorem HV {as:Bool}(hE:∀e∈E,Gd x y tl pt e)(h0:0<E.length)(F:Fx x y)(ho:xM (.str<|zU x y)=Â)(n0:0<=n)(n1:n<64)(k0:0<=k)(k1:k<64):∃v6 v7,∀{r:Option é},nE [Z<|dk (nK x y AK) tl pt<|n+1,l9<|E.map<|xI n,gX s,Z<|.tup [.str<|zU x y,.str u],Z<|.bl as,gX k,v6,v7]=r->kl [Z<|dk (nK x y AK) tl pt n,l9<|E.map<|xI n,gX s,Z<|.tup [.str<|zU x y,.str u],Z<|.bl as,gX k,z6,z7]=r:=by obtain⟨e,he,hi⟩:=IK (a:=J 1) (b:=e2 dL (J 2)<|e2 ki (J 5)<|e2 dL (eC<|.int 1)<|e2 lR (J 2)<|eC<|.int 7) (O:=[Z<|dk (nK x y AK) tl pt n,l9<|E.map<|xI n,gX s,Z<|.tup [.str<|zU x y,.str u],Z<|.bl as,gX k,z6,z7]) h0 rfl (gU rfl (gU rfl (gU rfl (gU rfl rfl<|wm<|by decide) rfl)<|je (by lia)<|by lia) rfl);have W':=hE e he;exact⟨_,_,λhK=>LB (HS hi rfl)<|LB (yD<|Nu (kR<|gU (z8 rfl<|W'.said n n0 n1) rfl<|Lc<|W'.ok n)<|Ap (Ey rfl rfl<|F.k8 tl pt n) rfl ho) hK⟩
theorem HW (hE:∀e∈E,Gd x y tl pt e)(hl:E.length<=1000)(h1:J 1 O=l9 (E.map<|xI n)):È 1 nJ O=Z (.nx<|O.set 1<|l9<|E.map<|xI<|n+2)/\È 1 nL O=Z (.nx<|O.set 1<|l9<|E.map<|xI<|n+1):=by
 have i:Ú (J 1) O=Z (E.map<|xI n):=by unfold Ú;rw[h1];rfl
 exact⟨ww<|KW (xI n) (xI<|n+2) E i (by lia) λe he=>⟨_,rfl,TN<|iC rfl<|iC (z8 rfl<|(hE e he).later n 2) rfl⟩,ww<|KW (xI n) (xI<|n+1) E i (by lia) λe he=>⟨_,rfl,TN<|iC rfl<|iC (z8 rfl<|(hE e he).later n 1) rfl⟩⟩
def è (x y:Str)(tl pt:D)(E:List ü)(u:Str)(as:Bool)(c:Int):Prop:=∀s n k:Int,∀z6 z7,0<=n->n<64->0<=k->k<64->∃v6 v7,kl [Z<|dk (nK x y AK) tl pt n,l9<|E.map<|xI n,gX s,Z<|.tup [.str<|zU x y,.str u],Z<|.bl as,gX k,z6,z7]=Z (.nx [Z<|dk (nK x y AK) tl pt<|n+c,l9<|E.map<|xI<|n+c,gX s,Z<|.tup [.str<|zU x y,.str u],Z<|.bl as,gX k,v6,v7])
theorem LM (hE:∀e∈E,Gd x y tl pt e)(h0:0<E.length)(hl:E.length<=1000)(F:Fx x y)(ho:xM (.str<|zU x y)=Â):è x y tl pt E u Ã 1:=λs n k z6 z7 n0 n1 k0 k1=>by obtain⟨v6,v7,q⟩:=HV (s:=s) (u:=u) (z6:=z6) (z7:=z7) (as:=false) hE h0 F ho n0 n1 k0 k1;exact⟨v6,v7,q<|kA rfl (HW hE hl rfl).2⟩
theorem LN (hE:∀e∈E,Gd x y (nW x y) Gh e)(h0:0<E.length)(hl:E.length<=1000)(F:Fx x y)(ho:xM (.str<|zU x y)=Â)(hp:xM (.str<|Az x y)=Â):è x y (nW x y) Gh E (Az x y) Â 2:=λs n k z6 z7 n0 n1 k0 k1=>by obtain⟨v6,v7,q⟩:=HV (s:=s) (u:=Az x y) (z6:=z6) (z7:=z7) (as:=true) hE h0 F ho n0 n1 k0 k1;refine⟨v6,v7,q<|tM rfl<|LB (yD<|Ap (Ey rfl rfl<|F.k9<|n+1) rfl hp) ?_⟩;rw[show n+1+1=n+2 by lia];exact(HW hE hl rfl).1
theorem SJ {as:Bool}(T:è x y tl pt E u as c)(c0:0<=c)(c2:c<=2)(n0:0<=n)(n1:n<40):li [dk (nK x y AK) tl pt n,.lst<|E.map<|xI n,.int s,.tup [.str<|zU x y,.str u],.bl as]=Z (.tup [.bl Â,dk (nK x y AK) tl pt<|n+8*c]):=by
 obtain⟨ρ',h,z5,z6,z7,rfl⟩:=jb (g:=gV 5) (b:=kl) (lo:=0) (n:=8) (O:=[Z<|dk (nK x y AK) tl pt n,l9<|E.map<|xI n,gX s,Z<|.tup [.str<|zU x y,.str u],Z<|.bl as,S,S,S])
  (λj O=>∃z5 z6 z7,O=[Z<|dk (nK x y AK) tl pt<|n+(j:Int)*c,l9<|E.map<|xI<|n+(j:Int)*c,gX s,Z<|.tup [.str<|zU x y,.str u],Z<|.bl as,z5,z6,z7]) ⟨S,S,S,by rw[show n+((0:Nat):Int)*c=n by lia]⟩ (by rintro j O hj ⟨z5,z6,z7,rfl⟩;have:=Int.mul_nonneg (show(0:Int)<=(j:Int)by lia) c0;have:(j:Int)*c<=7*2:=Int.mul_le_mul (by lia) c2 c0 (by lia);obtain⟨v6,v7,q⟩:=T s (n+(j:Int)*c) (0+(j:Int)) z6 z7 (by lia) (by lia) (by lia) (by lia);refine⟨_,_,rfl,.inl q,gX<|0+j,v6,v7,?_⟩;rw[show n+((j+1:Nat):Int)*c=n+(j:Int)*c+c by rw[Int.natCast_add,Int.add_mul];lia])
 exact fm<|L ((HA rfl).trans h) rfl
end
theorem Ls (ns:List Int)(i:Int)(hi:0<=i):∃c,gF [.lst<|ns.map .int,.int i]=gX c:=by
 obtain⟨k,rfl⟩:∃k:Nat,i=k:=⟨i.toNat,by lia⟩;unfold gF;by_cases h:k<ns.length
 ·refine⟨ns[k],?_⟩;have:gK (.lst<|ns.map .int) (.int k)=Z (.int ns[k]):=So D.int (.inl rfl) (by simp[h]);walk_at "mid"
 ·refine⟨0,?_⟩;walk_at "mid"
theorem OK (c:Int){k:Int}(h0:0<=k)(h1:k<=1000000):∃r:Nat,iN [.int c,.int k]=gX r/\r<2147483648:=by
 have m0:ki (.int 31) (.int k)=gX (31*k):=je (by decide) (by decide);have s0:BS (.int c) (.int<|64+31*k)=gX (c/2 ^ (64+31*k).toNat):=Đ (by lia);have fin:∀z:Int,∀m:Int,0<m->m<=2147483648->∃r:Nat,(Z (D.int<|z%m):Option D)=gX r/\r<2147483648:=λz m hm B7=>by have a1:=uG z (by lia:m≠0);have a2:=qY z hm;exact⟨(z%m).toNat,by rw[p5 a1],by lia⟩
 generalize hn:(c+7919*k+1)*48271%2147483647=n1;have b1:0<=n1/\n1<2147483647:=by lia
 have m1:ki (.int 7919) (.int k)=gX (7919*k):=je (by decide) (by decide);have m2:ki (.int<|c+7919*k+1) (.int 48271)=gX ((c+7919*k+1)*48271):=Ĉ (by decide) (by decide);have m3:ki (.int n1) (.int<|n1/1009+69621)=gX (n1*(n1/1009+69621)):=je (by lia) (by lia);generalize Dr:n1*(n1/1009+69621)%2147483647=n2;have b2:0<=n2/\n2<2147483647:=by lia
 have m4:ki (.int n2) (.int<|n2/1013+16807)=gX (n2*(n2/1013+16807)):=je (by lia) (by lia);unfold iN;by_cases hr:(1237940039285380274899124224:Int)<=c
 ·by_cases hs:c/2 ^ (64+31*k).toNat > 0
  ·obtain⟨r,e1,e2⟩:=fin (c/2 ^ (64+31*k).toNat) 2147483648 (by decide) (by decide);refine⟨r,?_,e2⟩;rw[←e1];generalize c/2 ^ (64+31*k).toNat=q at s0 hs;clear e1 e2 fin hn Dr b1 b2 h0 h1;walk_at "mid"
  ·obtain⟨r,e1,e2⟩:=fin (n2*(n2/1013+16807)) 2147483647 (by decide) (by decide);refine⟨r,?_,e2⟩;rw[←e1];generalize c/2 ^ (64+31*k).toNat=q at s0 hs;clear e1 e2 fin b1 b2 h0 h1;walk_at "mid"
 ·obtain⟨r,e1,e2⟩:=fin (n2*(n2/1013+16807)) 2147483647 (by decide) (by decide);refine⟨r,?_,e2⟩;rw[←e1];clear e1 e2 fin b1 b2 h0 h1 s0;walk_at "mid"
theorem VR (c:Nat):(nM c).length=1:=rfl
noncomputable def xX (z:Int):Nat:=97+(z%26).toNat
noncomputable def tL (z:Int):Nat:=if(z%36).toNat<26 then 97+(z%36).toNat else 22+(z%36).toNat
noncomputable def nV (c:Int)(a k j:Nat):Int:=c/(64+37*(j:Int))+(if j=a then(k:Int)else 0)
def xH (c:Int)(a k j:Nat):Nat:=if j=0 then xX (nV c a k j)else tL (nV c a k j)
def E6 (c:Int)(a k n:Nat):List Nat:=(kz n).map<|xH c a k
def uO (c:Int)(a k n:Nat):Str:=⟨(E6 c a k n).toArray⟩
theorem jd (c:Int)(a k n:Nat):(uO c a k n).cps.toList=E6 c a k n:=rfl
def Kv (x:Option D)(c:Nat):Bool:=match x with
 |some (.str a)=>decide<|a=nM c
 |_=>Ã
theorem Ti {x:Option D}{c:Nat}(h:Kv x c=Â):x=Z (.str<|nM c):=by
 unfold Kv at h;split at h
 ·rw[of_decide_eq_true h]
 ·cases h
theorem ŉ:∀l,l<26->Kv (gK (.str "abcdefghijklmnopqrstuvwxyz")<|.int ((l:Nat):Int)) (97+l)=Â:=by decide +kernel
theorem ň:∀l,l<36->Kv (gK (.str<|"abcdefghijklmnopqrstuvwxyz" ++ "0123456789")<|.int ((l:Nat):Int)) (if l<26 then 97+l else 22+l)=Â:=by decide +kernel
theorem M7 (z:Int):gK (.str "abcdefghijklmnopqrstuvwxyz") (.int<|z%26)=Z (.str<|nM<|xX z):=by have:=Ti (ŉ (z%26).toNat<|by lia);rwa[p5<|by lia]at this
theorem M8 (z:Int):gK (.str<|"abcdefghijklmnopqrstuvwxyz" ++ "0123456789") (.int<|z%36)=Z (.str<|nM<|tL z):=by have:=Ti (ň (z%36).toNat<|by lia);rwa[p5<|by lia]at this
theorem zpr (c:Int)(a k n:Nat):uO c a k (n+1)=uO c a k n++nM (xH c a k n):=by apply Lb;rw[wp,jd,jd];unfold E6;rw[Dd,nY];rfl
theorem Χ (c:Int)(a k j:Nat)(hj:j<8)(y1 y4 y6 C3:Option D):∃(GJ:Option D),
  kZ [gX c,y1,Z<|.str "abcdefghijklmnopqrstuvwxyz",Z<|.str<|"abcdefghijklmnopqrstuvwxyz" ++ "0123456789",y4,gX a,y6,gX k,Z<|.str<|uO c a k j,gX j,C3] =
   Z (.nx [gX c,y1,Z<|.str "abcdefghijklmnopqrstuvwxyz",Z<|.str<|"abcdefghijklmnopqrstuvwxyz" ++ "0123456789",y4,gX a,y6,gX k,Z<|.str<|uO c a k<|j+1,gX j,GJ]):=by
 have i1:BE [.bl Â]=gX 1:=rfl;have i0:BE [.bl Ã]=gX 0:=rfl;have m1:ki (.int 37) (.int j)=gX (37*j):=je (by decide) (by decide);have f1:nF (.int c) (.int<|64+37*j)=gX (c/(64+37*(j:Int))):=qk (by lia) (by lia);have ev:(e2 dL (e2 nF (J 0)<|e2 dL (eC<|.int 64)<|e2 ki (eC<|.int 37)<|J 9)<|e2 ki (J 7)<|eN BE<|Ä (e2 (jQ Ã) (J 9)<|J 5) Å) [gX c,y1,Z<|.str "abcdefghijklmnopqrstuvwxyz",Z<|.str<|"abcdefghijklmnopqrstuvwxyz" ++ "0123456789",y4,gX a,y6,gX k,Z<|.str<|uO c a k j,gX j,C3]=gX (nV c a k j):=by
  unfold nV;generalize ("abcdefghijklmnopqrstuvwxyz" ++ "0123456789":Str)=B,("abcdefghijklmnopqrstuvwxyz":Str)=A,uO c a k j=w at *;by_cases hb:j=a
  ·have m2:ki (.int k) (.int 1)=gX (k:Int):=(Ĉ (by decide)<|by decide).trans (by rw[Int.mul_one]);rw[if_pos hb];subst hb;generalize c/(64+37*(j:Int))=C at *;clear hj i0;walk_at "mid"
  ·have m2:ki (.int k) (.int 0)=gX 0:=(Ĉ (by decide)<|by decide).trans (by rw[Int.mul_zero]);rw[if_neg hb];have hb:¬(j:Int)=a:=by lia
   generalize c/(64+37*(j:Int))=C at *;clear hj i1;walk_at "mid"
 clear f1 m1 i0 i1;have x1:=M7<|nV c a k j;have x2:=M8<|nV c a k j;have es:=zpr c a k j;have lw:(uO c a k j).length=j:=by rw[←xy,jd];unfold E6;simp
 refine⟨Z<|.int<|nV c a k j,?_⟩;have g1:lR (.int<|nV c a k j) (.int 26)=gX (nV c a k j%26):=wm (by decide);have g2:lR (.int<|nV c a k j) (.int 36)=gX (nV c a k j%36):=wm (by decide);have ad:dL (.str<|uO c a k j) (.str<|nM<|tL<|nV c a k j)=Z (.str<|uO c a k j++nM (tL<|nV c a k j)):=RF (by rw[VR];lia);unfold kZ;generalize (e2 dL (e2 nF (J 0)<|e2 dL (eC<|.int 64)<|e2 ki (eC<|.int 37)<|J 9)<|e2 ki (J 7)<|eN BE<|Ä (e2 (jQ Ã) (J 9)<|J 5) Å)=EV at *;by_cases h0:j=0
 ·have e0:uO c a k (j+1)=nM (xX<|nV c a k j):=by rw[es];unfold xH;rw[if_pos h0,h0];apply Lb;rw[wp];rfl
  rw[e0];clear es lw e0 hj g2 x2;generalize ("abcdefghijklmnopqrstuvwxyz" ++ "0123456789":Str)=B,("abcdefghijklmnopqrstuvwxyz":Str)=A,nV c a k j=S',uO c a k j=w at *;subst h0;have z0:((0:Nat):Int)=0:=rfl;rw[z0]at ev ⊢;walk_at "mid"
 ·have e0:xH c a k j=tL (nV c a k j):=by unfold xH;rw[if_neg h0]
  rw[es,e0];clear es lw e0 hj g1 x1;have h0:¬(j:Int)=0:=by lia
  generalize ("abcdefghijklmnopqrstuvwxyz" ++ "0123456789":Str)=B,("abcdefghijklmnopqrstuvwxyz":Str)=A,nV c a k j=S' at *;generalize uO c a k j++nM (tL S')=w2 at *;generalize uO c a k j=w at *;walk_at "mid"
def pT (c:Int)(a sz mo:Nat):List Str:=(kz mo).map λk=>uO c a k sz
theorem Φ (c:Int){a sz mo:Nat}(hm:mo<=8)(hs:sz<=8):∃y7 y8 y9 C3:Option D,pQ (gV 7) jY (uZ 0 mo) [gX c,gX mo,Z<|.str "abcdefghijklmnopqrstuvwxyz",Z<|.str<|"abcdefghijklmnopqrstuvwxyz" ++ "0123456789",gX sz,gX a,Z<|.lst [],S,S,S,S]=Z (.nx [gX c,gX mo,Z<|.str "abcdefghijklmnopqrstuvwxyz",Z<|.str<|"abcdefghijklmnopqrstuvwxyz" ++ "0123456789",gX sz,gX a,Z<|fU<|pT c a sz mo,y7,y8,y9,C3]):=by
 have r2:=RG (j:=(sz:Int)) (by lia) (by lia);rw[kS]at r2;obtain⟨ρ',h1,y7,y8,y9,C3,rfl⟩:=jb (g:=gV 7) (b:=jY) (lo:=0) (n:=mo) (O:=[gX c,gX mo,Z<|.str "abcdefghijklmnopqrstuvwxyz",Z<|.str<|"abcdefghijklmnopqrstuvwxyz" ++ "0123456789",gX sz,gX a,Z<|.lst [],S,S,S,S])
  (λn O=>∃(y7 y8 y9 C3:Option D),O=[gX c,gX mo,Z<|.str "abcdefghijklmnopqrstuvwxyz",Z<|.str<|"abcdefghijklmnopqrstuvwxyz" ++ "0123456789",gX sz,gX a,Z<|fU<|pT c a sz n,y7,y8,y9,C3]) ⟨_,_,_,_,rfl⟩ (by
   rintro k O hk ⟨y7,y8,y9,C3,rfl⟩;obtain⟨ρ2,h2,z9,GJ,rfl⟩:=jb (g:=gV 9) (b:=kZ) (lo:=0) (n:=sz) (O:=[gX c,gX mo,Z<|.str "abcdefghijklmnopqrstuvwxyz",Z<|.str<|"abcdefghijklmnopqrstuvwxyz" ++ "0123456789",gX sz,gX a,Z<|fU<|pT c a sz k,gX k,Z<|.str "",y9,C3])
    (λn O=>∃(z9 GJ:Option D),O=[gX c,gX mo,Z<|.str "abcdefghijklmnopqrstuvwxyz",Z<|.str<|"abcdefghijklmnopqrstuvwxyz" ++ "0123456789",gX sz,gX a,Z<|fU<|pT c a sz k,gX k,Z<|.str<|uO c a k n,z9,GJ]) ⟨_,_,rfl⟩ (by rintro j O hj ⟨z9,GJ,rfl⟩;obtain⟨z,e⟩:=Χ c a k j (by lia) (gX mo) (gX sz) (Z<|fU<|pT c a sz k) GJ;refine⟨_,_,rfl,.inl ?_,gX j,z,rfl⟩;rw[Int.zero_add];exact e)
   refine⟨_,_,rfl,.inl ?_,gX k,Z<|.str<|uO c a k sz,z9,GJ,rfl⟩;rw[Int.zero_add];have ep:fU (pT c a sz<|k+1)=.lst ((pT c a sz k).map D.str++[.str<|uO c a k sz]):=by unfold fU pT;rw[Dd,nY,nY];rfl
   have es:fU (pT c a sz k)=.lst ((pT c a sz k).map D.str):=rfl;have iD:((pT c a sz k).map D.str).length<16777216:=by unfold pT;rw[dY,dY,List.length_range];lia
   rw[ep];rw[es]at h2 ⊢;generalize (pT c a sz k).map D.str=L1,("abcdefghijklmnopqrstuvwxyz" ++ "0123456789":Str)=B,("abcdefghijklmnopqrstuvwxyz":Str)=A,uO c a k sz=w,(sz:Int)=SZ,uZ 0 sz=Z' at *;clear ep es hm hk hs;unfold jY;walk_at "mid")
 exact⟨y7,y8,y9,C3,h1⟩
theorem Υ (z:Int):Ga (xX z)=Â:=by unfold Ga xX;exact decide_eq_true (by lia)
theorem Τ (z:Int):(Ga (tL z) || EO (tL z))=Â:=by
 unfold tL Ga EO;split
 ·rw[decide_eq_true<|by lia];rfl
 ·rw[iV];exact .inr (decide_eq_true<|by lia)
theorem Tj (c:Int)(a k n:Nat)(h1:1<=n)(h2:n<=8):wM (uO c a k n)=Â:=by obtain⟨m,rfl⟩:∃m,n=m+1:=⟨n-1,by lia⟩;unfold wM;rw[jd];unfold E6;rw[List.range_succ_eq_map,dJ];show(_&&Ga (xX _)&&_)=Â;rw[Υ,vO,dP];refine⟨decide_eq_true<|by simp;lia,fN.mpr λx hx=>?_⟩;obtain⟨j,hj,rfl⟩:=g0.mp hx;obtain⟨i,_,rfl⟩:=g0.mp hj;exact Τ _
theorem Ρ {c:Int}{a n k k':Nat}(ha:a<n)(hk:k<8)(hk':k'<8)(h:uO c a k n=uO c a k' n):k=k':=by
 have h:E6 c a k n=E6 c a k' n:=by rw[←jd,h,jd]
 unfold E6 at h;have h:=congrArg (λl=>l[a]?) h;simp only[ix,AM ha,sC,Option.some.injEq]at h;unfold xH xX tL nV at h;rw[if_pos rfl,if_pos rfl]at h;generalize c/(64+37*(a:Int))=C at h;split at h
 ·lia
 ·split at h<;>split at h<;>lia
theorem Ο (c:Int){mo:Nat}(hm:mo<=8):∃a sz:Nat,lE [.int c,.int mo]=Z (fU<|pT c a sz mo)/\1<=sz/\sz<=8/\a<sz:=by
 obtain⟨sz,hsz,A0,MQ⟩:∃s:Nat,1+c%8=(s:Int)/\1<=s/\s<=8:=⟨(1+c%8).toNat,by lia,by lia,by lia⟩;obtain⟨a,ha,has⟩:∃a:Nat,c/8%(sz:Int)=(a:Int)/\a<sz:=by have a1:=uG (c/8) (show(sz:Int)≠0 by lia);have a2:=qY (c/8) (show(0:Int)<(sz:Int)by lia);exact⟨(c/8%(sz:Int)).toNat,by lia,by lia⟩
 have ad:dL (.str "abcdefghijklmnopqrstuvwxyz") (.str "0123456789")=Z (.str<|"abcdefghijklmnopqrstuvwxyz" ++ "0123456789"):=RF (by decide +kernel);have md:lR (.int<|c/8) (.int sz)=gX (a:Int):=by rw[wm<|by lia,ha]
 have r1:=RG (j:=(mo:Int)) (by lia) (by lia);rw[kS]at r1;obtain⟨y7,y8,y9,C3,h1⟩:=Φ c (a:=a) hm MQ;refine⟨a,sz,?_,A0,MQ,has⟩;unfold lE;generalize fU (pT c a sz mo)=L1,("abcdefghijklmnopqrstuvwxyz" ++ "0123456789":Str)=B,("abcdefghijklmnopqrstuvwxyz":Str)=A at *;clear A0 MQ has hm ha;generalize (sz:Int)=SZ,uZ 0 mo=Z',jY=B2 at *;walk_at "mid"
theorem Tu {n:Int}(h0:0<=n)(h1:n<64):pP (.int n)=gX n:=by show(if n.natAbs.log2<1920 then _ else _)=_;rw[if_pos];have:=Nat.log2_le_self n.natAbs;lia
theorem LW {op:D->Option D}{x:D}{r:Option D}(h1:a O=Z x)(h2:op x=r):e1 op a O=r:=by unfold e1;rw[h1];exact h2
section
variable {x y:Str}{n:Int}
theorem OZ {r:D}(hi:tO "str" r=Z (.bl Ã))(h0:0<=n)(h1:n<64):iA [dk nt tl pt n,r]=Z (.tup [.str "row",.int n]) :=
 said (fx (O:=[Z<|dk nt tl pt n,Z r,S,S])<|qx<|xt (BK<|kR<|LW rfl hi)<|Jl (Tu h0 h1) rfl) (.inr ⟨rfl,rfl,rfl⟩)
theorem O0 (h:mC x y)(hr:yJ (dk nt tl pt n) x y ws)(h0:0<=n)(h1:n<64):iA [dk nt tl pt n,.str<|kN x y ws]=Z (.tup [.str "row",.int n]) :=
 said (Œ (Tu h0 h1) (AD h hr.1) hr.2) (.inr ⟨rfl,rfl,rfl⟩)
theorem O9 {r:D}(h:∀n:Int,0<=n->n<64->iA [dk (nK x y AK) tl pt n,r]=Z (.tup [.str "row",.int n])):Gd x y tl pt (r,S):=⟨h,Lr,λn c=>by kernel_rfl⟩
theorem Pa {l:List (List Tk×D×D)}(h:∀p∈l,∀n,ô x y tl pt n p):∀e∈Ec x y l,Gd x y tl pt e:=λe he=>by obtain⟨p,hp,rfl⟩:=g0.mp he;have S':∃e,Sd e p.2.1 p.2.2:=(h p hp 0).imp λ_ q=>q.2;obtain⟨_,S'⟩:=S';exact⟨λn _ _=>by obtain⟨e,q,s⟩:=h p hp n;exact said q (.inl s),λ_=>ĺ S',λ_ c=>Ĺ S' c⟩
theorem Tv {l:List (List Tk)}(h:mC x y)(hl:∀n,∀ws∈l,yJ (dk (nK x y AK) tl pt n) x y ws):∀e∈oH x y l,Gd x y tl pt e:=λe he=>by obtain⟨ws,hw,rfl⟩:=g0.mp he;exact O9 λn h0 h1=>O0 h (hl n ws hw) h0 h1
theorem Me (h:mC x y):∀e∈LZ x y,Gd x y .non pt e:=by simp only[LZ,iQ,iw];exact⟨⟨Tv h λn=>Nm h,Pa λp hp n=>Tf h p hp⟩,O9 λn=>OZ rfl,O9 λn=>OZ rfl,nofun⟩
theorem Mf (h:mC x y):∀e∈L0 x y,Gd x y (nW x y) pt e:=by simp only[L0,iQ];exact⟨⟨Tv h λn=>IX h,Pa λp hp n=>Tf h p hp⟩,Pa λp hp n=>Ŏ h p hp⟩
end
section
variable {gn:EM}{p q:BM}{ρ2:L3.Env}{d:D}
theorem IV (h:gm O=Z (.bl Â,ρ')):CK (mB gm) O=Z (Ã,ρ'):=by unfold CK mB;rw[h];rfl
theorem VC (h:p O=Z (Ã,ρ'))(h2:q ρ'=Z (Ã,ρ2)):Gb p q O=Z (Ã,ρ2):=by unfold Gb;rw[h];exact h2
theorem T3 (h:gm O=Z (.bl Â,ρ'))(h2:gn ρ'=Z (d,ρ2)):A6 gm gn O=Z (d,ρ2):=by unfold A6;rw[h];exact h2
end
theorem T9 {d:D}(h:gm O=Z (d,ρ'))(h2:a ρ'=Z d)(ho:xM d=Â):(λO=>(gm O).bind λr=>(a r.2).bind λy=>(jQ Ã r.1 y).bind λd=>Z (d,r.2)) O=Z (.bl Â,ρ'):=by show(gm O).bind _=_;rw[h];show(a ρ').bind _=_;rw[h2];show(jQ Ã d d).bind _=_;rw[OX ho];rfl
theorem m0 {d:D}(h:a O=Z d):D3 a O=Z (d,O):=by unfold D3;rw[h];rfl
theorem rm {K:é->Option D}(h:gm O=Z (.bl Â,ρ'))(hK:K (.rt<|.bl Â)=Z (.bl Â)):((λO=>(gm O).bind λr=>Z<|é.rt r.1) O).bind K=Z (.bl Â):=by show(ej (ej (gm O) _) K)=_;rw[h];exact hK
theorem LD (c:Int)(a k j:Nat):xH c a k j<1114112:=by
 unfold xH xX tL;split
 ·lia
 ·split<;>lia
section
variable {x y:Str}{S':D}
theorem Vt (h:mC x y){first:Int}{z6:Option D}:∃v6,pQ (gV 6) wC (uZ 0 6) [Z S',Z<|.str x,Z<|.str y,Z<|dk .non .non (.lst []) 0,l9<|(oH x y<|rN++rP++rA++rE).map (·.1),gX first,z6,S,S,S,S]=Z (.nx [Z S',Z<|.str x,Z<|.str y,Z<|dk .non .non (.lst []) 0,l9<|(oH x y<|rN++rP++rA++rE).map (·.1),gX first,v6,S,S,S,S]):=by
 obtain⟨ρ',q,v6,rfl⟩:=jb (g:=gV 6) (b:=wC) (lo:=0) (n:=6) (O:=[Z S',Z<|.str x,Z<|.str y,Z<|dk .non .non (.lst []) 0,l9<|(oH x y<|rN++rP++rA++rE).map (·.1),gX first,z6,S,S,S,S])
  (λ_ O=>∃v6,O=[Z S',Z<|.str x,Z<|.str y,Z<|dk .non .non (.lst []) 0,l9<|(oH x y<|rN++rP++rA++rE).map (·.1),gX first,v6,S,S,S,S]) ⟨z6,rfl⟩ (by rintro j O hj ⟨v6,rfl⟩;obtain⟨e,he,hi⟩:=IK (a:=J 4) (b:=e2 dL (J 5)<|e2 ki (eC<|.int 17)<|J 6) (enc:=(·.1)) (E:=oH x y<|rN++rP++rA++rE) (O:=[Z S',Z<|.str x,Z<|.str y,Z<|dk .non .non (.lst []) 0,l9<|(oH x y<|rN++rP++rA++rE).map (·.1),gX first,gX<|0+j,S,S,S,S]) (by rw[oH,dY];decide +kernel) rfl (gU rfl (gU rfl rfl<|je (by decide)<|by decide) rfl);obtain⟨ws,hw,rfl⟩:=g0.mp he;exact⟨_,_,rfl,.inl<|kA (kR<|gU (z8 (iC rfl<|iC hi rfl)<|O0 h (Nl h ws hw) (by decide)<|by decide) rfl<|Lc<|Lr 0) rfl,_,rfl⟩)
 exact⟨v6,q⟩
theorem VD {b:EF}{z:Int}(h1:a O=l9 Y)(hl:Y.length=4)(h2:b O=gX z):∃d∈Y,e2 gK a (e2 lR b<|eC<|.int 4) O=Z d:=by
 obtain⟨j,hj⟩:∃j:Nat,z%4=j:=⟨(z%4).toNat,by lia⟩;have hl:j<Y.length:=by lia
 exact⟨Y[j],Ca hl,gU h1 (gU h2 rfl<|wm<|by decide)<|by rw[hj];exact Sb<|gI hl⟩
theorem Vu (h:mC x y)(F:Fx x y)(o1:xM (.str<|zU x y)=Â)(o2:xM (.str<|Az x y)=Â){a b:Int}(ha:∃c,gF [S',.int 2]=Z c/\iN [c,.int 1]=gX a)(hb:∃c,gF [S',.int 3]=Z c/\iN [c,.int 1]=gX b){s f k:Option D}{K:é->Option D}(hK:K (.rt<|.bl Â)=Z (.bl Â)) :
  (wF [Z S',Z<|.str x,Z<|.str y,Z<|dk .non .non (.lst []) 0,s,f,k,Z<|Jm x y,S,S,S]).bind K=Z (.bl Â):=by
 obtain⟨ca,Mn,DW⟩:=ha;obtain⟨cb,US,DX⟩:=hb;refine zx ((HA rfl).trans<|GR rfl (yD<|Ap (Ey rfl rfl<|ĵ h) rfl<|by kernel_rfl)<|GR rfl (yD<|Ap (Ey rfl rfl<|Ĵ h) rfl<|by kernel_rfl)<|GR rfl (yD<|Ap (Ey rfl rfl<|ĳ h) rfl<|by kernel_rfl) rfl) ?_;refine(congrArg (ej · K)<|F.k3 ..).trans ?_;refine zx (yD<|IV<|Bz rfl (iC rfl<|iC (z8 (iC (z8 rfl Mn) rfl) DW) rfl) rfl<|SJ (n:=3) (c:=1) (LM (Me h) (lm<|by kernel_rfl) (lm<|by kernel_rfl) F o1) (by decide) (by decide) (by decide)<|by decide) ?_;refine zx (yD<|VC (Ap (Ey rfl rfl Ŋ) rfl<|by kernel_rfl)<|Ap (Ey rfl (iC (F.k6 ..) rfl)<|Ψ h) rfl<|by kernel_rfl) ?_;refine zx (Ă<|Ey rfl rfl<|F.k9 ..) ?_;refine(congrArg (ej · K)<|F.k5 ..).trans ?_;refine zx (yD<|IV<|Bz rfl (iC rfl<|iC (z8 (iC (z8 rfl US) rfl) DX) rfl) rfl<|SJ (n:=14) (c:=2) (LN (Mf h) (lm<|by kernel_rfl) (lm<|by kernel_rfl) F o1 o2) (by decide) (by decide) (by decide)<|by decide) ?_;refine rm (T3 (T9 (Ey rfl (iC (F.k7 ..) rfl)<|ŋ h) rfl<|by kernel_rfl)<|m0<|gU (z8 (Y:=[dk (nK x y AK) (nW x y) Gh 31,.str<|kN x y [.l "cut",.l "2"]]) (by kernel_rfl)<|O0 h (IX h [.l "cut",.l "2"]<|dc _<|dc _<|dc _<|dc _<|zZ (i:=23) rfl) (by decide)<|by decide) rfl<|OX<|Lr 31) hK
theorem zpt (ns:List Int)(_:ns.length<=63):E3 [.lst<|ns.map .int]=Z (.bl Â):=by
 obtain⟨c0,h0⟩:=Ls ns 0 (by lia);obtain⟨a,sz,hn,h1,h8,ha⟩:=Ο c0 (mo:=2) (by lia);obtain⟨c1,e1⟩:=Ls ns 1 (by lia);obtain⟨r1,f1,_⟩:=OK c1 (k:=1) (by lia) (by lia);obtain⟨c2,e2⟩:=Ls ns 2 (by lia);obtain⟨r2,f2,_⟩:=OK c2 (k:=1) (by lia) (by lia);obtain⟨c3,e3⟩:=Ls ns 3 (by lia);obtain⟨r3,f3,_⟩:=OK c3 (k:=1) (by lia) (by lia);have h:mC (mk (xH c0 a 0) sz) (mk (xH c0 a 1) sz):=⟨Tj c0 a 0 sz h1 h8,Tj c0 a 1 sz h1 h8,λe=>by have:=Ρ (k:=0) (k':=1) ha (by lia) (by lia) e;lia⟩;have F:=Ĳ h1 h8 (xH c0 a 0)<|xH c0 a 1;have dd:=ı h1 h8 (xH c0 a 0)<|xH c0 a 1;have o1:=Th dd.1 (LD c0 a 0)<|LD c0 a 1;have o2:=Th dd.2 (LD c0 a 0)<|LD c0 a 1;clear dd;replace hn:lE [.int c0,.int 2]=Z (fU [mk (xH c0 a 0) sz,mk (xH c0 a 1) sz]):=hn;generalize mk (xH c0 a 0) sz=x,mk (xH c0 a 1) sz=y,D.lst (ns.map .int)=S' at *;refine zx (HS (ρ':=[Z S',Z<|.str x,Z<|.str y,S,S,S,S,S,S,S,S]) (z8 (iC (z8 rfl h0) rfl) hn)<|by kernel_rfl) ?_;refine zx (ww (d:=dk .non .non (.lst []) 0)<|by kernel_rfl) (zx (ww (d:=.lst<|(oH x y<|rN++rP++rA++rE).map (·.1))<|gU (gU (gU (z8 rfl F.ka) (z8 rfl F.kb) (rd:=some<|.lst<|(oH x y<|rN++rP).map (·.1))<|by kernel_rfl) (z8 rfl F.kc) (rd:=some<|.lst<|(oH x y<|rN++rP++rA).map (·.1))<|by kernel_rfl) rfl<|by kernel_rfl) ?_);obtain⟨v6,q⟩:=Vt (S':=S') (z6:=none) h (first:=(r1:Int));refine zx (ww<|z8 (iC (z8 rfl e1) rfl) f1)<|zx ((HA rfl).trans q) ?_;obtain⟨d,hd,hp⟩:=VD (a:=λO=>((Ä (eC .non)<|Ä (eC<|.int 5)<|Ä (eC<|.bl Â)<|Ä (λO=>((Ä (eC<|.str "show") Å) O).bind λY=>Z<|.lst Y) Å) O).bind λY=>Z<|.lst Y) (b:=J 5) (O:=[Z S',Z<|.str x,Z<|.str y,Z<|dk .non .non (.lst []) 0,Z<|.lst<|(oH x y<|rN++rP++rA++rE).map (·.1),Z<|.int r1,v6,S,S,S,S]) (Y:=[.non,.int 5,.bl Â,.lst [.str "show"]]) rfl rfl rfl;have hi:tO "str" d=Z (.bl Ã):=by simp only[dn,iK,or_false]at hd;rcases hd with rfl|rfl|rfl|rfl<;>rfl
 refine zx (kA (kR<|gU (z8 (iC rfl<|iC hp rfl)<|OZ hi (by decide)<|by decide) rfl<|Lc<|Lr 0) rfl) ?_;refine(congrArg (ej · _)<|F.k2 ..).trans ?_;exact Vu h F o1 o2 ⟨_,e2,f2⟩ ⟨_,e3,f3⟩ rfl
end
section
variable {P:eI}{w:d5}{base:dz}{a:ć}
theorem ş (T:Txt K mg a w):dR P w K mg base fL 11 a.cS a.cT ["_law_script"] (vN K):=Ž (œ T) zpt
end
theorem fin {l:rS}{w:d5}{fa:cZ}{a:ć}(UY:mg "law"=Z (.ref fa))(T:Txt K mg a w)(b:∀(s:de) (v:cU),rp s a.cT ⟨[v],[]⟩ [("_law_script",v)]) :
  ∃fd:c9,(∀(s:de) (v:cU),rp s fd ⟨[v],[]⟩ [("_law_script",v)])/\∀base:dz,K.In base->base.Ns eQ mg->dR l.prog w K mg base fL 11 fa fd ["_law_script"] (vN K):=by
 cases UY.symm.trans T.bv.mgx;exact⟨_,b,λ_ _ _=>ş T⟩
theorem walk {l:rS}{q:eI}{loose:List Str}{XP:(Str->Option cU)->dz->Prop}{YP:d5->dz->Prop}{d:DefRec}{K:Params->cX}(hn:l.most=Z 63)(Ij:d.params.defaults=[])
  (hY:∀(w:d5) (h:dz),YP w h->(K w.params).In h)
  (F:∀(w:d5) (mg:Str->Option cU) (fa:cZ) (h:dz),(K w.params).In h->h.Ns eQ mg->mg d.name=Z (.ref fa) ->
   ∃fd:c9,(∀(s:de) (u:cU),rp s fd ⟨[u],[]⟩ [("_law_script",u)])/\∀base:dz,(K w.params).In base->base.Ns eQ mg->dR l.prog w (K w.params) mg base fL 11 fa fd ["_law_script"] (vN<|K w.params)) :
  Ce q loose XP YP l.row.toRowW d [] (λf vs=>PySem.call f vs) :=
 L2.ý (n:=63) (k:=11) (x:="_law_script") (CX:=λ_=>fL) (sp:=λw=>vN<|K w.params) hn (by decide) Ij ⟨rfl,by decide,by decide,rfl⟩ hY F (λ_ _ a ns hl _ hS=>⟨a,ns,rfl,hS,hl,λ_=>rfl⟩) λ_ _ _ _ _ z=>z
end My
-- KEEP
local macro_rules | `(tactic| walk_at "zk") => `(tactic| focus (repeat' first | k_is | apply L3.Ĩ (by assumption) (by assumption) | exact .non | exact .int | exact .str | apply L3.KC.kt | apply L3.û.nil | apply L3.û.cons | exact Nat.le_of_ble_eq_true rfl | rfl))
local macro_rules | `(tactic| walk_at "zg") => `(tactic| focus (repeat' first | k_is | apply L3.Ħ (by assumption) (by assumption) | apply L3.KL.nil | apply L3.KL.cons | exact L2.EL.nil | apply L2.EL.cons | exact .non | exact .int | exact .str | apply L3.KC.kt | apply L3.û.nil | apply L3.û.cons | exact Nat.le_of_ble_eq_true rfl | rfl))
local macro_rules | `(tactic| walk_at "zf") => `(tactic| focus (repeat' first | k_is | apply L3.ħ (by assumption) (by assumption) | exact trivial | apply And.intro | exact L2.EL.nil | apply L2.EL.cons | exact .non | exact .int | exact .str | apply L3.KC.kt | apply L3.û.nil | apply L3.û.cons | exact Nat.le_of_ble_eq_true rfl | rfl))
local macro_rules | `(tactic| walk_at "zA") => `(tactic| (first | exact L3.î | (refine' L3.í ?q0 ?q9; (case q0 => (apply L2.Ć.mk <;> k_is)); (case q9 => walk_at "zA"))))
local macro_rules | `(tactic| walk_at "zX1") => `(tactic| (first | exact L3.î | (refine' L3.í ?q0 ?q9; (case q0 => (refine' ⟨?q1, ?q2⟩; (case q1 => (apply L2.å.mk <;> k_is)); (case q2 => kit_is))); (case q9 => walk_at "zX1"))))
local macro_rules | `(tactic| walk_at "zX2") => `(tactic| (refine' ⟨?q1, ?q2⟩; (case q1 => walk_at "zX1"); (case q2 => kit_is)))
open PySem PySem.W PyProof.Rows
set_option maxRecDepth 100000 in
set_option maxHeartbeats 0 in
theorem PySem.Challenge.cw_ringbeat_k87_desk_refused_holds : PySem.Challenge.rw_ringbeat_k87_desk_refused.Holds := by
 refine PySem.Challenge.hd ?_
 w_on
 k_fill
 refine My.walk (l := PySem.Challenge.rw_ringbeat_k87_desk_refused) rfl rfl (fun w h Y' => PySem.W.kIn_of Y') ?F
 case F =>
  intro w mg fa h KX W' hmg
  refine' My.fin (a := .mk ..) hmg ?T ?b
  case T =>
   constructor
   all_goals try dsimp only [My.ć.ct]
   iterate 7 exact L3.zC
   iterate 9 exact L3.zX
   iterate 2 exact L3.zM
   exact L3.zM (b := L3.zE 5 (L3.č fun _ _ _ _ _ => ⟨_, rfl, rfl⟩))
   (refine' L3.Ą 4 0 rfl rfl ?r1 ?r2 ?r3 ?r4; (case r1 => k_is); (case r2 => rfl); (case r3 => exact (.cons ⟨_, rfl⟩ .nil)); (case r4 => exact L3.ċ fun _ _ _ _ => ⟨_, rfl, rfl⟩))
   exact L3.zM (b := L3.zE 5 (L3.č fun _ _ _ _ _ => ⟨_, rfl, rfl⟩))
   (refine' L3.Ą 4 0 rfl rfl ?r1 ?r2 ?r3 ?r4; (case r1 => k_is); (case r2 => rfl); (case r3 => exact (.cons ⟨_, rfl⟩ .nil)); (case r4 => exact L3.ċ fun _ _ _ _ => ⟨_, rfl, rfl⟩))
   iterate 6 exact L3.zM
   iterate 9 exact L3.zD
   iterate 5 exact L3.zM
   exact L3.zD
   iterate 4 exact L3.zM
   iterate 9 exact L3.zD
   iterate 2 exact L3.zM
   iterate 5 exact L3.zD
   exact L3.zD (b := L3.zE 4 (L3.ċ fun _ _ _ _ => ⟨_, rfl, rfl⟩))
   (refine' L3.Ą 3 0 rfl rfl ?r1 ?r2 ?r3 ?r4; (case r1 => k_is); (case r2 => rfl); (case r3 => exact (.cons rfl .nil)); (case r4 => exact L3.đ fun _ _ _ => ⟨_, rfl, rfl⟩))
   iterate 25 exact L3.zD
   iterate 2 exact L3.zM
   iterate 14 exact L3.zD
   iterate 2 walk_at "zk"
   walk_at "zg"
   walk_at "zf"
   iterate 7 exact ⟨by k_is, by k_is, by k_is⟩
   iterate 12 ((repeat refine L3.zF ?_); exact L3.î)
   iterate 3 ((repeat refine L3.zI ?_); exact L3.î)
   k_is
   exact ⟨L3.ö (by k_is) (by first | exact .base | exact .own .base), by k_is, by k_is, by k_is, by k_is, by k_is, by k_is⟩
   exact ⟨by k_is, by k_is, by k_is⟩
   k_is
   exact ⟨L3.ö (by k_is) (by first | exact .base | exact .own .base), by k_is, by k_is, by k_is, by k_is, by k_is, by k_is⟩
   exact ⟨by k_is, by k_is, by k_is⟩
   k_is
   exact ⟨L3.ö (by k_is) (by first | exact .base | exact .own .base), by k_is, by k_is, by k_is, by k_is, by k_is, by k_is⟩
   exact ⟨by k_is, by k_is, by k_is⟩
   k_is
   exact ⟨L3.ö (by k_is) (by first | exact .base | exact .own .base), by k_is, by k_is, by k_is, by k_is, by k_is, by k_is⟩
   exact ⟨by k_is, by k_is, by k_is⟩
   k_is
   exact ⟨L3.ö (by k_is) (by first | exact .base | exact .own .base), by k_is, by k_is, by k_is, by k_is, by k_is, by k_is⟩
   iterate 2 exact ⟨by k_is, by k_is, by k_is⟩
   iterate 4 walk_at "zA"
   iterate 9 walk_at "zX2"
   iterate 6 ((repeat refine L3.zH ?_); exact L3.î)
   iterate 14 exact L3.zB
   iterate 7 exact L3.zG
  exact fun s v => .of_eq rfl
