import PyProof.Rows.All
import Wide.All
import KE.KDictOf
import KE.LcSums
import KE.KRevIter
import KE.KDictList
import KE.KUnpack
import KE.KSortTup
import KE.KIntText
import KE.KTryMore
import KE.KFromBytes
import Wide.FinOn
import KE.RegKIsAll
import Lean
import PySem.Challenge.RW_ringbeat_k91_whole_text_to_paper
set_option Elab.async false
set_option linter.all false
set_option compiler.extract_closed false
set_option genSizeOf false
set_option maxRecDepth 100000
set_option maxHeartbeats 4000000
set_option bootstrap.genMatcherCode false
noncomputable section
namespace PySem.W.Fast
def tw15720503100798958080:=True
def tw9545677033634119560:=True
def tw1043601662304973101:=True
def tw682509728702249737:=True
def tw8601108426291674740:=True
def tw6232960330081865848:=True
def tw1056457320319474723:=True
def tw4946081294891487769:=True
def tw11392790482888773011:=True
def tw278091425418800429:=True
def tw1462876106846248189:=True
def tw13482304243288587505:=True
def tw2254004862400360371:=True
def tw13517266583193282974:=True
def tw11322498308438654321:=True
def tw11055646618570814509:=True
def tw1830895254914965163:=True
def tw14859372700282053379:=True
def tw16036673980134197800:=True
def tw4650724018377988941:=True
def tw7628517622463246403:=True
def tw503595375829340906:=True
def tw14554663214862410434:=True
def tw18142737713284077321:=True
def tw18418203492820227725:=True
def tw3637843315264040724:=True
def tw14219895467695339487:=True
def tw6598470774571000660:=True
def tw40645068482255992:=True
def tw2011420231899099907:=True
def tw3783040918044280:=True
def tw5152018706057943621:=True
def tw5697853052144626633:=True
def tw15118314276396539117:=True
def tw13283709174802737673:=True
def tw6477704123259549262:=True
def tw2625744509549955231:=True
def tw9271154973312445042:=True
def tw293431403705018295:=True
def tw2800181990859139613:=True
def tw17956174282920656353:=True
def tw10491091718325126814:=True
def tw1779273105678936920:=True
def tw5910731478065362957:=True
def tw7326574103108340045:=True
def tw7380235708987649732:=True
def tw16506891633611626718:=True
def tw6648691617408665974:=True
def tw6013732886842322007:=True
def tw12626630976004486890:=True
def tw15963801691374436739:=True
def tw13990669968718451782:=True
def tw18441964724968404119:=True
def tw2891392209409126275:=True
def tw4376666790780293573:=True
def tw14785113644163316884:=True
def tw6232540265587663372:=True
def tw1160215725700746923:=True
def tw9847149549385282875:=True
def tw4774558616792679672:=True
def tw17766689825023519894:=True
def tw6642394905693246770:=True
def tw12482200487637181401:=True
def tw4344812326457667244:=True
def tw3578923988131111148:=True
def tw10528329575175989489:=True
def tw11429753012899440513:=True
def tw15931703023824590139:=True
def tw9658492292197672664:=True
def tw13292332857021655163:=True
def tw14001247230269390771:=True
def tw17426253050614115887:=True
def tw2684515012650411032:=True
def tw1289918030350041557:=True
def tw6590480083940195152:=True
def tw6096541219891262812:=True
def tw17305811721735164405:=True
def tw507852180776508639:=True
def tw17118253508128766438:=True
def tw17299010855461826998:=True
def tw1892042795490359217:=True
def tw18167886609372958265:=True
def tw10421219047506012070:=True
def tw2353389275239337000:=True
def tw14354744343094910557:=True
def tw11489979085619262881:=True
def tw18147891781342987349:=True
def tw9849417791331918024:=True
def tw6669849839155282124:=True
def tw14661304836092294630:=True
def tw7011922199736413106:=True
def tw15662251291172155750:=True
def tw3018162688658662317:=True
def tw5280544647975642958:=True
def tw14124977497012925699:=True
def tw17142438272206516577:=True
def tw13668276560052574877:=True
def tw14037694604911994256:=True
def tw3389722045823070620:=True
def tw18413439416196067265:=True
def tw14743261847208913739:=True
def tw9425893862980610349:=True
def tw15556859418065378706:=True
def tw3080848276900061889:=True
def tw3036226440199092286:=True
def tw108008266382151090:=True
def tw7251443471336825237:=True
def tw1663260961033258568:=True
def tw13880715845325369581:=True
def tw1107560498601478883:=True
def tw4174280700831360196:=True
def tw5555882063923173011:=True
def tw9611581114326341354:=True
def tw7943718689102667380:=True
def tw11016731713179036456:=True
def tw2727684065509078607:=True
def tw4003386625023744766:=True
def tw15889324608312700293:=True
def tw13420947390370984089:=True
def tw4744998357756567513:=True
def tw12836390235026764026:=True
def tw15641323515649296801:=True
def tw1465708796042303730:=True
def tw3834278152298978124:=True
def tw10277788567070271871:=True
def tw9438230212828485173:=True
def tw10808764828536570775:=True
def tw3870529051974822405:=True
def tw13272668960339457100:=True
def tw14472373924660901693:=True
def tw5831640473916644875:=True
def tw9222210195544307864:=True
def tw13228637998752459741:=True
def tw12379889116212122844:=True
def tw1937469806037057344:=True
def tw17143407186312659183:=True
def tw14468053534507464323:=True
def tw14664013538915446081:=True
def tw18117742892007229862:=True
def tw13279466509784814390:=True
def tw5456734918626308276:=True
def tw8598807260647849255:=True
def tw17527557582173027222:=True
def tw12867728416774249363:=True
def tw16154165155259212596:=True
def tw7994811133207094303:=True
def tw12635601625792491235:=True
def tw9813375126475462952:=True
def tw773837588089752436:=True
def tw4231637213880009443:=True
def tw9900519664884561676:=True
def tw14880161899950185615:=True
def tw974281344954412800:=True
def tw14090385409373060308:=True
def tw13294645775010018508:=True
def tw15329939269000645752:=True
def tw9460832150159439005:=True
def tw4590584190604014853:=True
def tw4298161980399558617:=True
def tw17921013222067826295:=True
def tw18175197330564129253:=True
def tw9416184833524916236:=True
def tw16554919039600049835:=True
def tw4470816274328511604:=True
def tw10808931265645727203:=True
def tw12418259020175671862:=True
def tw13498969387517174907:=True
def tw16712392565524124088:=True
def tw16052899454938688212:=True
def tw1973139594062176201:=True
def tw7223284057912543708:=True
def tw7244785942698242820:=True
def tw39765813743702908:=True
def tw16580270385799344236:=True
def tw962167086236772710:=True
def tw6281340670697316992:=True
def tw13693870472371493406:=True
def tw4049278868326696241:=True
def tw8111453790866861684:=True
def tw13479723464530289419:=True
def tw9876074290042493308:=True
def tw18166995630043335119:=True
def tw2275575483964367031:=True
def tw7277085803532977429:=True
def tw13617065567282735415:=True
def tw11101490830900998463:=True
def tw16042537136121514554:=True
def tw10559147290554872940:=True
def tw16816451006675497786:=True
def tw4741236549577381293:=True
def tw138574676059902336:=True
def tw4087206373667485235:=True
def tw12570025005972801781:=True
def tw10310332616933029506:=True
def tw9419729269623698746:=True
def tw17615779588048841524:=True
def tw6120636570190819811:=True
def tw1369928815381093443:=True
def tw5976814417994148508:=True
def tw8822675430000383945:=True
def tw1956258353439967718:=True
def tw6034775642586406522:=True
def tw2455187189852508131:=True
def tw8939254977868589530:=True
def tw7752817139643040733:=True
def tw87338304871391789:=True
def tw9405881102905124555:=True
def tw2449584457684994207:=True
def tw14562507204147832040:=True
def tw6148594477495783982:=True
def tw9299718813006197732:=True
def tw8931989956735944324:=True
def tw11644147226741795092:=True
def tw6658052466719814655:=True
def tw1981115467864289316:=True
def tw17165850479096416750:=True
def tw363980548297943482:=True
def tw3528095371495406150:=True
def tw2043623902123591976:=True
def tw18262248704349862890:=True
def tw16241261766166887226:=True
def tw5829709630457405366:=True
def tw15629118534068455703:=True
def tw4500691669505503544:=True
def tw8535971101304656054:=True
def tw14951182121656273819:=True
def tw261540769544123157:=True
def tw10869685419237273542:=True
def tw10148686130846746652:=True
def tw788171203658247390:=True
def tw4834726490632192950:=True
def tw3044744007141094489:=True
def tw10914688305822425398:=True
def tw8414118510264235524:=True
def tw12512495765596893926:=True
def tw367066482932049919:=True
def tw3558892032306533774:=True
def tw5183835740710425471:=True
def tw15156541167523411284:=True
def tw9930563490563300203:=True
def tw10324395217752263966:=True
def tw1633536109346568023:=True
def tw6192833057441275720:=True
def tw10952994608498245626:=True
def tw8661022975843002404:=True
def tw12917268675175502785:=True
def tw3318668443297637561:=True
def tw12701355056226349933:=True
def tw13899944232051003570:=True
def tw1527682920316557403:=True
def tw12412905107561893832:=True
def tw12250188158928933967:=True
def tw4254759905417533751:=True
def tw7412153678192698180:=True
def tw11941347885321003495:=True
def tw14657490945362595769:=True
def tw8545714031911281488:=True
def tw1685967307860166875:=True
def tw477278278626943094:=True
def tw2244945325512741758:=True
def tw9607932775745873211:=True
def tw10125371186571471670:=True
def tw1272969984186322552:=True
def tw4218573704830435382:=True
def tw7349583704332860755:=True
def tw18217624933342418077:=True
def tw13947416376621420635:=True
def tw17298728687398095427:=True
def tw16748815379967743920:=True
def tw8557817861944229406:=True
def tw3735397746155457578:=True
def tw5944185585537959212:=True
def tw12708977148499765342:=True
def tw16047095151376743677:=True
def tw2889393673944038370:=True
def tw1798489981756054255:=True
def tw9697083327175095579:=True
def tw6639259715123916314:=True
def tw17092551848753475930:=True
def tw10676971187919969510:=True
def tw4321701954304440154:=True
def tw4738987676439515428:=True
def tw16128354933151589658:=True
def tw482588781406350943:=True
def tw12028743017661600286:=True
def tw12533489583768084348:=True
def tw14233553837690250730:=True
def tw12871458346896916827:=True
def tw7638029746692563511:=True
def tw8016877248948876644:=True
def tw914831012822313769:=True
def tw261569087075202090:=True
def tw4235142444101570902:=True
def tw10330250023528118588:=True
def tw463592959530538751:=True
def tw17046255065303635350:=True
def tw15239431277977537466:=True
def tw10738775926107536565:=True
def tw12361694237804235754:=True
def tw11412386906116446507:=True
def tw257007925046296281:=True
def tw17444010266883156889:=True
def tw2521132273732994733:=True
def tw5863724919350916873:=True
def tw635749783926292892:=True
def tw5907471534269278298:=True
def tw11807406346936085521:=True
def tw9280695235260886411:=True
def tw3527956564670850026:=True
def tw17584850149711255520:=True
def tw614143378159028287:=True
def tw6574162330536261823:=True
def tw3043594352750699216:=True
def tw5840856844609478258:=True
def tw7229778699586512183:=True
def tw9173232396479088664:=True
def tw13058559202471719080:=True
def tw9749640348384189484:=True
def tw3670247280269394975:=True
def tw14204823869929384073:=True
def tw5457194228992512469:=True
def tw12092635750267714463:=True
def tw6789616505058805132:=True
def tw11501277735566172072:=True
def tw16616180456404198723:=True
def tw6631185923538961358:=True
def tw268172330257315576:=True
def tw10259451402025930348:=True
def tw929352743209543007:=True
def tw16805604767622783124:=True
def tw14907327081958455009:=True
def tw2663134497348703037:=True
def tw8047293218686611342:=True
def tw1642990158979385037:=True
def tw11492056139014383687:=True
def tw16581522370095619828:=True
def tw5195949611898382615:=True
def tw1356118886138156791:=True
def tw12094947580656136459:=True
def tw6176342036495935953:=True
def tw577636692937200006:=True
def tw6285604059285450280:=True
def tw10900322794384949508:=True
def tw17710913405590922262:=True
def tw6793798084945537298:=True
def tw5856264819112728020:=True
def tw6167152642095586185:=True
def tw15443653157089060641:=True
def tw10739730180952657627:=True
def tw229915819631643194:=True
def tw1499579060393644250:=True
def tw16159737532400126269:=True
def tw359321831430071410:=True
def tw15491237217520474925:=True
def tw10671330749276878564:=True
end PySem.W.Fast
structure PySem.W.Fast:Prop where(tw12047368430555367155 tw16859354983909901183 tw7034210877552506758 tw14413927796909644782 tw1727791878702259216 tw2192194183350307021 tw9413167700616245061 tw6106058372988661865 tw4070085282449365194 tw17517703777145792013 tw10975319254247357669 tw5763785175740020572 tw18356558063619136379 tw2840067420705515552 tw10805403942848629616 tw8298672360417352168 tw12472441022300434507 tw13709405085105275021 tw14686636495580296451 tw14847229529956267866 tw9684001121172112941 tw8758104930039445516 tw91947965078982000 tw5054211826042010861 tw3019804113327870093 tw5048515185927600058 tw1349905137090614705 tw13284527500695403464 tw8243833367086425043 tw14422072923620769420 tw10071336280972448324 tw7586320794767148349 tw15345179373934675063 tw11493844974663300754 tw5810339231678414005 tw11978600847418515111 tw8582187477388120129 tw6535926744727866155 tw12904656035697260165 tw6825499980053702789 tw14424504578027385112 tw5810566510885588398 tw14243320514581461565 tw13563583082654832532 tw7535632274247941550 tw15964609209146670129 tw9961523598744190652 tw6630336408239595940 tw14190339852021825290 tw16391737996100521912 tw4311273439804785495 tw2715866790098733509 tw17512176968507714544 tw6929076949109133105 tw2743018431186529800 tw12732305860837895686 tw8196195666580471532 tw6904042868320053861 tw17497941776243628536 tw10934534130727672278 tw13410721110248125112 tw10083664870954640556 tw9364509456023299297 tw9633311548777665249 tw5413866021262110790 tw14148199650025652137 tw2299233272354304024 tw16498777015772260349 tw7097895649412617562 tw7063289189189765306 tw6122326299920364318 tw662836758025161823 tw46659475569477864 tw13329141244912704348 tw1599581376622508013 tw5266230898364520507 tw18310431591276802906 tw2756474420709086835 tw5378617225409959615 tw9933423790191377825 tw7158702345165248257 tw16053474179407470792 tw9998907336409617499 tw12255901566760406382 tw17217970531173427943 tw13951857243440974962 tw17254084277081278608 tw15580656591449547051 tw8914008921448317861 tw3907024656319693505 tw3969250894227179933 tw15357139516351185584 tw14861688156016419067 tw18060354217218886324 tw15103196933885404208 tw7350230886168056836 tw4199373580869005355 tw2832255652678659300 tw626696500009388147 tw981816797675697407 tw11261870164662801058 tw5731167819798756896 tw4760784216400123171 tw11912097832835978016 tw12182866303423332723 tw18366512518603614840 tw17383400255125088082 tw17955232290739182439 tw4473579790951008519 tw15266349367044267854 tw9069822407734730701 tw10698618801298633793 tw17294580678671505419 tw16825682249661477424 tw16079007731994276664 tw4311045786178695364 tw10959281252901982836 tw17970855819746949387 tw5678710873526531156 tw5006508430629549448 tw3455282592001398030 tw11373380316566804331 tw17178897200674954731 tw690706970909439662 tw14339529208003565878 tw11565101880229420232 tw18418892866214841603 tw2767922137636188828 tw7086344400852139256 tw13403801707511953320 tw1743526695073756365 tw1061491778649283258 tw2753177251917509520 tw6071590912136690200 tw8604257043265508281 tw7838669319408505745 tw10292563190655081119 tw4174049640664121235 tw6085769415541586026 tw2107134041426853528 tw6885417997323685665 tw6778926428608261763 tw13345960354780207393 tw6943184647599026698 tw14061697006318744936 tw12464250390800134317 tw1106856558378582783 tw3774675152102806515 tw1929649262345978189 tw16113817976569302998 tw13531973729058331039 tw3826831195200214875 tw1246186251144729147 tw11964638069331594483 tw6006971781943216237 tw6190388798503830724 tw11621487736690556531 tw14231576204047518865 tw4474980687375805942 tw222458587159506817 tw15113431946868946781 tw2105337121195910961 tw11860380473119244139 tw10634580909950287647 tw12107301030695928746 tw12944220621207166836 tw2599633771588250269 tw17900667973644028587 tw11885337044681347712 tw15071724856088404432 tw9985005617883165880 tw10773167370179511130 tw4393393586046124796 tw18171102841955170268 tw17285904917583305627 tw2688913032534302099 tw15705121017984880494 tw2721133407773851896 tw17076747114588981916 tw17332518857721784942 tw7098096059809581179 tw4203518752531648031 tw6682743757939456685 tw13704544103494794907 tw11100846869508143556 tw11149769947533312824 tw4076863867714203360 tw513005606438955169 tw1645905615051027454 tw8886063228545124322 tw12311829100406865112 tw6684246931789439219 tw10230000700617361720 tw13684144401546483465 tw10178279195965538740 tw10043834060374601056 tw3951588564277477900 tw14406436989687428313 tw10006582616897081145 tw14882294452342321373 tw16382564453632408998 tw6152654555808454090 tw16542472340864777317 tw5246623162062998095 tw14941415076483763962 tw6973801746104949609 tw9484157083819412839 tw829143046149414128 tw11401068808991081857 tw7265738662454612163 tw889349453201974125 tw15298685913979700106 tw172442617530688986 tw3762208554546127370 tw7509664740323264749 tw8668427014533841842 tw11752426673218823892 tw18437486690731628253 tw16260925912512855970 tw7592283822709305711 tw7975098435261551387 tw15087328118174271774 tw17195450797910891439 tw16473128226292525081 tw6890056427489797719 tw8063849301607948182 tw5542111357039807852 tw13806005938606116666 tw12934742211362215766 tw6181454193412669305 tw15752224129997259539 tw5352329410314296844 tw18332061119468829467 tw18021899943202104059 tw963363872215188785 tw16327672158970810664 tw13041258484249540081 tw3282685234382742693 tw6893546497641998704 tw12783750587914696299 tw1467994975604170842 tw16562205827157788010 tw2945675398594583472 tw7864771351139206837 tw4911765688553384493 tw1250072257589680724 tw18143374269899021593 tw627726345350196685 tw6917679969603407906 tw16253329513008689639 tw10499459367881675064 tw17162598796963906856 tw10745028784760682568 tw3916154650032958175 tw1636437973035628045 tw11615437769533623045 tw6409949673440004677 tw7415843702103683986 tw5672314666978330176 tw13322861602993757321 tw9886328818518206503 tw2712559557389219645 tw1060621554623183737 tw12994478621313973525 tw13116331839231238369 tw13382811022291172425 tw13864479163907964222 tw6799739093365534119 tw9289646308057276970 tw1516984220946874056 tw15397921963824984484 tw5434740266287076646 tw4563828821813134428 tw12956513119201107808 tw892925065853493074 tw9170526843170322994 tw10576078643999795911 tw4364673132216959011 tw8410502130519771029 tw6631439551319238660 tw10102562476119604515 tw12982247176181451512 tw3157655322189342288 tw834236281615135995 tw1843330274065777065 tw11922447573509473452 tw11229097496110460277 tw11992136843937911535 tw18380188339797140215 tw9887608063936623636 tw3302800907444480161 tw7879725201748948576 tw16651556681418054663 tw17308650721659661244 tw5868530974987298366 tw5685012889404086773 tw6909841488093082827 tw15693524333615233107 tw7382687861121063764 tw17444380912093417342 tw86688857714089130 tw4932692051160928731 tw16270939220064284248 tw9887084238740129302 tw12029371844433552953 tw10548398957003577294 tw7405901149790420175 tw7527799060842075054 tw16322500210710719807 tw4142816124901501335 tw5461305069775906038 tw11557400564275816454 tw17891666178708092702 tw7914255198886259602 tw3557206000350962529 tw369947378833755530 tw13707227528605727538 tw2373543394765977276 tw1932568956964120650 tw13048581647380049413 tw4525628798758225912 tw15887231830638088997 tw10772818868665817535 tw18397641487235831338 tw17987825326919843529 tw16671656765224999657 tw4304774420089907938 tw16847356055486053210 tw182905923901357201 tw3638776332105225423 tw9571372838863433817 tw11469334421339384107 tw15069076790561863201 tw13404478889411092250 tw10613362952539325962 tw4074945450301247791 tw305080721844537094 tw2961557192639062826 tw9363833089418762066 tw8457637714350975149 tw4207228345475268395 tw11388016833802751530 tw9831409566331976608 tw7855795817619962177 tw5635194851160491144 tw12938226987065297314 tw9072905308926727421 tw17340771677684676946 tw6417114107682748568 tw7014686596129358684 tw623393167126745931 tw8585629855265468073 tw10384670766574601406 tw12130877400374362034 tw2443554949373459491 tw17797163926503162155 tw5928626875851777850 tw3402219579754563298 tw6704996971759313750 tw3310211710763114205 tw7467753989346700087 tw6034497367434170786 tw10872897953760387269 tw16977315618606346005 tw376413768936150758 tw3710899236078637123 tw8051413445001525745 tw7715333846864757483 tw13342687158489663515 tw15943358354443407231 tw16695293420153542750 tw1315572522613727854 tw5732727361320981485 tw16605254171821909955 tw13753215715316257843 tw534318095337744627 tw41765653649800070 tw6170367583411503908 tw520324120003024646 tw9403578141333635667 tw10158443189792357315 tw11631105909110695692 tw3115782701454796461 tw6548796103926503325 tw15991177162763749461 tw10773652975930724052 tw1496200957944681917 tw12102388370634488220 tw7921085658859955724 tw12565116417426402174 tw1454712641253965810 tw13434714201406150082 tw13910982485251209546 tw14933714865563563220 tw6372668014499622775 tw7283419110874587053 tw11636405052187859974 tw11686963771818812140 tw13731239776025343980 tw10504807266939205194 tw12426052869174793394 tw10402844070324459780 tw2100446389736417375 tw8215150849042050174 tw6650910416252778633 tw14801192987055932615 tw13753770256047743529 tw11183994510384506652 tw7042819068985650698 tw7286064169854153936 tw15266266958325024012 tw5655332429124515980 tw3414255953753146940 tw7866946042475468459 tw11381779574374198173 tw12321291507954470753 tw12266641221895405913 tw6263593565387435112 tw9552503058129630110 tw14104320629716537131 tw5072351160120850599 tw10995651232587989834 tw3741209900485371430 tw8605253745420540478 tw7923350954198648485 tw14483600696691279221 tw16256120693414045602 tw5411003956406534453 tw15000348091851633259 tw11448335492297295390 tw952712918471702324 tw9384609303797726738 tw8790360430392698371 tw12489859137160638183 tw18263524401328986939 tw6743514565716447211:True)
set_option maxRecDepth 100000 in
set_option maxHeartbeats 0 in
open_top PySem.Challenge.hd for PySem.Challenge.rw_ringbeat_k91_whole_text_to_paper
open Array renaming length_toList→fQ,find?_toList→zL,all_toList→AO,toList→DE
open Bool renaming false_ne_true→cJ,and_eq_true→c9,false_eq_true→fX,or_eq_true→pB,and_eq_true_iff→yE,or_eq_false_iff→yF,eq_iff_iff→Cc,false_and→CJ,or_false→DF,true_and→DG
open Int renaming mul_le_mul_of_nonneg_right→cZ,mul_le_mul_of_nonneg_left→eF,le_of_lt→eY,mul_pos→gr,le_of_mul_le_mul_right→gM,mul_le_mul→gP,gcd→iz,toNat_natCast→i8,le_refl→jP,mul_nonneg→jQ,nonneg_of_mul_nonneg_left→l9,eq_of_mul_eq_mul_right→nv,fdiv_eq_ediv_of_nonneg→ny,mul_nonneg_of_nonpos_of_nonpos→rP,gcd_dvd_right→sj,mul_comm→sk,natCast_emod→sY,mul_one→tH,one_mul→tJ,fmod_eq_emod_of_nonneg→uW,pos_of_mul_pos_right→wG,fdiv_eq_ediv_of_dvd→wR,fmod_nonneg_of_pos→xK,le_trans→xL,zero_add→xM,mul_ediv_cancel'→zN,add_mul→zP,emod_lt_of_pos→AQ,fmod_lt_of_pos→AR,gcd_dvd_left→Cd,emod_nonneg→CK,natAbs_mul→DH
open List renaming mem_cons_self→b7,mem_cons_of_mem→cj,length_map→ck,mem_cons→cu,mem_singleton→cw,length_cons→cz,replicate→cB,getElem?_eq_getElem→cC,range→cE,mem_append→cH,map_cons→cI,length_append→cM,getElem?_map→cP,size_toArray→cQ,mem_append_right→cT,getElem?_eq_some_iff→cU,mem_map→cX,map_map→c7,lookup_cons→dc,nodup_append→dh,mem_range→dm,nodup_cons→dz,nodup_nil→dC,mem_append_left→dF,append_nil→dH,map_append→dI,mem_iff_getElem?→dJ,append_assoc→dN,mem_filter→dU,not_mem_nil→dZ,sum_cons→d7,all_eq_true→ej,length_drop→eM,mem_map_of_mem→eQ,length_singleton→eR,find?_cons→eX,replicate_succ→eZ,length_range→fk,getD_eq_getElem?_getD→fR,getElem?_append_right→fS,length_reverse→fT,getElem?_append_left→fV,set→fW,all_cons→f9,any_cons→ga,getElem?_set_ne→gq,length_zip→gz,map_congr_left→gA,zip_cons_cons→gJ,length_replicate→gQ,drop_eq_getElem_cons→gX,flatten_cons→ip,mem_iff_getElem→ir,take_of_length_le→iT,range'→jI,getElem_map→jS,length_take→jT,filterMap_cons→jX,pairwise_cons→kI,findIdx?_eq_some_iff_getElem→kN,drop_of_length_le→kY,reverse_cons→kZ,getElem?_eq_none→lG,countP_cons→lM,map_drop→lU,lookup→lX,mem_zipIdx_iff_getElem?→ml,of_mem_zip→mn,length_pos_iff→mF,all_map→mJ,countP_append→nj,getElem_idxOf→nk,ext_getElem?→nY,length→nZ,Pairwise→og,cons_append→oJ,ext_getElem→oK,getElem?_replicate→oM,getElem_inj→oN,map_reverse→oP,nodup_range→oQ,getElem?_set_self→o9,map_nil→pf,range_eq_range'→pZ,mem_of_mem_drop→p4,mem_of_mem_take→p5,contains_cons→rm,findIdx?_cons→rn,getElem?_drop→rq,getElem_range→rA,map_singleton→rB,mem_range'_1→rS,any_map→rT,getElem_mem→sO,mem_reverse→sP,eq_nil_of_length_eq_zero→sZ,take_append_of_le_length→tf,dropLast_concat_getLast→tK,foldl_cons→tL,forIn_cons→tM,idxOf_cons→tO,idxOf_lt_length_of_mem→uA,drop_left→uL,perm_ext_iff_of_nodup→uM,take_left→uN,exists_mem_of_ne_nil→uX,pairwise_iff_getElem→uY,idxOf_lt_length_iff→vO,filter_cons_of_neg→wH,filter_cons_of_pos→wI,length_eq_zero_iff→wJ,drop_eq_nil_of_le→wU,contains_iff_mem→xN,countP_singleton→xO,getElem?_reverse→xP,getElem?_toArray→xQ,length_filter_le→xR,pairwise_reverse→xS,getElem_toArray→yG,mem_of_getElem?→yH,filter_eq_self→zQ,getElem?_range→zR,filterMap_map→Ao,find?_eq_none→Ap,foldl→Aq,getElem?_take→Ar,mem_filterMap→As,any_eq_false→AT,drop_sublist→AU,findIdx?_map→AV,foldl_append→AW,getElem?_set→AX,getElem_take→AY,idxOf_append→AZ,append_inj'→Bm,any_eq_true→Bn,zipIdx_cons→Bo,map_const'→Ce,find?_some→Cf,length_set→Cg,nil_append→Ci,zip_append→Cj,drop_drop→CL,forIn_nil→CM,contains→DI,map_take→DJ
open Nat renaming le_refl→cK,lt_of_lt_of_le→dg,ne_of_lt→dG,le_trans→eD,zero_le→fI,pow_le_pow_right→gu,lt_irrefl→iC,min_self→jW,lt_of_le_of_lt→nz,le_succ→oh,lt_succ_of_lt→oj,lt_succ_self→oZ,ne_of_gt→pC,pow_succ→pD,log2_lt→qE,mod_lt→rQ,le_of_lt→su,le_of_succ_le→sv,min_eq_right→tw,min_eq_left→uB,length_toDigits_le_iff→uZ,add_comm→xT,le_total→xU,succ_mul→xV,mul_one→zS,mul_le_mul→DK
open Option renaming bind_some→d8,map_eq_some_iff→fO,isSome_map→rC,getD_some→rV,isSome_iff_exists→uO,getD_none→Au,map_some→A0
open PyProof.Rows renaming callWith_type1→eh,partition_whole→qO
open PySem renaming Value→b8,Addr→cn,wpAny_bind→cy,FuncData→cD,Shared→cF,Heap→cO,wpAny→cW,model→c8,PyData→df,wpAny_pure→di,NameKind→dA,starEach→dE,World→dW,Around→d4,bootBuiltins→d5,compareOp→d6,mainGlobals→ee,Stmt→eA,assignEach→eE,Program→eG,sizeLine_eq→eJ,eval→fB,strIterType→fE,behindInMarks→fH,wpAny_Call_Name_kw→fJ,holding→gC,wpAny_mono→gF,binaryOp→ik,swapsWith→iF,keywordEach→iG,wpAny_truthy_bool→iH,sysModules→iK,Obj→iU,wpAny_passesOwn→jH,backTo→kh,sliceBounds→ki,standAt→k7,getMethod→lA,backToKw→lV,cLine→lW,assign→mG,call_meets→mH,swappedStores→mK,swapsWithSole→mL,wpAny_holding→mM,Operator→m9,callWith→nc,letOwnedTupleGo→nB,codeAny→n4,PassesOwn→oo,tupleKind_room_in1→oG,slot_list_getitem→pj,wpAny_newObj_type→pq,wpAny_getItem_list_slice→pE,wpAny_standAt→pF,Pos→qP,wpAny_execs_nil→qQ,Data→qW,Scope→rR,getItem→rW,evalPart_none→sQ,BindsTo→uC,callerA→uD,codeAny_mono→uE,seqIndex_neg→uF,setItem→uG,valueAt→uH,wpAny_pyIter_list→uI,tupleKind→vA,seqIndex_of→vP,subscripted→vQ,Code→wK,wpAny_specialOf→wL,atKey→xW,isTrue→xX,newFunctionEnv→xY,typeLookup→xZ,attributeBase→zT,bindC→Av,bindL→Aw,concat_meets→A6,release→A7,CmpOp→Ck,Sem→DM,builtinsNs→DN,revObj→DO,typeIs_int→DP,wpAny_Name→DR
open PySem.Heap renaming get?_push_of_some→cv,lt_size→cS,get?_push_size→cV,SameBut→f7,size_push→gH,get?_update_self→lF,get?_update_other→o8,IsSliceOf→uK
open PySem.W renaming Frag→b9,kia_one→eU,keepIn→fu,emptyDict→fK,findIn→fL,instObj→gS,kitOne→iD,callWith_K→kj,specialIn→kK,methodCall_KW→k8,plainGet→n6,cellsFrom_some→oH,fnOf→oI,lookIn→pG,plainGet_of→pS,hasDictIn→qX,kitx_list→qY,methodObj→qZ,OpenLaw→sx,findCls→sA,makesIn→sC,readsIn→sD,takerIn→sE,codeIn→tD,isFn→vB,callWith_K0→wV,kitx_dict→yI,plainOver→yJ,handedIn→zU,isClsIn→Ax,takesIn→Ay,exmOne→A8,typeIn→A9,WalkO→Bp,mroIn→Bq,subIn→Br
open Option renaming some→Z,none→C
open Bool renaming true→Â,false→Ã
local macro_rules| `(tactic|walk_at "v1")=>`(tactic|first|exact Or.inl rfl|exact Or.inr (Or.inl rfl)|exact Or.inr<|Or.inr rfl)
local macro_rules| `(tactic|walk_at "v2")=>`(tactic|first|exact .inl rfl|exact .inr rfl|assumption)
local macro_rules| `(tactic|walk_at "v3")=>`(tactic|first|exact Or.inl rfl|exact Or.inr rfl)
abbrev lH (x:PySem.Str):Prop:=(x==("__debug__":PySem.Str))=Ã
abbrev vR (x:PySem.Str):Prop:=(x==("__classdict__":PySem.Str))=Ã
namespace L2
open PySem PySem.Spec PyProof.Rows
noncomputable abbrev jU:=Sum Int Str
def vI:jU->b8->Bool
 |.inl k,v=>b8.isInt k v
 |.inr x,v=>b8.isStrOf x v
def Lr (w:dW):jU->Int
 |.inl k=>hashInt k
 |.inr x=>hashStr w x
theorem yu:∀{k:jU} {v:b8},vI k v=Â->(∃i t,k=Sum.inl i/\v=b8.int i t)\/(∃x t,k=Sum.inr x/\v=b8.str x t)
 |.inl i,v,h=>by obtain⟨t,e⟩:=b8.isInt_shape (k:=i) (v:=v) h;exact .inl ⟨i,t,rfl,e⟩
 |.inr x,v,h=>by obtain⟨t,e⟩:=b8.isStrOf_shape (x:=x) (v:=v) h;exact .inr ⟨x,t,rfl,e⟩
theorem X3 (i:Int)(t:Tok):vI (.inl i) (.int i t)=Â:=by simp[vI,b8.isInt]
theorem X4 (x:Str)(t:Tok):vI (.inr x) (.str x t)=Â:=by simp[vI,b8.isStrOf]
theorem ϋ (a b:Int):decide ((Sum.inl a:jU)=Sum.inl b)=(a==b):=by
 by_cases e:a=b
 ·subst e;simp
 ·have h:¬(Sum.inl a:jU)=Sum.inl b:=λq=>e<|Sum.inl.inj q;rw[decide_eq_false h];exact(beq_eq_false_iff_ne.mpr e).symm
theorem ϊ (a b:Str):decide ((Sum.inr a:jU)=Sum.inr b)=decide (a=b):=by
 by_cases e:a=b
 ·subst e;simp
 ·have h:¬(Sum.inr a:jU)=Sum.inr b:=λq=>e<|Sum.inr.inj q;rw[decide_eq_false h,decide_eq_false e]
theorem Ω (a:Int)(b:Str):decide ((Sum.inl a:jU)=Sum.inr b)=Ã:=decide_eq_false<|λq=>nomatch q
theorem Ψ (a:Str)(b:Int):decide ((Sum.inr a:jU)=Sum.inl b)=Ã:=decide_eq_false<|λq=>nomatch q
def jO (prog:eG)(w:dW):PySem.KeyKind prog w jU where
 is:=vI
 hash:=Lr w
 inj:=λv a b ha hb=>by
  rcases yu ha with⟨i,t,rfl,rfl⟩|⟨x,t,rfl,rfl⟩
  ·rcases yu hb with⟨j,u,rfl,e⟩|⟨y,u,rfl,e⟩
   ·injection e with e1 _;rw[e1]
   ·exact nomatch e
  ·rcases yu hb with⟨j,u,rfl,e⟩|⟨y,u,rfl,e⟩
   ·exact nomatch e
   ·injection e with e1 _;rw[e1]
 byValue:=λk v h=>by rcases yu h with⟨i,t,rfl,rfl⟩|⟨x,t,rfl,rfl⟩<;>rfl
 pyHash:=λhv h=>by
  rcases yu hv with⟨i,t,rfl,rfl⟩|⟨x,t,rfl,rfl⟩
  ·exact wpAny_pyHash_int h
  ·exact wpAny_pyHash_str h
 eqBool:=λhu hv h=>by
  rcases yu hu with⟨i,t,rfl,rfl⟩|⟨x,t,rfl,rfl⟩
  ·rcases yu hv with⟨j,u,rfl,rfl⟩|⟨y,u,rfl,rfl⟩
   ·rw[ϋ]at h;exact wpAny_eqBool_int h
   ·rw[Ω]at h;exact SeqAt.EqAt.int_str i t y u _ _ _ _ h
  ·rcases yu hv with⟨j,u,rfl,rfl⟩|⟨y,u,rfl,rfl⟩
   ·rw[Ψ]at h;exact SeqAt.EqAt.str_int x t j u _ _ _ _ h
   ·rw[ϊ]at h;exact wpAny_eqBool_str h
 «strs»:=λk x t v h=>by
  rcases yu h with⟨i,u,rfl,e⟩|⟨y,u,rfl,e⟩
  ·exact nomatch e
  ·injection e with e1 _;subst e1;cases v<;>rfl
theorem W7 (prog:eG)(w:dW)(i:Int)(t:Tok):(jO prog w).is (.inl i) (.int i t)=Â:=X3 i t
theorem W8 (prog:eG)(w:dW)(x:Str)(t:Tok):(jO prog w).is (.inr x) (.str x t)=Â:=X4 x t
inductive V where
 |non|bl (b:Bool)|int (i:Int)|str (x:Str)|byt (b:Array UInt8)|flt (b:UInt64)|ref (a:cn)|ty (n:String)
 deriving DecidableEq
noncomputable def Í:V->b8->Prop
 |.non,u=>u=b8.none
 |.bl b,u=>u=b8.bool b
 |.int i,u=>∃t,u=b8.int i t
 |.str x,u=>∃t,u=b8.str x t
 |.byt b,u=>∃t,u=b8.bytes b t
 |.flt b,u=>∃t,u=b8.float b t
 |.ref a,u=>u=b8.ref a
 |.ty n,u=>u=b8.type n
abbrev dR:List V->List b8->Prop:=Paired Í
variable {us:List b8}{xs:List V}
theorem dR.length (r:dR xs us):xs.length=us.length:=Paired.length r
theorem dR.get:∀{xs:List V} {us:List b8} {i:Nat} {x:V},dR xs us->xs[i]?=Z x->∃u,us[i]?=Z u/\Í x u
 |_,_,_,_,.nil,e=>by simp at e
 |_,_,0,_,.cons r _,e=>by simp at e;subst e;exact⟨_,rfl,r⟩
 |_,_,i+1,x,.cons _ t,e=>by obtain⟨u,h1,h2⟩:=dR.get (i:=i) (x:=x) t (by simpa using e);exact⟨u,by simpa using h1,h2⟩
variable {u:b8}
theorem dR.set {x:V}{u:b8}(r:Í x u):∀{xs:List V} {us:List b8} (i:Nat),dR xs us->dR (xs.set i x) (us.set i u)
 |_,_,_,.nil=>.nil
 |_,_,0,.cons _ t=>.cons r t
 |_,_,i+1,.cons q t=>.cons q<|dR.set r i t
theorem dR.append:∀{xs ys:List V} {us ws:List b8},dR xs us->dR ys ws->dR (xs++ys) (us++ws)
 |_,_,_,_,.nil,s=>s
 |_,_,_,_,.cons r t,s=>.cons r<|dR.append t s
theorem dR.take:∀{xs:List V} {us:List b8} (n:Nat),dR xs us->dR (xs.take n) (us.take n)
 |_,_,0,_=>.nil
 |_,_,_+1,.nil=>.nil
 |_,_,n+1,.cons r t=>.cons r<|dR.take n t
theorem dR.drop:∀{xs:List V} {us:List b8} (n:Nat),dR xs us->dR (xs.drop n) (us.drop n)
 |_,_,0,r=>r
 |_,_,_+1,.nil=>.nil
 |_,_,n+1,.cons _ t=>dR.drop n t
def p7:Option V->Option b8->Prop
 |some v,Z u=>Í v u
 |none,C=>True
 |_,_=>False
variable {κ:Type}
def KV:List (κ×V)->List (κ×b8)->Prop:=Paired λ(p:κ×V) (q:κ×b8)=>p.1=q.1/\Í p.2 q.2
def kV:jU->V
 |.inl i=>.int i
 |.inr x=>.str x
inductive HO where
 |lst (xs:List V)
 |tup (xs:List V)
 |dK (eW:List<|jU×V)|dT (eW:List<|List jU×V)
 |set (K':Int->Bool) (n:Nat)
 |ins (V' dx:cn) (fs:List<|Str×V)
 |own (x:cn)
 |xd (fs:List<|Str×V)
 |met (f x:cn)
 |rng (lo hi:Int)
 |frz (o:iU) (u:HO)
 |tbl (ps:Array b8)
 |ext (φ:cO->Prop)
noncomputable abbrev Hp:=cn->Option HO
def gK (H:Hp)(a:cn)(o:HO):Hp:=λb=>if b=a then Z o else H b
variable {H:Hp}{a:cn}
theorem zw {o:HO}:gK H a o a=Z o:=by unfold gK;rw[if_pos rfl]
variable {b:cn}
theorem zu {o:HO}(h:b≠a):gK H a o b=H b:=by unfold gK;rw[if_neg h]
theorem ĸ {o u:HO}(h:H a=Z o)(h':H b=Z u)(d:o≠u):a≠b:=by intro e;subst e;rw[h]at h';exact d<|Option.some.inj h'
theorem zx {o:HO}(h:H a=Z o)(h':H b=C):a≠b:=by intro e;subst e;rw[h]at h';cases h'
section
variable (P:eG)(w:dW)
def gY (H:Hp)(h:cO)(a:cn):HO->Prop
  |.lst xs=>xs.length<=sizeLine/\∃(dP:List b8) (n:Nat),dR xs dP/\h.get? a=Z { cls:=.type "list",data:=.seq dP.toArray n }
  |.tup xs=>xs.length<=sizeLine/\∃dP:List b8,dR xs dP/\IsTup h a dP.toArray
  |.dK eW=>eW.length<=sizeLine/\(a==iK)=Ã/\∃vs,KV eW vs/\h.DictOf (jO P w) a vs
  |.dT eW=>eW.length<=sizeLine/\(a==iK)=Ã/\∃xs:List (List jU×cn×b8),
      Paired (λ(p:List jU×V) (q:List jU×cn×b8)=>p.1=q.1/\H q.2.1=Z (.tup<|p.1.map kV)/\Í p.2 q.2.2) eW xs /\
      ∃o es ep,h.get? a=Z o/\o.ExactDict/\o.data=.dict es ep/\es.toList=xs.map (entryOfKey<|vA<|jO P w)/\(xs.map (·.1)).Nodup
  |.set K' n=>h.SetOf (intKind P w) a K' n
  |.ins V' dx fs=>H dx=Z (.own a)/\fs.length<=1000/\dx≠a/\h.get? a=Z (gS V' dx) /\
      ∃mA,h.Ns1 dx mA/\(∀f,p7 (fs.lookup f)<|mA f)/\PySem.Within mA (fs.map (·.1))
  |.own _=>∃o,h.get? a=Z o
  |.xd fs=>∃mA,h.Ns1 a mA/\∀f,p7 (fs.lookup f) (mA f)
  |.rng lo hi=>∃t u v,h.get? a=Z { cls:=.type "range",data:=.fields #[.int lo t,.int hi u,.int 1 v] }
  |.frz o u=>h.get? a=Z o/\gY H h a u
  |.tbl ps=>h.get? a=Z { cls:=.none,data:=.fields ps }
  |.met f x=>h.get? a=Z (qZ (.ref f)<|.ref x)
  |.ext φ=>φ h/\(∃o,h.get? a=Z o)/\∀h1 h2:cO,φ h1->(∀o,h1.get? a=Z o->h2.get? a=Z o)->φ h2
def rg (H:Hp)(h:cO):Prop:=∀a o,H a=Z o->gY P w H h a o
end
variable {α β:Type}{H':Hp}{P:eG}{h h':cO}
section
variable {w:dW}{o:HO}
theorem gY.lt (x:gY P w H h a o):a<h.objs.size:=by
 cases o with
 |lst xs=>obtain⟨_,_,_,_,e⟩:=x;exact cS e
 |tup xs=>obtain⟨_,_,_,p⟩:=x;exact p.lt
 |dK eW=>obtain⟨_,_,_,_,o,_,_,e,_⟩:=x;exact cS e
 |dT eW=>obtain⟨_,_,_,_,o,_,_,e,_⟩:=x;exact cS e
 |set K' n=>obtain⟨o,_,_,_,e,_⟩:=x;exact cS e
 |ins V' dx fs=>obtain⟨_,_,_,e,_⟩:=x;exact cS e
 |own y=>obtain⟨_,e⟩:=x;exact cS e
 |xd fs=>obtain⟨_,⟨_,_,_,e,_⟩,_⟩:=x;exact cS e
 |rng lo hi=>obtain⟨_,_,_,e⟩:=x;exact cS e
 |frz ob u=>obtain⟨e,_⟩:=x;exact cS e
 |tbl ps=>exact cS<|show h.get? a=Z _ from x
 |met f y=>exact cS<|show h.get? a=Z _ from x
 |ext φ=>obtain⟨_,⟨_,e⟩,_⟩:=x;exact cS e
theorem Paired.mapP {α β:Type}{F W':α->β->Prop}:∀{l₁:List α} {l₂:List β},Paired F l₁ l₂->(∀a b,F a b->W' a b)->Paired W' l₁ l₂
 |_,_,.nil,_=>.nil
 |_,_,.cons r t,f=>.cons (f _ _ r)<|Paired.mapP t f
theorem gY.stay (x:gY P w H h a o)(k:∀b u,(b=a\/H b=Z (.own a))->h.get? b=Z u->h'.get? b=Z u)
    (ho:∀b,H b=Z (.own a)->H' b=Z (.own a)) (ht:∀b xs,H b=Z (.tup xs)->H' b=Z (.tup xs)):gY P w H' h' a o:=by
  induction o with
  |lst xs=>obtain⟨z,dP,n,r,e⟩:=x;exact⟨z,dP,n,r,k _ _ (.inl rfl) e⟩
  |tup xs=>obtain⟨z,dP,r,ob,e,c⟩:=x;exact⟨z,dP,r,ob,k _ _ (.inl rfl) e,c⟩
  |dK eW=>obtain⟨z,y,vs,r,ob,es,ep,e,c⟩:=x;exact⟨z,y,vs,r,ob,es,ep,k _ _ (.inl rfl) e,c⟩
  |dT eW=>obtain⟨z,y,xs,r,ob,es,ep,e,c⟩:=x;exact⟨z,y,xs,Paired.mapP r λp q z=>⟨z.1,ht _ _ z.2.1,z.2.2⟩,ob,es,ep,k _ _ (.inl rfl) e,c⟩
  |set K' n=>obtain⟨ob,es,ep,t,e,c⟩:=x;exact⟨ob,es,ep,t,k _ _ (.inl rfl) e,c⟩
  |ins V' dx fs=>obtain⟨d,z,ne,e,mA,⟨od,es,ep,S,c⟩,r⟩:=x;exact⟨ho _ d,z,ne,k _ _ (.inl rfl) e,mA,⟨od,es,ep,k _ _ (.inr d) S,c⟩,r⟩
  |own y=>obtain⟨ob,e⟩:=x;exact⟨ob,k _ _ (.inl rfl) e⟩
  |xd fs=>obtain⟨mA,⟨od,es,ep,e,c⟩,r⟩:=x;exact⟨mA,⟨od,es,ep,k _ _ (.inl rfl) e,c⟩,r⟩
  |rng lo hi=>obtain⟨t,u,v,e⟩:=x;exact⟨t,u,v,k _ _ (.inl rfl) e⟩
  |frz ob u ih=>obtain⟨e,q⟩:=x;exact⟨k _ _ (.inl rfl) e,ih q⟩
  |tbl ps=>have e:h.get? a=Z { cls:=.none,data:=.fields ps }:=x;show h'.get? a=Z { cls:=.none,data:=.fields ps };exact k a _ (.inl rfl) e
  |met f y=>have e:h.get? a=Z (qZ (.ref f)<|.ref y):=x;show h'.get? a=Z (qZ (.ref f)<|.ref y);exact k a _ (.inl rfl) e
  |ext φ=>obtain⟨p,⟨o,e⟩,st⟩:=x;exact⟨st _ _ p λo q=>k _ _ (.inl rfl) q,⟨o,k _ _ (.inl rfl) e⟩,st⟩
theorem rg.lt (x:rg P w H h)(e:H a=Z o):a<h.objs.size:=(x a o e).lt
theorem rg.fresh (x:rg P w H h)(e:h.objs.size<=a):H a=C:=by
 cases q:H a with
 |none=>rfl
 |some u=>exact absurd (dg (x.lt q) e)<|iC _
theorem rg.kept (x:rg P w H h)(k:∀b u,h.get? b=Z u->h'.get? b=Z u):rg P w H h':=λa o e=>(x a o e).stay (λb u _ q=>k b u q) (λ_ q=>q) λ_ _ q=>q
theorem rg.laid (x:rg P w H h)(k:∀b u,h.get? b=Z u->h'.get? b=Z u)(hp:h.objs.size<=a)(new:gY P w (gK H a o) h' a o):rg P w (gK H a o) h':=λb u e=>by
 have hn:=x.fresh hp;by_cases hb:b=a
 ·subst hb;rw[zw]at e;cases e;exact new
 ·rw[zu hb]at e;exact(x b u e).stay (λc v _ q=>k c v q) (λc q=>by rw[zu<|zx q hn];exact q) λc xs q=>by rw[zu<|zx q hn];exact q
end
def Rd (H:Hp)(a:cn)(u:HO):Prop:=H a=Z u\/∃o,H a=Z (.frz o u)
theorem Rd.ok {w:dW}{u:HO}(r:Rd H a u)(x:rg P w H h):gY P w H h a u:=by
 rcases r with r|⟨o,r⟩
 ·exact x a u r
 ·obtain⟨_,q⟩:=x a _ r;exact q
def Gn:Option HO->Prop
 |some (.lst _)=>True
 |some (.dK _)=>True
 |some (.dT _)=>True
 |some (.set _ _)=>True
 |some (.ins _ _ _)=>True
 |some (.ext _)=>True
 |_=>False
section
variable {w:dW}{x e:cn}{o':HO}
theorem rg.write (ok:rg P w H h)(mu:Gn<|H x)(he:e=x\/H e=Z (.own x))(k:∀b u,b≠e->h.get? b=Z u->h'.get? b=Z u)(FL:∃u,h'.get? e=Z u)
  (new:gY P w (gK H x o') h' x o'):rg P w (gK H x o') h':=λb u q=>by
 have Hw:∀c y,H c=Z (.own y)->c≠x:=λc y r z=>by subst z;rw[r]at mu;exact mu
 have LB:∀c xs,H c=Z (.tup xs)->c≠x:=λc xs r z=>by subst z;rw[r]at mu;exact mu
 by_cases hb:b=x
 ·subst hb;rw[zw]at q;cases q;exact new
 ·rw[zu hb]at q;by_cases EI:b=e
  ·have q':H b=Z (.own x):=by
    rcases he with z|z
    ·exact absurd (EI.trans z) hb
    ·rw[EI];exact z
   rw[q]at q';cases q';obtain⟨v,hv⟩:=FL;exact⟨v,by rw[EI];exact hv⟩
  ·refine(ok b u q).stay (λc v hc r=>k c v ?_ r) (λc r=>by rw[zu<|Hw c b r];exact r) λc xs r=>by rw[zu<|LB c xs r];exact r
   rcases hc with rfl|hc
   ·exact EI
   ·rintro rfl;rcases he with z|z
    ·exact Hw c b hc z
    ·rw[hc]at z;cases z;exact hb rfl
end
structure Un (fs ex:List cn)(H H':Hp)(h h':cO):Prop where
 keep:∀b o,h.get? b=Z o->H b=C->b∉fs->b∉ex->h'.get? b=Z o
 slot:∀b o,h.get? b=Z o->H b=C->b∈fs->b∉ex->∃sl,h'.get? b=Z { o with slots:=sl }
 free:∀b o,h.get? b=Z o->H b=C->b∉ex->H' b=C
 there:∀b o,h.get? b=Z o->b∉ex->∃o',h'.get? b=Z o'
 tups:∀b xs,H b=Z (.tup xs)->H' b=Z (.tup xs)
 frzs:∀b o u,H b=Z (.frz o u)->H' b=Z (.frz o u)
 tbls:∀b ps,H b=Z (.tbl ps)->∃more,H' b=Z (.tbl<|ps++more)
section
variable {fs FG ex ex':List cn}{H1 H2:Hp}{h1 h2:cO}{x e:cn}{o:HO}
theorem Un.any (u:Un fs ex H H1 h h1){ob:iU}(q:h.get? b=Z ob)(n:H b=C)(hx:b∉ex):∃sl,h1.get? b=Z { ob with slots:=sl }:=by
 by_cases hb:b∈fs
 ·exact u.slot b ob q n hb hx
 ·exact⟨ob.slots,u.keep b ob q n hb hx⟩
theorem Un.kept (k:∀b u,h.get? b=Z u->h'.get? b=Z u):Un fs ex H H h h' :=
 ⟨λb ob q _ _ _=>k b ob q,λb ob q _ _ _=>⟨ob.slots,k b ob q⟩,λ_ _ _ n _=>n,λb ob q _=>⟨ob,k b ob q⟩,λ_ _ q=>q,λ_ _ _ q=>q,λ_ ps q=>⟨#[],by rw[q];simp⟩⟩
theorem Un.refl:Un fs ex H H h h:=Un.kept λ_ _ q=>q
theorem Un.laid (k:∀b u,h.get? b=Z u->h'.get? b=Z u)(hp:h.objs.size<=a)(hn:H a=C):Un fs ex H (gK H a o) h h' where
 keep:=λb u q _ _ _=>k b u q
 slot:=λb u q _ _ _=>⟨u.slots,k b u q⟩
 free:=λb u q n _=>by rw[zu<|dG<|dg (cS q) hp];exact n
 there:=λb u q _=>⟨u,k b u q⟩
 tups:=λb xs q=>by rw[zu<|zx q hn];exact q
 frzs:=λb u xs q=>by rw[zu<|zx q hn];exact q
 tbls:=λb ps q=>⟨#[],by rw[zu<|zx q hn,q];simp⟩
theorem Un.write (mu:Gn<|H x)(he:e=x\/H e=Z (.own x))(k:∀b u,b≠e->h.get? b=Z u->h'.get? b=Z u)(FL:∃u,h'.get? e=Z u):Un fs ex H (gK H x o) h h':=by
 have hx:∀b,H b=C->b≠x:=λb n z=>by subst z;rw[n]at mu;exact mu
 have hb:∀b,H b=C->b≠e:=λb n z=>by
  subst z;rcases he with r|r
  ·exact hx b n r
  ·rw[n]at r;cases r
 have hm:∀b u,H b=Z u->¬Gn (Z u)->b≠x:=λb u q nm z=>by subst z;rw[q]at mu;exact nm mu
 refine⟨λb u q n _ _=>k b u (hb b n) q,λb u q n _ _=>⟨u.slots,k b u (hb b n) q⟩,λb u q n _=>by rw[zu<|hx b n];exact n,λb u q _=>?_,
  λb xs q=>by rw[zu<|hm b _ q λz=>z];exact q,λb u xs q=>by rw[zu<|hm b _ q λz=>z];exact q,λb ps q=>⟨#[],by rw[zu<|hm b _ q λz=>z,q];simp⟩⟩
 by_cases EI:b=e
 ·subst EI;exact FL
 ·exact⟨u,k b u EI q⟩
end
def Jz (h:cO)(H:Hp):List cn:=(cE h.objs.size).filter λa=>(H a).isSome
def vW (h:cO)(H:Hp):cO:=PySem.W.hideAll h<|Jz h H
theorem X5 (h:cO)(H:Hp):(vW h H).objs.size=h.objs.size:=PySem.W.hideAll_size _ _
theorem YT {o:iU}(e:h.get? b=Z o)(n:H b=C):(vW h H).get? b=Z o :=
 PySem.W.hideAll_get _ e λhm=>by have q:(H b).isSome=Â:=(dU.mp hm).2;rw[n]at q;simp at q
theorem Z2 {o:iU}(e:(vW h H).get? b=Z o):h.get? b=Z o/\H b=C:=by
 have e':h.get? b=Z o:=PySem.W.of_hideAll (Jz h H) e;refine⟨e',?_⟩;cases q:H b with
 |none=>rfl
 |some x=>have hm:b∈Jz h H:=dU.mpr ⟨dm.mpr<|cS e',by simp[q]⟩;have z:(vW h H).get? b=C:=PySem.W.hideAll_none (Jz h H) hm;rw[z]at e;cases e
noncomputable def CS (g h:cO)(L':cn):List (cn×iU):=(cE h.objs.size).filterMap λa=>if a=L'\/(g.get? a).isSome=Â then C else(h.get? a).map λo=>(a,o)
def Î (g h:cO)(L' d:cn):List (cn×iU):=(CS g h L').filter λp=>decide<|p.1≠d
structure Mod (K:b9)(mg:Str->Option b8)(base:cO):Prop where
 kin:K.In base
 glob:base.Ns ee mg
 blt:∃mb,base.Ns DN mb/\∀x:Str,x≠"__name__"->mb x=d5 x
 nolimit:base.NoLimit
structure Cx where
 prog:eG
 w:dW
 K:b9
 mg:Str->Option b8
 base:cO
 A:d4
 N:List Str
 s₀:cF
 H₀:Hp
 env:Env
 outer:List Env
 stack:List Env
 ex:List cn
 fn:Str->Bool
 calm:Bool
 pn:List (cn×iU)
 xe:b8->cF->Prop
abbrev SE (X:Cx)(e:Expr)(es:List Expr):Prop:=dE (e::es) X.env=(Ã,fB e X.env)::dE es X.env
abbrev SN (X:Cx)(e:Expr):Prop:=dE [e] X.env=[(Ã,fB e X.env)]
abbrev rc (X:Cx)(p:qP)(es:List Expr):Prop:=(kh p<|dE es X.env).any (·.1)=Ã
abbrev wW (X:Cx)(x:Str):Prop:=X.fn x=Â\/X.env.scope.names.lookup x=Z .local
abbrev Gv (X:Cx)(e:Expr)(x:Str)(p q:qP):Prop:=iF e (Z<|.Name x p) q.line X.env=pure Ã
abbrev Co (X:Cx)(i:Expr):Prop:=∀x,foldedSetIterable i X.env x=pure x
abbrev CN (X:Cx)(e:Expr)(x:Str):Prop:=zT e x X.env (fB e X.env)=fB e X.env
abbrev FA (X:Cx)(p:qP)(es:List Expr):Prop:=((kh p<|dE es X.env).all (λx=>!x.1)&&(lV p<|iG [] X.env).all (λx=>x.1.isSome)&&decide (es.length+([]:List Keyword).length+(if([]:List Keyword).isEmpty then 0 else 1)<30))=Â
noncomputable def By (l:List Env):List cn:=l.filterMap (·.frame)
abbrev Cx.fs (X:Cx):List cn:=By X.outer
def uQ (sc:rR)(x:Str):Prop:=sc.names.lookup x=Z .local\/sc.names.lookup x=Z .cell\/sc.names.lookup x=Z .free
def ï (sc:rR)(x:Str):Prop:=sc.names.lookup x=Z .local\/sc.names.lookup x=Z .cell
def ġ (env:Env)(h:cO)(m:Str->Option b8)(x:Str)(u:b8):Prop :=
 (env.kindOf x=Z .local/\m x=Z u)\/((env.kindOf x=Z .cell\/env.kindOf x=Z .free)/\∃c,env.cells.lookup x=Z c/\h.IsCell c (Z u))
structure Cx.Ok (X:Cx):Prop where
 mod:Mod X.K X.mg X.base
 kind:X.env.scope.kind=.function
 glob:X.env.globals=ee
 blt:X.env.builtins=DN
 above:X.s₀.heap.objs.size<=X.env.locals
 inj:∀x y c,X.env.cells.lookup x=Z c->X.env.cells.lookup y=Z c->x=y
 has:∀x,(X.env.kindOf x=Z .cell\/X.env.kindOf x=Z .free)->∃c,X.env.cells.lookup x=Z c
 cab:∀x c,X.fn x=Â->X.env.cells.lookup x=Z c->X.s₀.heap.objs.size<=c
 hd:X.calm=Â->X.A.handled=C
 frames:X.A.frames=Z X.stack
 stk:X.stack=X.outer\/(X.stack=X.env::X.outer/\X.env.frame=Z X.env.locals)
 exf:∀b∈X.ex,b≠X.env.locals/\∀x c,X.env.cells.lookup x=Z c->c≠b
 bs:∀b o,X.base.get? b=Z o->X.s₀.heap.get? b=Z o/\X.H₀ b=C
 bsz:X.base.objs.size<=X.s₀.heap.objs.size
 noex:∀b o,X.base.get? b=Z o->b∉X.ex
 exfs:∀b∈X.ex,b∉X.fs
 funs:X.s₀.heap.FunFrames X.base X.outer
 frf:∀b∈X.fs,X.H₀ b=C
structure Ê (X:Cx)(ce:List<|cn×iU)(U:List<|Option V)(H:Hp)(s:cF):Prop where
 ok:X.Ok
 os:s.os=X.s₀.os
 bare:AllBare s.gens
 base:Un X.fs X.ex X.H₀ H X.s₀.heap s.heap
 loc:∃m,s.heap.Ns X.env.locals m/\∀(i:Nat) (x:Str) (v:V),X.N[i]?=Z x->U[i]?=Z (Z v)->uQ X.env.scope x->∃u,Í v u/\ġ X.env s.heap m x u
 cell:∀x c,X.env.cells.lookup x=Z c->∃v,s.heap.IsCell c v
 free:H X.env.locals=C
 freeC:∀x c,X.env.cells.lookup x=Z c->H c=C
 pin:∀p∈X.pn++ce,s.heap.get? p.1=Z p.2/\H p.1=C/\p.1≠X.env.locals/\p.1∉X.fs/\∀v,p.2.data≠.cell v
 hok:rg X.prog X.w H s.heap
 len:U.length=X.N.length
variable {E:b8->cF->Prop}{U':Model}{X:Cx}{ch:List cn}{j t':Nat}{ce:List (cn×iU)}{s s':cF}{v:V}{x:Str}
section
variable {U:List (Option V)}
theorem Cx.Ok.nofr (ok:X.Ok){o:iU}(e:X.base.get? b=Z o):b∉X.fs:=λhb=>by have:=(ok.funs.mem hb).1;rw[e]at this;cases this
theorem Ê.bs (I:Ê X ce U H s):∀b o,X.base.get? b=Z o->s.heap.get? b=Z o/\H b=C:=λb o e=>⟨I.base.keep b o (I.ok.bs b o e).1 (I.ok.bs b o e).2 (I.ok.nofr e)<|I.ok.noex b o e,I.base.free b o (I.ok.bs b o e).1 (I.ok.bs b o e).2<|I.ok.noex b o e⟩
theorem Ê.bk (I:Ê X ce U H s):∀b o,X.base.get? b=Z o->s.heap.get? b=Z o:=λb o e=>(I.bs b o e).1
theorem Ê.mod (I:Ê X ce U H s):Mod X.K X.mg X.base:=I.ok.mod
theorem Ê.kIn (I:Ê X ce U H s):X.K.In s.heap:=I.ok.mod.kin.keeps I.bk
theorem Ê.fr (I:Ê X ce U H s):∃m,Fr X.base X.env.locals s.heap m :=
 let⟨m,hn,_⟩:=I.loc
 ⟨m,hn,I.bk,eD I.ok.bsz I.ok.above⟩
theorem Ê.lt (I:Ê X ce U H s):X.env.locals<s.heap.objs.size:=let⟨_,hn,_⟩:=I.loc;hn.lt
theorem Ê.sz (I:Ê X ce U H s):X.s₀.heap.objs.size<=s.heap.objs.size:=eD I.ok.above<|su I.lt
theorem Ê.nofs (I:Ê X ce U H s)(h:s.heap.objs.size<=a):a∉X.fs:=λhb=>by obtain⟨_,o,ho,_⟩:=I.ok.funs.mem hb;exact absurd (dg (cS ho)<|eD I.sz h)<|iC _
theorem Ê.cne (I:Ê X ce U H s):∀x c,X.env.cells.lookup x=Z c->c≠X.env.locals:=λx c e z=>by obtain⟨v,o,ho,hd⟩:=I.cell x c e;obtain⟨m,⟨o',es,ep,BD,GR,_⟩,_⟩:=I.loc;rw[z,BD]at ho;cases ho;rw[GR]at hd;cases hd
theorem Ê.funs (I:Ê X ce U H s):s.heap.FunFrames X.base X.outer:=by
 have all:∀(l:List Env),(∀b∈By l,b∈X.fs)->X.s₀.heap.FunFrames X.base l->s.heap.FunFrames X.base l:=by
  intro l;induction l with
  |nil=>intro _ _;trivial
  |cons env r ih=>intro hs hl;obtain⟨hk,⟨L',o,hf,hn,ho,hd⟩,hr⟩:=hl;have hL:L'∈X.fs:=hs L' (by unfold By;rw[jX,hf];exact b7);obtain⟨sl,e⟩:=I.base.slot L' o ho (I.ok.frf L' hL) hL λz=>I.ok.exfs L' z hL;exact⟨hk,⟨L',_,hf,hn,e,hd⟩,ih (λb hb=>hs b<|by unfold By;rw[jX,hf];exact cj _ hb) hr⟩
 exact all X.outer (λ_ hb=>hb) I.ok.funs
theorem Ê.stack (I:Ê X ce U H s):s.heap.FunFrames X.base X.stack:=by
 rcases I.ok.stk with e|⟨e,hf⟩
 ·rw[e];exact I.funs
 ·rw[e];obtain⟨m,hn,_⟩:=I.loc;refine .cons (by rw[I.ok.kind];decide) hf hn ?_ I.funs;exact cO.get?_none_of_le (eD I.ok.bsz I.ok.above)
theorem Ê.stkSub (I:Ê X ce U H s):∀b∈By X.stack,b∈X.env.locals::X.fs:=λb hb=>by
 rcases I.ok.stk with e|⟨e,hf⟩
 ·rw[e]at hb;exact cj _ hb
 ·rw[e]at hb;unfold By at hb;rw[jX,hf]at hb;exact hb
theorem Ê.stkFree (I:Ê X ce U H s):∀b∈By X.stack,H b=C:=λb hb=>by
 rcases cu.mp (I.stkSub b hb)with e|hb
 ·rw[e];exact I.free
 ·obtain⟨_,o,ho,_⟩:=I.ok.funs.mem hb;exact I.base.free b o ho (I.ok.frf b hb) λz=>I.ok.exfs b z hb
theorem Ê.step {g':Array GenState}{d':Drawn}(I:Ê X ce U H s)
  (rF:∀b∈ch,(b∈X.ex\/X.s₀.heap.objs.size<=b)/\b≠X.env.locals/\(∀x c,X.env.cells.lookup x=Z c->c≠b)/\∀p∈X.pn++ce,p.1≠b)
  (keep:∀b o,b≠X.env.locals->b∉X.fs->b∉ch->s.heap.get? b=Z o->H b=C->h'.get? b=Z o)
  (slot:∀b o,b≠X.env.locals->b∈X.fs->b∉ch->s.heap.get? b=Z o->H b=C->∃sl,h'.get? b=Z { o with slots:=sl }) (free:∀b o,b∉ch->s.heap.get? b=Z o->H b=C->H' b=C)
  (there:∀b o,b∉ch->s.heap.get? b=Z o->∃o',h'.get? b=Z o')
  (tups:∀b xs,H b=Z (.tup xs)->H' b=Z (.tup xs)) (frzs:∀b o u,H b=Z (.frz o u)->H' b=Z (.frz o u)) (tbls:∀b ps,H b=Z (.tbl ps)->∃more,H' b=Z (.tbl<|ps++more))
  (ns:∀m,s.heap.Ns X.env.locals m->h'.Ns X.env.locals m) (hok:rg X.prog X.w H' h') (hg:AllBare g') :
  Ê X ce U H' { s with heap:=h',gens:=g',drawn:=d',toks:=t' }:=by
 have OD:∀b o,X.s₀.heap.get? b=Z o->b≠X.env.locals:=λb o e=>dG<|dg (cS e) I.ok.above;have Jp:∀b o,X.s₀.heap.get? b=Z o->b∉X.ex->b∉ch:=λb o e hx hb=>by
  rcases(rF b hb).1 with z|z
  ·exact hx z
  ·exact absurd (dg (cS e) z)<|iC _
 have cellK:∀x c,X.env.cells.lookup x=Z c->∀v,s.heap.IsCell c v->h'.IsCell c v:=λx c e v ⟨o,ho,hd⟩=>by
  have Hs:c∉ch:=λz=>(rF c z).2.2.1 x c e rfl;by_cases hc:c∈X.fs
  ·obtain⟨sl,q⟩:=slot c o (I.cne x c e) hc Hs ho<|I.freeC x c e;exact⟨_,q,hd⟩
  ·exact⟨o,keep c o (I.cne x c e) hc Hs ho<|I.freeC x c e,hd⟩
 refine⟨I.ok,I.os,hg,⟨λb o e n hb hx=>?_,λb o e n hb hx=>?_,λb o e n hx=>?_,λb o e hx=>?_,λb xs e=>tups b xs<|I.base.tups b xs e,λb o xs e=>frzs b o xs<|I.base.frzs b o xs e,λb ps e=>?_⟩,?_,λx c e=>?_,?_,λx c e=>?_,λp hp=>?_,hok,I.len⟩
 ·exact keep b o (OD b o e) hb (Jp b o e hx) (I.base.keep b o e n hb hx)<|I.base.free b o e n hx
 ·obtain⟨sl,e1⟩:=I.base.slot b o e n hb hx;obtain⟨Vr,S⟩:=slot b _ (OD b o e) hb (Jp b o e hx) e1<|I.base.free b o e n hx;exact⟨Vr,S⟩
 ·obtain⟨o',e1⟩:=I.base.there b o e hx;exact free b o' (Jp b o e hx) e1<|I.base.free b o e n hx
 ·obtain⟨o',e1⟩:=I.base.there b o e hx;exact there b o' (Jp b o e hx) e1
 ·obtain⟨m1,e1⟩:=I.base.tbls b ps e;obtain⟨m2,S⟩:=tbls b _ e1;exact⟨m1++m2,by rw[S,Array.append_assoc]⟩
 ·obtain⟨m,hn,hl⟩:=I.loc;refine⟨m,ns m hn,λi x v e1 S e3=>?_⟩;obtain⟨u,r,l⟩:=hl i x v e1 S e3;refine⟨u,r,?_⟩;rcases l with l|⟨k,c,e,z⟩
  ·exact .inl l
  ·exact .inr ⟨k,c,e,cellK x c e _ z⟩
 ·obtain⟨v,z⟩:=I.cell x c e;exact⟨v,cellK x c e v z⟩
 ·obtain⟨m,⟨o,_,_,ho,_⟩,_⟩:=I.loc;exact free _ o (λz=>(rF _ z).2.1 rfl) ho I.free
 ·obtain⟨v,o,ho,hd⟩:=I.cell x c e;exact free c o (λz=>(rF c z).2.2.1 x c e rfl) ho<|I.freeC x c e
 ·obtain⟨e,n,ne,nf,d⟩:=I.pin p hp;have Hs:p.1∉ch:=λz=>(rF p.1 z).2.2.2 p hp rfl;exact⟨keep p.1 p.2 ne nf Hs e n,free p.1 p.2 Hs e n,ne,nf,d⟩
theorem Ê.un (I:Ê X ce U H s)(u:Un X.fs [] H H' s.heap h')(hok:rg X.prog X.w H' h'):Ê X ce U H' { s with heap:=h',toks:=t' }:=by obtain⟨m,⟨o,es,ep,ho,r⟩,_⟩:=id I.loc;obtain⟨sl,hL⟩:=u.any ho I.free (by simp);exact I.step (g':=s.gens) (d':=s.drawn) (ch:=[]) (λ_ z=>nomatch z) (λb o _ hb _ e n=>u.keep b o e n hb<|by simp) (λb o _ hb _ e n=>u.slot b o e n hb<|by simp) (λb o _ e n=>u.free b o e n<|by simp) (λb o _ e=>u.there b o e<|by simp) u.tups u.frzs u.tbls (λm' hm=>by obtain⟨o',CV,Kr,BD,r'⟩:=hm;rw[ho]at BD;cases BD;exact⟨_,CV,Kr,hL,r'⟩) hok I.bare
theorem Ê.call {g':Array GenState}{d':Drawn}(I:Ê X ce U H s)(u:Un (By X.stack) ch H H' s.heap h')(hok:rg X.prog X.w H' h')(hg:AllBare g')
  (rF:∀b∈ch,(b∈X.ex\/X.s₀.heap.objs.size<=b)/\b≠X.env.locals/\(∀x c,X.env.cells.lookup x=Z c->c≠b)/\∀p∈X.pn++ce,p.1≠b) :
  Ê X ce U H' { s with heap:=h',gens:=g',drawn:=d',toks:=t' }:=by
 obtain⟨m,⟨o,es,ep,ho,r⟩,_⟩:=id I.loc;obtain⟨sl,hL⟩:=u.any ho I.free λz=>(rF _ z).2.1 rfl;exact I.step (ch:=ch) rF (λb o hL hb hc e n=>u.keep b o e n (λz=>(cu.mp<|I.stkSub b z).elim hL hb) hc) (λb o _ _ hc e n=>u.any e n hc) (λb o hc e n=>u.free b o e n hc) (λb o hc e=>u.there b o e hc) u.tups u.frzs u.tbls (λm' hm=>by obtain⟨o',CV,Kr,BD,r'⟩:=hm;rw[ho]at BD;cases BD;exact⟨_,CV,Kr,hL,r'⟩) hok hg
theorem Ê.turned {it:cn}(I:Ê X ce U H s)(k:∀b o,b≠it->s.heap.get? b=Z o->h'.get? b=Z o)(hn:H it=C)(hL:it≠X.env.locals)
  (h1:it∈X.ex\/X.s₀.heap.objs.size<=it) (h2:∀x c,X.env.cells.lookup x=Z c->c≠it) (h3:∀p∈X.pn++ce,p.1≠it):Ê X ce U H { s with heap:=h',toks:=t' }:=by
 have OF:∀b u,H b=Z u->b≠it:=λb u e z=>by rw[z,hn]at e;cases e
 refine I.step (g':=s.gens) (d':=s.drawn) (ch:=[it]) (λb hb=>?_) (λb o _ _ hc e _=>k b o (λz=>hc<|by simp[z]) e) (λb o _ _ hc e _=>⟨o.slots,k b o (λz=>hc<|by simp[z]) e⟩) (λ_ _ _ _ n=>n)
  (λb o hc e=>⟨o,k b o (λz=>hc<|by simp[z]) e⟩) (λ_ _ e=>e) (λ_ _ _ e=>e) (λb ps e=>⟨#[],by rw[e];simp⟩) (λm hm=>?_) (λb u e=>?_) I.bare
 ·have e:b=it:=by simpa using hb
  subst e;exact⟨h1,hL,h2,h3⟩
 ·obtain⟨o,es,ep,ho,r⟩:=hm;exact⟨o,es,ep,k _ o (Ne.symm hL) ho,r⟩
 ·refine(I.hok b u e).stay (λc v hc q=>k c v ?_ q) (λ_ q=>q) λ_ _ q=>q;rcases hc with z|z
  ·rw[z];exact OF b u e
  ·exact OF c _ z
theorem Ê.tok (I:Ê X ce U H s)(t:Nat):Ê X ce U H { s with toks:=t }:=I.un (h':=s.heap) (t':=t) Un.refl I.hok
theorem Ê.kept (I:Ê X ce U H s)(k:∀b u,s.heap.get? b=Z u->h'.get? b=Z u):Ê X ce U H { s with heap:=h',toks:=t' }:=I.un (Un.kept k)<|I.hok.kept k
theorem Ê.laid {o:HO}(I:Ê X ce U H s)(k:∀b u,s.heap.get? b=Z u->h'.get? b=Z u)(hp:s.heap.objs.size<=a)(new:gY X.prog X.w (gK H a o) h' a o) :
  Ê X ce U (gK H a o) { s with heap:=h',toks:=t' }:=I.un (Un.laid k hp<|I.hok.fresh hp)<|I.hok.laid k hp new
theorem Ê.write {x e:cn}{o:HO}(I:Ê X ce U H s)(mu:Gn<|H x)(he:e=x\/H e=Z (.own x))(k:∀b u,b≠e->s.heap.get? b=Z u->h'.get? b=Z u)(FL:∃u,h'.get? e=Z u)
  (new:gY X.prog X.w (gK H x o) h' x o):Ê X ce U (gK H x o) { s with heap:=h',toks:=t' }:=I.un (Un.write mu he k FL)<|I.hok.write mu he k FL new
theorem Ê.weak {σ':List (Option V)}(I:Ê X ce U H s)(hl:σ'.length = U.length)(w:∀(i:Nat) v,σ'[i]?=Z (Z v)->U[i]?=Z (Z v)):Ê X ce σ' H s :=
 ⟨I.ok,I.os,I.bare,I.base,let⟨m,hn,C0⟩:=I.loc;⟨m,hn,λi x v e1 S e3=>C0 i x v e1 (w i v S) e3⟩,I.cell,I.free,I.freeC,I.pin,I.hok,hl.trans I.len⟩
theorem Ê.pins_of {Ea:List (cn×iU)}(I:Ê X ce U H s)(h:∀p∈Ea,s.heap.get? p.1=Z p.2/\H p.1=C/\p.1≠X.env.locals/\p.1∉X.fs/\∀v,p.2.data≠.cell v):Ê X Ea U H s :=
 ⟨I.ok,I.os,I.bare,I.base,I.loc,I.cell,I.free,I.freeC,λp hp=>(cH.mp hp).elim (λz=>I.pin p<|dF _ z)<|h p,I.hok,I.len⟩
theorem Qy {N:List Str}(hN:N.Nodup){i:Nat}(a:N[i]?=Z x)(b:N[j]?=Z x):i=j:=by obtain⟨h1,e1⟩:=cU.mp a;obtain⟨h2,S⟩:=cU.mp b;exact(oN hN).mp<|e1.trans S.symm
theorem PQ {A:d4}{i:Nat}{Q:Unit->cF->Prop}(I:Ê X ce U H s)(hN:X.N.Nodup)(hi:X.N[i]?=Z x)(hx:ï X.env.scope x)(r:Í v u)
  (h:∀s',Ê X ce (U.set i<|Z v) H s'->(∃a,f7 a s.heap s'.heap/\(a=X.env.locals\/X.env.cells.lookup x=Z a))->Q () s') (hf:wW X x:=by walk_at "v2"):cW U' A (storeName X.env x u) Q E s:=by
 obtain⟨m,hn,hl⟩:=id I.loc;have KR:(X.env.scope.kind==.class || (X.env.scope.kind==.module&&X.env.locals != X.env.globals))=Ã:=by rw[I.ok.kind];rfl
 have Oa:i < U.length:=by rw[I.len];exact(cU.mp hi).1
 have cne:=I.cne;have tracked:∀{a:cn} {h':cO},(∃o,s.heap.get? a=Z o/\H a=C)->f7 a s.heap h'->rg X.prog X.w H h':=λ{a h'} ha hs b ob e=>by
  obtain⟨_,_,D1⟩:=ha;refine(I.hok b ob e).stay (λc w' hc q=>(hs.2 c ?_).trans q) (λ_ q=>q) λ_ _ q=>q;rintro rfl;rcases hc with rfl|hc
  ·rw[D1]at e;cases e
  ·rw[D1]at hc;cases hc
 rcases hx with hk|hk
 ·refine wpAny_storeName_local hk hn (λh' GZ hs=>?_) KR;obtain⟨oL,_,_,UN,_⟩:=id hn;refine h _ ⟨I.ok,I.os,I.bare,⟨λb o e n hb hx=>?_,λb o e n hb hx=>?_,I.base.free,λb o e hx=>?_,I.base.tups,I.base.frzs,I.base.tbls⟩,⟨_,GZ,λj y v' e1 S e3=>?_⟩,λy c e=>?_,I.free,I.freeC,λp hp=>?_,tracked ⟨oL,UN,I.free⟩ hs,by simpa using I.len⟩ ⟨_,hs,.inl rfl⟩
  ·exact(hs.2 b<|dG<|dg (cS e) I.ok.above).trans<|I.base.keep b o e n hb hx
  ·obtain⟨sl,e1⟩:=I.base.slot b o e n hb hx;exact⟨sl,(hs.2 b<|dG<|dg (cS e) I.ok.above).trans e1⟩
  ·obtain⟨o',e1⟩:=I.base.there b o e hx;exact⟨o',(hs.2 b<|dG<|dg (cS e) I.ok.above).trans e1⟩
  ·by_cases hj:j=i
   ·subst hj;rw[hi]at e1;cases e1;rw[o9 Oa]at S;cases S;exact⟨u,r,.inl ⟨hk,by simp⟩⟩
   ·rw[gq<|Ne.symm hj]at S;obtain⟨u',r',q⟩:=hl j y v' e1 S e3;refine⟨u',r',?_⟩;rcases q with⟨k,e⟩|⟨k,c,e,z⟩
    ·refine .inl ⟨k,?_⟩;have:y≠x:=λe=>hj<|Qy hN e1<|e▸hi;simp[this,e]
    ·exact .inr ⟨k,c,e,z.sameBut hs<|cne y c e⟩
  ·obtain⟨w',z⟩:=I.cell y c e;exact⟨w',z.sameBut hs<|cne y c e⟩
  ·obtain⟨e,n,ne,nf,d⟩:=I.pin p hp;exact⟨(hs.2 p.1 ne).trans e,n,ne,nf,d⟩
 ·have FM:X.fn x=Â:=by
   rcases hf with z|z
   ·exact z
   ·rw[z]at hk;cases hk
  obtain⟨c,hc⟩:=I.ok.has x<|.inl hk;obtain⟨w',z⟩:=I.cell x c hc;refine wpAny_storeName_cell I.ok.kind hk hc z<|λh' DZ hs=>?_;obtain⟨oc,Og,Le⟩:=id z;refine h { s with heap:=h' } ⟨I.ok,I.os,I.bare,⟨λb o e n hb hx=>?_,λb o e n hb hx=>?_,I.base.free,λb o e hx=>?_,I.base.tups,I.base.frzs,I.base.tbls⟩,⟨m,hn.sameBut hs<|Ne.symm<|cne x c hc,λj y v' e1 S e3=>?_⟩,λy c' e=>?_,I.free,I.freeC,λp hp=>?_,tracked ⟨oc,Og,I.freeC x c hc⟩ hs,by simpa using I.len⟩ ⟨c,hs,.inr hc⟩
  ·exact(hs.2 b<|dG<|dg (cS e)<|I.ok.cab x c FM hc).trans<|I.base.keep b o e n hb hx
  ·obtain⟨sl,e1⟩:=I.base.slot b o e n hb hx;exact⟨sl,(hs.2 b<|dG<|dg (cS e)<|I.ok.cab x c FM hc).trans e1⟩
  ·obtain⟨o',e1⟩:=I.base.there b o e hx;exact⟨o',(hs.2 b<|dG<|dg (cS e)<|I.ok.cab x c FM hc).trans e1⟩
  ·by_cases hj:j=i
   ·subst hj;rw[hi]at e1;cases e1;rw[o9 Oa]at S;cases S;exact⟨u,r,.inr ⟨.inl hk,c,hc,DZ⟩⟩
   ·rw[gq<|Ne.symm hj]at S;obtain⟨u',r',q⟩:=hl j y v' e1 S e3;refine⟨u',r',?_⟩;rcases q with q|⟨k,c',e,z'⟩
    ·exact .inl q
    ·refine .inr ⟨k,c',e,z'.sameBut hs ?_⟩;rintro rfl;exact hj<|Qy hN e1<|I.ok.inj _ _ _ e hc▸hi
  ·by_cases N4:c'=c
   ·subst N4;exact⟨_,DZ⟩
   ·obtain⟨w2,z2⟩:=I.cell y c' e;exact⟨w2,z2.sameBut hs N4⟩
  ·obtain⟨e,n,ne,nf,d⟩:=I.pin p hp;refine⟨(hs.2 p.1 ?_).trans e,n,ne,nf,d⟩;intro q;rw[q,Og]at e;have q':oc=p.2:=Option.some.inj e;exact d w' (by rw[←q'];exact Le)
theorem jj {A:d4}{i:Nat}{Q:Unit->cF->Prop}(I:Ê X ce U H s)(hN:X.N.Nodup)(hi:X.N[i]?=Z x)(hx:ï X.env.scope x)(r:Í v u)
  (h:∀s',Ê X ce (U.set i<|Z v) H s'->Q () s') (hf:wW X x:=by walk_at "v2"):cW U' A (storeName X.env x u) Q E s :=
 PQ I hN hi hx r (λs' I' _=>h s' I') hf
theorem Ê.call' (I:Ê X ce U H s)(ho:s'.os=s.os)(u:Un (By X.stack) ch H H' s.heap s'.heap)(hok:rg X.prog X.w H' s'.heap)(hg:AllBare s'.gens)
  (rF:∀b∈ch,(b∈X.ex\/X.s₀.heap.objs.size<=b)/\b≠X.env.locals/\(∀x c,X.env.cells.lookup x=Z c->c≠b)/\∀p∈X.pn++ce,p.1≠b):Ê X ce U H' s':=by
 obtain⟨h',g',d',t',o'⟩:=s';have e:o'=s.os:=ho;subst e;exact I.call (g':=g') (t':=t') (d':=d') u hok hg rF
end
abbrev XK:=b8->Option cn->Hp->Prop
noncomputable abbrev St:=List<|Option V
abbrev VK:=V->Hp->Prop
abbrev TE:=St->Hp->VK->Prop
abbrev TT:=St->Hp->(Bool->Hp->Prop)->Prop
abbrev TA:=St->Hp->(List V->Hp->Prop)->Prop
structure rX where
 nx:St->Hp->Prop
 rt:VK
 bk:St->Hp->Prop:=λ_ _=>False
 ct:St->Hp->Prop:=λ_ _=>False
abbrev TS:=rX->St->Hp->Prop
def EP (X:Cx)(ce:List<|cn×iU)(U:St)(Q:VK)(u:b8)(s':cF):Prop:=∃v H',Ê X ce U H' s'/\Í v u/\Q v H'
def TP (X:Cx)(ce:List<|cn×iU)(U:St)(Q:Bool->Hp->Prop)(b:Bool)(s':cF):Prop:=∃H',Ê X ce U H' s'/\Q b H'
def AP (X:Cx)(ce:List<|cn×iU)(U:St)(Q:List V->Hp->Prop)(us:List b8)(s':cF):Prop:=∃vs H',Ê X ce U H' s'/\dR vs us/\Q vs H'
def SP (X:Cx)(ce:List<|cn×iU)(D:rX)(f:Flow)(s':cF):Prop :=
 match f with
 |.next=>∃σ' H',Ê X ce σ' H' s'/\D.nx σ' H'
 |.brk=>∃σ' H',Ê X ce σ' H' s'/\D.bk σ' H'
 |.cont=>∃σ' H',Ê X ce σ' H' s'/\D.ct σ' H'
 |.ret u=>∃v σ' H',Ê X ce σ' H' s'/\Í v u/\D.rt v H'
def PE (X:Cx)(e:Expr)(t:TE):Prop :=
 ∀(ce:List<|cn×iU) (s:cF) (U:St) (H:Hp) (Q:VK),Ê X ce U H s->t U H Q->cW (c8 X.prog X.w) X.A (fB e X.env) (EP X ce U Q) X.xe s
def PT (X:Cx)(e:Expr)(t:TT):Prop :=
 ∀(ce:List<|cn×iU) (s:cF) (U:St) (H:Hp) (Q:Bool->Hp->Prop),Ê X ce U H s->t U H Q->cW (c8 X.prog X.w) X.A (xX e X.env<|fB e X.env) (TP X ce U Q) X.xe s
def PW (X:Cx)(e:Expr)(t:TT):Prop :=
 ∀(whole:DM b8) (ce:List<|cn×iU) (s:cF) (U:St) (H:Hp) (Q:Bool->Hp->Prop),Ê X ce U H s->t U H Q->cW (c8 X.prog X.w) X.A (xX e X.env whole) (TP X ce U Q) X.xe s
variable {e:Expr}
theorem PW.pt {t:TT}(h:PW X e t):PT X e t:=h _
def PA (X:Cx)(es:List Expr)(t:TA):Prop :=
 ∀(pos:qP) (ce:List<|cn×iU) (s:cF) (U:St) (H:Hp) (Q:List V->Hp->Prop),Ê X ce U H s->t U H Q->cW (c8 X.prog X.w) X.A (spliced<|kh pos<|dE es X.env) (AP X ce U Q) X.xe s
def PS (X:Cx)(st:eA)(t:TS):Prop :=
 ∀(ce:List<|cn×iU) (s:cF) (U:St) (H:Hp) (D:rX),Ê X ce U H s->t D U H->cW (c8 X.prog X.w) X.A (exec st X.env) (SP X ce D) X.xe s
def yP (X:Cx)(st:List eA)(t:TS):Prop :=
 ∀(ce:List<|cn×iU) (s:cF) (U:St) (H:Hp) (D:rX),Ê X ce U H s->t D U H->cW (c8 X.prog X.w) X.A (execs st X.env) (SP X ce D) X.xe s
theorem fU {t:DM α}{Q Q':α->cF->Prop}{A:d4}(h:cW U' A t Q E s)(hQ:∀a s,Q a s->Q' a s):cW U' A t Q' E s:=gF h hQ λ_ _ x=>x
variable {Q:b8->cF->Prop}{c:Expr}{op:Ck}{pos:qP}{ta tb:TE}{U:St}
section
theorem bin {a b:Expr}(ha:PE X a ta)(hb:PE X b tb){R:V->V->Hp->Prop}(I:Ê X ce U H s)(h:ta U H λx H1=>tb U H1 λy H2=>R x y H2)
 {Q:α->cF->Prop} {f:b8->b8->DM α}
    (hf:∀v u s2 x y H2,Ê X ce U H2 s2->Í x v->Í y u->R x y H2->cW (c8 X.prog X.w) X.A (f v u) Q X.xe s2) :
    cW (c8 X.prog X.w) X.A (fB a X.env) (λv s₁=>cW (c8 X.prog X.w) X.A (fB b X.env) (λu s₂=>cW (c8 X.prog X.w) X.A (f v u) Q X.xe s₂) X.xe s₁) X.xe s:=by
  refine fU (ha ce s U H _ I h) λv s1 gx=>?_;obtain⟨x,H1,I1,r1,q1⟩:=gx;refine fU (hb ce s1 U H1 _ I1 q1) λu s2 gx=>?_;obtain⟨y,H2,I2,r2,q2⟩:=gx;exact hf v u s2 x y H2 I2 r1 r2 q2
def Mc (i:Nat):TE:=λU H Q=>∃v,U[i]?=Z (Z v)/\Q v H
def tC (v:V):TE:=λ_ H Q=>Q v H
theorem wc {i:Nat}(hN:X.N[i]?=Z x)(hv:uQ X.env.scope x)(hd:lH x:=by decide)(mR:vR x:=by decide):PE X (.Name x pos) (Mc i):=by
 intro ce s U H Q I h;obtain⟨v,e,h⟩:=h;obtain⟨m,hn,hl⟩:=I.loc;obtain⟨u,r,l⟩:=hl i x v hN e hv;have fin:EP X ce U Q u s:=⟨v,H,I,r,h⟩;rcases l with⟨hk,hm⟩|⟨hk,c,hc,Aa⟩
 ·exact DR (wpAny_loadName_local I.ok.kind hk hn hm fin) hd
 ·rcases hk with hk|hk
  ·exact DR (wpAny_loadName_cell I.ok.kind hk hc Aa fin) hd
  ·exact DR (wpAny_loadName_free I.ok.kind hk hc Aa fin mR) hd
theorem Χ {i j pos}:PE X (.Constant (.int i) j pos) (tC<|.int i):=λ_ _ _ H _ I h=>wpAny_Constant_int ⟨.int i,H,I.tok _,⟨_,rfl⟩,h⟩
theorem ķ {b j pos}:PE X (.Constant (.bool b) j pos) (tC<|.bl b):=λ_ _ _ H _ I h=>Constant_bool ⟨.bl b,H,I,rfl,h⟩
theorem Φ {j pos}:PE X (.Constant .none j pos) (tC .non):=λ_ _ _ H _ I h=>Constant_none ⟨.non,H,I,rfl,h⟩
theorem Υ {x j pos}:PE X (.Constant (.str x) j pos) (tC<|.str x):=λ_ _ _ H _ I h=>Calls.Constant_str ⟨.str x,H,I.tok _,⟨_,rfl⟩,h⟩
def Gl (X:Cx)(x:Str):Prop:=X.env.kindOf x=Z .globalImplicit
theorem vm (I:Ê X ce U H s)(hg:Gl X x)(hm:X.mg x=Z u)(h:Q u s)
  (hd:lH x:=by decide):cW (c8 X.prog X.w) X.A (fB (.Name x pos) X.env) Q E s :=
 Calls.Name_function_global I.ok.kind hg (Calls.loadGlobal_global (by rw[I.ok.glob];exact I.mod.glob.keeps I.bk) hm h) hd
theorem uz (I:Ê X ce U H s)(hg:Gl X x)(hm:X.mg x=C)(hv:d5 x=Z u)(h:Q u s)
  (hn:x≠"__name__":=by decide) (hd:lH x:=by decide):cW (c8 X.prog X.w) X.A (fB (.Name x pos) X.env) Q E s:=by
 obtain⟨mb,h1,h2⟩:=I.mod.blt;exact Calls.Name_function_global I.ok.kind hg (Calls.loadGlobal_builtin (by rw[I.ok.glob];exact I.mod.glob.keeps I.bk) hm (by rw[I.ok.blt];exact h1.keeps I.bk) ((h2 x hn).trans hv) h) hd
theorem MM (hg:Gl X x)(hm:X.mg x=Z u)(r:Í v u)(hd:lH x:=by decide):PE X (.Name x pos) (tC v) :=
 λ_ _ _ H _ I h=>vm I hg hm ⟨v,H,I,r,h⟩ hd
theorem Z3 (hg:Gl X x)(hm:X.mg x=C)(hv:d5 x=Z u)(r:Í v u)(hn:x≠"__name__":=by decide)(hd:lH x:=by decide):PE X (.Name x pos) (tC v) :=
 λ_ _ _ H _ I h=>uz I hg hm hv ⟨v,H,I,r,h⟩ hn hd
variable {a b:Expr}
def PC (X:Cx)(op:Ck)(a b:Expr)(t:TE):Prop :=
 ∀(ce:List<|cn×iU) (s:cF) (U:St) (H:Hp) (Q:VK),Ê X ce U H s->t U H Q ->
  cW (c8 X.prog X.w) X.A (fB a X.env) (λv s₁=>cW (c8 X.prog X.w) X.A (fB b X.env) (λu s₂=>cW (c8 X.prog X.w) X.A (d6 op v u) (EP X ce U Q) X.xe s₂) X.xe s₁) X.xe s
def tB (t:TE):TT:=λU H Q=>t U H λx H1=>∃c,x=.bl c/\Q c H1
theorem JW {t:TE}(h:PC X op a b t)(h1:fH op b=Ã:=by first|exact Hv _ (by decide) (by decide)|rfl):PT X (.Compare a [op] [b] pos) (tB t):=by intro ce s U H Q I hw;refine wpAny_isTrue_Compare1 (fU (h ce s U H _ I hw) λv s1 h1=>fU h1 λu s2 h2=>fU h2 λc s3 hq=>?_) h1;obtain⟨x,H1,I1,r1,q1⟩:=hq;obtain⟨d,rfl,q⟩:=q1;cases r1;exact iH ⟨H1,I1,q⟩
theorem Sj {t:TE}(h:PE X e t)(he:∀whole,xX e X.env whole=(do let v ← whole;k7 e.pos;gC [v] (truthy v)):=by intro _;rfl):PT X e (tB t):=by intro ce s U H Q I hw;refine isTrue_plain (fU (h ce s U H _ I hw) λv s1 hq=>?_)<|he _;obtain⟨x,H1,I1,r1,q1⟩:=hq;obtain⟨d,rfl,q⟩:=q1;cases r1;exact iH ⟨H1,I1,q⟩
variable {tA Jw:TT}{Î:List Expr}
def LQ (t u:TT):TT:=λU H Q=>t U H λc H1=>if c=Â then u U H1 Q else Q Ã H1
def Vv (t u:TT):TT:=λU H Q=>t U H λc H1=>if c=Â then Q Â H1 else u U H1 Q
def L0 (t:TT):TT:=λU H Q=>t U H λc H1=>Q (!c) H1
theorem Z4 (ha:PT X a tA):PW X (.BoolOp .And [a] pos) tA:=by
 intro wh ce s U H Q I h;refine isTrue_and<|fU (ha ce s U H Q I h) λc s1 e=>?_;cases c with
 |true=>exact isTrue_and_nil e
 |false=>exact e
theorem Τ (ha:PT X a tA):PW X (.BoolOp .Or [a] pos) tA:=by
 intro wh ce s U H Q I h;refine isTrue_or<|fU (ha ce s U H Q I h) λc s1 e=>?_;cases c with
 |false=>exact isTrue_or_nil e
 |true=>exact e
theorem Ρ (ha:PT X a tA)(hb:PW X (.BoolOp .And (b::Î) pos) Jw):PW X (.BoolOp .And (a::b::Î) pos) (LQ tA Jw):=by
 intro wh ce s U H Q I h;refine isTrue_and<|fU (ha ce s U H _ I h) λc s1 gx=>?_;obtain⟨H1,I1,q1⟩:=gx;cases c with
 |true=>exact hb wh ce s1 U H1 Q I1 q1
 |false=>exact⟨H1,I1,q1⟩
theorem Ķ (ha:PT X a tA)(hb:PW X (.BoolOp .Or (b::Î) pos) Jw):PW X (.BoolOp .Or (a::b::Î) pos) (Vv tA Jw):=by
 intro wh ce s U H Q I h;refine isTrue_or<|fU (ha ce s U H _ I h) λc s1 gx=>?_;obtain⟨H1,I1,q1⟩:=gx;cases c with
 |true=>exact⟨H1,I1,q1⟩
 |false=>exact hb wh ce s1 U H1 Q I1 q1
theorem R8 (ha:PT X a tA):PT X (.UnaryOp .Not a pos) (L0 tA):=by intro ce s U H Q I h;exact isTrue_not<|ha ce s U H (λc H1=>Q (!c) H1) I h
def HN (ta tb:TE):TE:=λU H Q=>ta U H λx H1=>∃c,x=.bl c/\if c=Â then tb U H1 Q else Q (.bl Ã) H1
def L6 (ta tb:TE):TE:=λU H Q=>ta U H λx H1=>∃c,x=.bl c/\if c=Â then Q (.bl Â) H1 else tb U H1 Q
theorem R9 {op}{t:TE}(h:PE X a t):PE X (.BoolOp op [a] pos) t:=λce s U H Q I hw=>BoolOp_one<|h ce s U H Q I hw
theorem Sa (ha:PE X a ta)(hb:PE X (.BoolOp .And (b::Î) pos) tb):PE X (.BoolOp .And (a::b::Î) pos) (HN ta tb):=by
 intro ce s U H Q I h;refine BoolOp_and<|fU (ha ce s U H _ I h) λv s1 gx=>?_;obtain⟨x,H1,I1,r1,q1⟩:=gx;obtain⟨c,rfl,q1⟩:=q1;cases r1;refine iH ?_;cases c with
 |true=>exact hb ce s1 U H1 Q I1 q1
 |false=>exact⟨.bl Ã,H1,I1,rfl,q1⟩
theorem ĵ (ha:PE X a ta)(hb:PE X (.BoolOp .Or (b::Î) pos) tb):PE X (.BoolOp .Or (a::b::Î) pos) (L6 ta tb):=by
 intro ce s U H Q I h;refine BoolOp_or<|fU (ha ce s U H _ I h) λv s1 gx=>?_;obtain⟨x,H1,I1,r1,q1⟩:=gx;obtain⟨c,rfl,q1⟩:=q1;cases r1;refine iH ?_;cases c with
 |false=>exact hb ce s1 U H1 Q I1 q1
 |true=>exact⟨.bl Â,H1,I1,rfl,q1⟩
def Vt (t:TT)(ta tb:TE):TE:=λU H Q=>t U H λc H1=>if c=Â then ta U H1 Q else tb U H1 Q
theorem YU (hc:PT X c tA)(ha:PE X a ta)(hb:PE X b tb):PE X (.IfExp c a b pos) (Vt tA ta tb):=by
 intro ce s U H Q I h;refine wpAny_IfExp<|fU (hc ce s U H _ I h) λd s1 gx=>?_;obtain⟨H1,I1,q1⟩:=gx;cases d with
 |true=>exact ha ce s1 U H1 Q I1 q1
 |false=>exact hb ce s1 U H1 Q I1 q1
end
def jJ (K:b9)(H:Hp)(a:cn)(xs:List V):Prop :=
 Rd H a (.lst xs) \/
  ∃(o:iU) (dP:Array b8) (n:Nat),K.lookup a=Z o/\o.cls=.type "list"/\o.dict=C/\o.data=.seq dP n/\dP.size<=sizeLine/\dR xs dP.toList
def p9 (K:b9)(H:Hp)(a:cn)(xs:List V):Prop :=
 Rd H a (.tup xs) \/
  ∃(o:iU) (dP:Array b8) (n:Nat),K.lookup a=Z o/\o.cls=.type "tuple"/\o.data=.seq dP n/\dP.size<=sizeLine/\dR xs dP.toList
noncomputable def Kl:b8->Option V
 |.none=>Z .non
 |.bool b=>Z<|.bl b
 |.int i _=>Z<|.int i
 |.str x _=>Z<|.str x
 |.bytes b _=>Z<|.byt b
 |.float b _=>Z<|.flt b
 |.ref a=>Z<|.ref a
 |.type n=>Z<|.ty n
 |_=>C
theorem Í.abs {x:V}(r:Í x u):Kl u=Z x:=by
 cases x with
 |non=>cases r;rfl
 |bl _=>cases r;rfl
 |int _=>obtain⟨t,rfl⟩:=r;rfl
 |str _=>obtain⟨t,rfl⟩:=r;rfl
 |byt _=>obtain⟨t,rfl⟩:=r;rfl
 |flt _=>obtain⟨t,rfl⟩:=r;rfl
 |ref _=>cases r;rfl
 |ty _=>cases r;rfl
variable {y:V}
theorem Í.inj {x:V}(r:Í x u)(q:Í y u):x=y:=Option.some.inj<|r.abs.symm.trans q.abs
theorem dR.inj:∀{xs ys:List V} {us:List b8},dR xs us->dR ys us->xs=ys
 |_,_,_,.nil,.nil=>rfl
 |_,_,_,.cons r t,.cons r' t'=>by rw[r.inj r',dR.inj t t']
variable {ys:List V}
theorem jJ.of {K:b9}(h:H a=Z (.lst xs)):jJ K H a xs:=.inl<|.inl h
theorem p9.of {K:b9}(h:H a=Z (.tup xs)):p9 K H a xs:=.inl<|.inl h
theorem Ê.list (I:Ê X ce U H s)(h:jJ X.K H a xs):∃dP:List b8,dR xs dP/\PlainL s.heap a dP.toArray/\xs.length<=sizeLine:=by
 rcases h with h|⟨o,dP,n,hk,hc,hd,hs,hz,r⟩
 ·obtain⟨z,dP,n,r,e⟩:=h.ok I.hok;exact⟨dP,r,⟨_,n,e,rfl,rfl,rfl⟩,z⟩
 ·refine⟨dP.toList,r,⟨o,n,I.kIn a o hk,hc,hd,by simpa using hs⟩,?_⟩;have e:=r.length;simp only[fQ]at e;lia
theorem Ê.tuple (I:Ê X ce U H s)(h:p9 X.K H a xs):∃dP:List b8,dR xs dP/\IsTup s.heap a dP.toArray/\xs.length<=sizeLine:=by
 rcases h with h|⟨o,dP,n,hk,hc,hs,hz,r⟩
 ·obtain⟨z,dP,r,p⟩:=h.ok I.hok;exact⟨dP,r,p,z⟩
 ·refine⟨dP.toList,r,⟨o,I.kIn a o hk,hc,n,by simpa using hs⟩,?_⟩;have e:=r.length;simp only[fQ]at e;lia
theorem Ê.list_inj (I:Ê X ce U H s)(h:jJ X.K H a xs)(h':jJ X.K H a ys):xs=ys:=by
 obtain⟨dP,r,⟨o,n,e,_,_,d⟩,_⟩:=I.list h;obtain⟨its',r',⟨o',n',e',_,_,d'⟩,_⟩:=I.list h';rw[e]at e';cases e';rw[d]at d';injection d' with d1 _;have:dP=its':=by simpa using congrArg DE d1
 subst this;exact r.inj r'
theorem Ê.tuple_inj (I:Ê X ce U H s)(h:p9 X.K H a xs)(h':p9 X.K H a ys):xs=ys:=by
 obtain⟨dP,r,⟨o,e,_,n,d⟩,_⟩:=I.tuple h;obtain⟨its',r',⟨o',e',_,n',d'⟩,_⟩:=I.tuple h';rw[e]at e';cases e';rw[d]at d';injection d' with d1 _;have:dP=its':=by simpa using congrArg DE d1
 subst this;exact r.inj r'
noncomputable abbrev Cx.wish (X:Cx)(E:b8->cF->Prop):Cx:={ X with xe:=E }
abbrev Cx.nox (X:Cx):Cx:=X.wish λ_ _=>False
theorem Cx.Ok.wish (ok:X.Ok)(E:b8->cF->Prop):(X.wish E).Ok :=
 ⟨ok.mod,ok.kind,ok.glob,ok.blt,ok.above,ok.inj,ok.has,ok.cab,ok.hd,ok.frames,ok.stk,ok.exf,ok.bs,ok.bsz,ok.noex,ok.exfs,ok.funs,ok.frf⟩
theorem Cx.Ok.unwish (ok:(X.wish E).Ok):X.Ok :=
 ⟨ok.mod,ok.kind,ok.glob,ok.blt,ok.above,ok.inj,ok.has,ok.cab,ok.hd,ok.frames,ok.stk,ok.exf,ok.bs,ok.bsz,ok.noex,ok.exfs,ok.funs,ok.frf⟩
theorem Ê.wish (I:Ê X ce U H s)(E:b8->cF->Prop):Ê (X.wish E) ce U H s:=⟨I.ok.wish E,I.os,I.bare,I.base,I.loc,I.cell,I.free,I.freeC,I.pin,I.hok,I.len⟩
theorem Ê.unwish (I:Ê (X.wish E) ce U H s):Ê X ce U H s:=⟨I.ok.unwish,I.os,I.bare,I.base,I.loc,I.cell,I.free,I.freeC,I.pin,I.hok,I.len⟩
theorem SP.unwish {D:rX}{f:Flow}(h:SP (X.wish E) ce D f s'):SP X ce D f s':=by
 cases f with
 |next=>obtain⟨σ',H',I,q⟩:=h;exact⟨σ',H',I.unwish,q⟩
 |brk=>obtain⟨σ',H',I,q⟩:=h;exact⟨σ',H',I.unwish,q⟩
 |cont=>obtain⟨σ',H',I,q⟩:=h;exact⟨σ',H',I.unwish,q⟩
 |ret u=>obtain⟨v,σ',H',I,r,q⟩:=h;exact⟨v,σ',H',I.unwish,r,q⟩
theorem yP.nox {st:List eA}{t:TS}(h:yP X.nox st t):yP X st t:=λce s U H D I hw=>gF (h ce s U H D (I.wish _) hw) (λ_ _ q=>q.unwish) λ_ _ z=>False.elim z
variable {te:TE}
section
variable {st:eA}{Î:List eA}{t u:TS}
def HV:TS:=λD U H=>D.nx U H
def Ma (t u:TS):TS:=λD U H=>t { D with nx:=u D } U H
theorem Q9:yP X [] HV:=λ_ _ U H _ I h=>qQ ⟨U,H,I,h⟩
theorem Mr (h1:PS X st t)(h2:yP X Î u):yP X (st::Î) (Ma t u):=by
 intro ce s U H D I h;refine wpAny_execs_cons<|fU (h1 ce s U H { D with nx:=u D } I h) λf s1 q=>?_;cases f with
 |next=>obtain⟨σ',H',I',q⟩:=q;exact h2 ce s1 σ' H' D I' q
 |ret v=>exact q
 |brk=>exact q
 |cont=>exact q
theorem MN (h1:PS X st t):yP X [st] t:=by
 intro ce s U H D I h;refine wpAny_execs_cons<|fU (h1 ce s U H D I h) λf s1 q=>?_;cases f with
 |next=>exact qQ q
 |ret v=>exact q
 |brk=>exact q
 |cont=>exact q
theorem Ê.quiet (I:Ê X ce U H s):interactive X.env=Ã:=by simp[interactive,I.ok.kind]
def HS (te:TE):TS:=λD U H=>te U H λ_ H1=>D.nx U H1
theorem MO (he:PE X e te)(hs:iF e C pos.line X.env=pure Ã:=by rfl):PS X (.Expr e pos) (HS te):=by intro ce s U H D I h;exact wpAny_Expr_any (fU (he ce s U H _ I h) λv s1 ⟨x,H1,I1,r1,q1⟩=>⟨U,H1,I1,q1⟩) I.quiet hs
def L8 (te:TE):TS:=λD U H=>te U H D.rt
theorem Iq (he:PE X e te):PS X (.Return (Z e) pos) (L8 te):=by intro ce s U H D I h;exact wpAny_Return_some<|fU (he ce s U H _ I h) λv s1 ⟨x,H1,I1,r1,q1⟩=>⟨x,U,H1,I1,r1,q1⟩
def LY (c:TT)(t u:TS):TS:=λD U H=>c U H λb H1=>if b=Â then t D U H1 else u D U H1
theorem NB {a b:List eA}{tc:TT}(hc:PT X c tc)(ha:yP X a t)(hb:yP X b u):PS X (.If c a b pos) (LY tc t u):=by
 intro ce s U H D I h;refine wpAny_If<|fU (hc ce s U H _ I h) λd s1 gx=>?_;obtain⟨H1,I1,q1⟩:=gx;cases d with
 |true=>exact ha ce s1 U H1 D I1 q1
 |false=>exact hb ce s1 U H1 D I1 q1
def Fg:TS:=λ_ _ _=>False
theorem YV:PS X st Fg:=λ_ _ _ _ _ _ h=>h.elim
end
abbrev TG:=V->St->Hp->(St->Hp->Prop)->Prop
abbrev Cr:=List V->St->Hp->(St->Hp->Prop)->Prop
def PG (X:Cx)(target:Expr)(t:TG):Prop :=
 ∀(ce:List<|cn×iU) (s:cF) (U:St) (H:Hp) (v:V) (u:b8) (Q:St->Hp->Prop),Ê X ce U H s->Í v u->t v U H Q ->
  cW (c8 X.prog X.w) X.A (mG target X.env u) (λ_ s'=>∃σ' H',Ê X ce σ' H' s'/\Q σ' H') X.xe s
def Ez (X:Cx)(ts:List Expr)(t:Cr):Prop :=
 ∀(ce:List<|cn×iU) (s:cF) (U:St) (H:Hp) (vs:List V) (us:List b8) (Q:St->Hp->Prop),Ê X ce U H s->dR vs us->t vs U H Q ->
  cW (c8 X.prog X.w) X.A (assignInOrder ((eE ts X.env).map (·.2)) us) (λ_ s'=>∃σ' H',Ê X ce σ' H' s'/\Q σ' H') X.xe s
abbrev Bu:=V->V->V->Hp->(Hp->Prop)->Prop
def EA (X:Cx)(t:Bu):Prop :=
 ∀(ce:List<|cn×iU) (s:cF) (U:St) (H:Hp) (o i v:V) (ov iv u:b8) (Q:Hp->Prop),Ê X ce U H s->Í o ov->Í i iv->Í v u->t o i v H Q ->
  cW (c8 X.prog X.w) X.A (uG ov iv u) (λ_ s'=>∃H',Ê X ce U H' s'/\Q H') X.xe s
abbrev FD:=V->V->Hp->VK->Prop
def FC (X:Cx)(op:m9)(t:FD):Prop :=
 ∀(ce:List<|cn×iU) (s:cF) (U:St) (H:Hp) (x y:V) (v u:b8) (Q:VK),Ê X ce U H s->Í x v->Í y u->t x y H Q ->
  cW (c8 X.prog X.w) X.A (inplaceOp op v u) (EP X ce U Q) X.xe s
variable {es:List Expr}{g:TG}{n:Nat}{o tg:Expr}{pos' mD:qP}
def zZ (i:Nat):TG:=λv U H Q=>Q (U.set i<|Z v) H
theorem Ra {i:Nat}(hN:X.N.Nodup)(hi:X.N[i]?=Z x)(hx:ï X.env.scope x)(hf:wW X x:=by walk_at "v2"):PG X (.Name x pos) (zZ i):=by intro ce s U H v u Q I r h;exact wpAny_assign_Name<|jj I hN hi hx r (λs' I'=>⟨_,H,I',h⟩) hf
def Kx:Cr:=λvs U H Q=>vs=[]/\Q U H
def GD (t:TG)(u:Cr):Cr:=λvs U H Q=>∃v r,vs=v::r/\t v U H λσ' H'=>u r σ' H' Q
theorem Rb:Ez X [] Kx:=by intro ce s U H vs us Q I r h;obtain⟨e,h⟩:=h;subst e;cases r;exact assignInOrder_nil ⟨U,H,I,h⟩
theorem Qz {t:TG}{u:Cr}(h1:PG X e t)(h2:Ez X es u)
  (hs:(eE (e::es) X.env).map (·.2)=mG e X.env::(eE es X.env).map (·.2):=by rfl):Ez X (e::es) (GD t u):=by
 intro ce s U H vs us Q I r h;obtain⟨v,vr,e1,h⟩:=h;subst e1;cases r with
 |cons r rr=>rw[hs];refine assignInOrder_cons<|fU (h1 ce s U H _ _ _ I r h) λ_ s1 gx=>?_;obtain⟨σ1,H1,I1,q1⟩:=gx;exact h2 ce s1 σ1 H1 _ _ Q I1 rr q1
def Kz (K:b9)(n:Nat)(t:Cr):TG:=λv U H Q=>∃a xs,v=.ref a/\p9 K H a xs/\xs.length=n/\t xs U H Q
theorem Sb {k:Nat}{t:Cr}(hc:X.calm=Â)(h:Ez X es t)
  (hn:(eE es X.env).length=n:=by rfl) (n8:(eE es X.env).findIdx? (·.1)=C:=by rfl):PG X (.Tuple es k pos) (Kz X.K n t):=by
 intro ce s U H v u Q I r hw;obtain⟨a,xs,e1,hq,hl,hw⟩:=hw;subst e1;cases r;obtain⟨dP,rv,ht,hz⟩:=I.tuple hq;refine assign_Tuple_tuple (I.ok.hd hc) ht (by simp[hn,←hl,rv.length]) n8 λh' hx=>?_;have I1:Ê X ce U H { s with heap:=h' }:=I.kept (t':=s.toks) λb o e=>hx b o (dG<|cS e) e;exact h ce _ U H xs _ Q I1 (by simpa using rv) hw
def Ky (to ti:TE)(t:Bu):TG:=λv U H Q=>to U H λo H1=>ti U H1 λi H2=>t o i v H2 λH3=>Q U H3
theorem Sd {i:Expr}{to ti:TE}{t:Bu}(ho:PE X o to)(hi:PE X i ti)(hs:EA X t)
  (ha:∀v,mG (.Subscript o i pos) X.env v=(do
   let ov ← gC [v] (fB o X.env)
   let iv ← gC [v,ov] (fB i X.env)
   k7 pos
   gC [v,ov,iv] (uG ov iv v)
   A7 [v,ov,iv] []):=by intro _;rfl):PG X (.Subscript o i pos) (Ky to ti t):=by
 intro ce s U H v u Q I r h;rw[ha];refine cy<|mM<|fU (ho ce s U H _ I h) λov s1 gx=>?_;obtain⟨x,H1,I1,r1,q1⟩:=gx;refine cy<|mM<|fU (hi ce s1 U H1 _ I1 q1) λiv s2 gx=>?_;obtain⟨y,H2,I2,r2,q2⟩:=gx;refine cy<|pF<|cy<|mM<|fU (hs ce s2 U H2 x y v ov iv u _ I2 r1 r2 r q2) λ_ s3 gx=>?_;obtain⟨H3,I3,q3⟩:=gx;exact wpAny_release ⟨U,H3,I3,q3⟩
def Fd (te:TE)(g:TG):TS:=λD U H=>te U H λx H1=>g x U H1 D.nx
theorem M5 (he:PE X e te)(hg:PG X tg g)(hs:mL [tg] e pos.line X.env=pure Ã:=by rfl)(hw:mK [tg] e X.env=pure C:=by rfl)
  (h1:(eE [tg] X.env).map (·.2)=[mG tg X.env]:=by rfl):PS X (.Assign [tg] e pos) (Fd te g):=by
 intro ce s U H D I h;refine wpAny_Assign_stores (fU (he ce s U H _ I h) λv s1 hq=>?_) hs hw;obtain⟨x,H1,I1,r1,q1⟩:=hq;rw[h1];exact fU (hg ce s1 U H1 x v _ I1 r1 q1) λ_ s2 q=>q
theorem Se {i:Nat}(hN:X.N.Nodup)(hi:X.N[i]?=Z x)(hx:ï X.env.scope x)(he:PE X e te)(hs:Gv X e x pos' pos:=by rfl)(hf:wW X x:=by walk_at "v2") :
  PS X (.Assign [.Name x pos'] e pos) (Fd te<|zZ i):=by
 intro ce s U H D I h;refine wpAny_Assign_Name (fU (he ce s U H _ I h) λv s1 hq=>?_) hs;obtain⟨y,H1,I1,r1,q1⟩:=hq;exact jj I1 hN hi hx r1 (λs2 I2=>⟨_,H1,I2,q1⟩) hf
def L7 (i j:Nat)(ta:TA):TS:=λD U H=>ta U H λvs H1=>∃v w,vs=[v,w]/\D.nx ((U.set i<|Z v).set j<|Z w) H1
theorem Ο {i:Nat}{y:Str}{a b:Expr}{ta:TA}{px py pt:qP}{kt k2 qC}(hc:X.calm=Â)(hN:X.N.Nodup)(hi:X.N[i]?=Z x)(hj:X.N[j]?=Z y)(Bg:i≠j)
    (hx:X.env.scope.names.lookup x=Z .local) (hy:X.env.scope.names.lookup y=Z .local) (ha:PA X [a,b] ta)
    (hw:mK [.Tuple [.Name x px,.Name y py] kt pt] (.Tuple [a,b] k2 qC) X.env=pure (Z [x,y]))
    (hs:mL [.Tuple [.Name x px,.Name y py] kt pt] (.Tuple [a,b] k2 qC) pos.line X.env=pure Ã:=by rfl) :
    PS X (.Assign [.Tuple [.Name x px,.Name y py] kt pt] (.Tuple [a,b] k2 qC) pos) (L7 i j ta):=by
  intro ce s U H D I h;rw[exec_Assign_arm];refine cy<|pF ?_;rw[hs];refine cy<|di ?_;rw[if_neg<|by decide];refine cy<|Tuple_<|fU (ha _ ce s U H _ I h) λus s1 gx=>?_;obtain⟨vs,H1,I1,r1,q1⟩:=gx;obtain⟨v,w,e1,q1⟩:=q1;subst e1;obtain⟨u1,u2,rfl,rv,wB⟩:∃u1 u2,us=[u1,u2]/\Í v u1/\Í w u2:=by
    cases r1 with
    |cons p q=>
      cases q with
      |cons p' q'=>cases q';exact⟨_,_,rfl,p,p'⟩
  refine pq ?_ (by show 2<=sizeLine;decide);have I2:Ê X ce U H1 { s1 with heap:=s1.heap.push { cls:=.type "tuple",data:=.seq [u1,u2].toArray } }:=I1.kept (t':=s1.toks) λb o e=>cv _ e;rw[hw];refine cy<|di ?_;show cW (c8 X.prog X.w) X.A (do rule "assign.swapped-stores";let items ← unpackItems (.ref s1.heap.objs.size) 2 C;assignInOrder [λv=>bindName X.env y v,λv=>bindName X.env x v] items.reverse;pure Flow.next) _ _ _;refine cy<|wpAny_rule<|cy<|unpackItems_tuple (items:=#[u1,u2]) (I.ok.hd hc) (IsTup.new s1.heap _) λh' C6=>?_;have I3:=I2.kept (h':=h') (t':=s1.toks) λb o e=>C6 b o (dG<|cS e) e;show cW _ _ (assignInOrder [λv=>bindName X.env y v,λv=>bindName X.env x v] [u2,u1] >>= λ_=>pure Flow.next) _ _ _;refine cy<|assignInOrder_cons<|wpAny_bindName<|jj I3 hN hj (.inl hy) wB (λs2 I4=>?_)<|.inr hy;refine assignInOrder_cons<|wpAny_bindName<|jj I4 hN hi (.inl hx) rv (λs3 I5=>assignInOrder_nil<|di ?_)<|.inr hx;rw[List.set_comm _ _<|Ne.symm Bg]at I5;exact⟨_,H1,I5,q1⟩
def LR (i:Nat)(te:TE)(ti:FD):TS:=λD U H=>∃x,U[i]?=Z (Z x)/\te U H λy H1=>ti x y H1 λz H2=>D.nx (U.set i<|Z z) H2
theorem Ξ {i:Nat}{op:m9}{ti:FD}(hN:X.N.Nodup)(hi:X.N[i]?=Z x)(hx:ï X.env.scope x)(he:PE X e te)(ho:FC X op ti)(hf:wW X x:=by walk_at "v2") :
  PS X (.AugAssign (.Name x pos') op e pos) (LR i te ti):=by
 intro ce s U H D I h;obtain⟨v,e1,h⟩:=h;obtain⟨m,hn,hl⟩:=I.loc;have VC:uQ X.env.scope x:=by rcases hx with k|k;exact .inl k;exact .inr<|.inl k
 obtain⟨u,r,l⟩:=hl i x v hi e1 VC;refine wpAny_AugAssign_Name ?_;have go:cW (c8 X.prog X.w) X.A (fB e X.env) (λw s₂=>cW (c8 X.prog X.w) X.A (inplaceOp op u w) (λr s₃=>cW (c8 X.prog X.w) X.A (storeName X.env x r) (λ_=>SP X ce D .next) X.xe s₃) X.xe s₂) X.xe s:=by refine fU (he ce s U H _ I h) λw s1 gx=>?_;obtain⟨y,H1,I1,r1,q1⟩:=gx;refine fU (ho ce s1 U H1 v y u w _ I1 r r1 q1) λz s2 gx=>?_;obtain⟨zv,H2,I2,r2,q2⟩:=gx;exact jj I2 hN hi hx r2 (λs3 I3=>⟨_,H2,I3,q2⟩) hf
 rcases l with⟨hk,hm⟩|⟨hk,c,hc,Aa⟩
 ·exact wpAny_loadName_local I.ok.kind hk hn hm go
 ·rcases hk with hk|hk
  ·exact wpAny_loadName_cell I.ok.kind hk hc Aa go
  ·rcases hx with k|k
   ·have:X.env.scope.names.lookup x=Z .free:=hk;rw[k]at this;cases this
   ·have:X.env.scope.names.lookup x=Z .free:=hk;rw[k]at this;cases this
def HP (to ti te:TE)(Dv:V->V->Hp->VK->Prop)(Jy:FD)(Dx:Bu):TS:=λD U H=>to U H λo H1=>ti U H1 λi H2=>Dv o i H2 λx H3=>te U H3 λy H4=>Jy x y H4 λz H5=>Dx o i z H5 λH6=>D.nx U H6
def Gr (X:Cx)(t:V->V->Hp->VK->Prop):Prop :=
 ∀(ce:List<|cn×iU) (s:cF) (U:St) (H:Hp) (o i:V) (ov iv:b8) (Q:VK),Ê X ce U H s->Í o ov->Í i iv->t o i H Q ->
  cW (c8 X.prog X.w) X.A (rW ov iv) (EP X ce U Q) X.xe s
theorem Z5 {i:Expr}{to ti:TE}{Dv:V->V->Hp->VK->Prop}{Jy:FD}{Dx:Bu}{op:m9}(ho:PE X o to)(hi:PE X i ti)(hg:Gr X Dv)(he:PE X e te)(hp:FC X op Jy)(hs:EA X Dx)
  (ha:∀ov iv new,augStore i ov iv new=(do gC [new,ov,iv] (uG ov iv new);A7 [new,ov,iv] [];pure .next):=by intros;rfl):PS X (.AugAssign (.Subscript o i mD) op e pos) (HP to ti te Dv Jy Dx):=by
 intro ce s U H D I h;refine wpAny_AugAssign_SubscriptAny (fU (ho ce s U H _ I h) λov s1 hq=>?_) ha;obtain⟨x1,H1,I1,r1,q1⟩:=hq;refine fU (hi ce s1 U H1 _ I1 q1) λiv s2 gx=>?_;obtain⟨x2,H2,I2,r2,q2⟩:=gx;refine fU (hg ce s2 U H2 x1 x2 ov iv _ I2 r1 r2 q2) λold s3 gx=>?_;obtain⟨x3,H3,I3,r3,q3⟩:=gx;refine fU (he ce s3 U H3 _ I3 q3) λv s4 gx=>?_;obtain⟨x4,H4,I4,r4,q4⟩:=gx;refine fU (hp ce s4 U H4 x3 x4 old v _ I4 r3 r4 q4) λnew s5 gx=>?_;obtain⟨x5,H5,I5,r5,q5⟩:=gx;exact fU (hs ce s5 U H5 x1 x2 x5 ov iv new _ I5 r1 r2 r5 q5) λ_ s6 ⟨H6,I6,q6⟩=>⟨U,H6,I6,q6⟩
def Jn (f:Int->Int->Int):FD:=λx y H Q=>∃i j,x=.int i/\y=.int j/\Q (.int<|f i j) H
theorem M6:FC X .Add (Jn λi j=>i+j):=by intro ce s U H x y v u Q I r1 r2 h;obtain⟨i,j,e1,S,q⟩:=h;subst e1;subst S;obtain⟨t,rfl⟩:=r1;obtain⟨t',rfl⟩:=r2;exact iadd_int ⟨.int _,H,I.tok _,⟨_,rfl⟩,q⟩
theorem Ν:FC X .Sub (Jn λi j=>i-j):=by intro ce s U H x y v u Q I r1 r2 h;obtain⟨i,j,e1,S,q⟩:=h;subst e1;subst S;obtain⟨t,rfl⟩:=r1;obtain⟨t',rfl⟩:=r2;exact isub_int ⟨.int _,H,I.tok _,⟨_,rfl⟩,q⟩
variable {body:List eA}
def Fi (c:TT)(tb:TS):TS:=λD U H=>∃W:Nat->St->Hp->Prop,(∃m,W m U H)/\∀m U H,W m U H ->
 c U H λb H1=>if b=Â then∃N:St->Hp->Prop,(∀σ' H',N σ' H'->∃m',m'<m/\W m' σ' H')/\tb { D with nx:=N,ct:=N,bk:=D.nx } U H1 else D.nx U H1
theorem YW {tc:TT}{tb:TS}(hp:oo (c8 X.prog X.w) X.A X.env X.xe)(hc:PT X c tc)(hb:yP X body tb):PS X (.While c body [] pos) (Fi tc tb):=by
 intro ce s U H D I h;obtain⟨W,⟨m0,w0⟩,zJ⟩:=h;refine wpAny_While<|codeAny_whileLoop (λn s'=>∃σ' H',Ê X ce σ' H' s'/\W n σ' H') ?_ m0 ⟨U,H,I,w0⟩;rintro n s1 ⟨σ1,H1,I1,w1⟩;refine jH hp<|fU (hc ce s1 σ1 H1 _ I1<|zJ n σ1 H1 w1) λb s2 gx=>?_;obtain⟨H2,I2,q2⟩:=gx;cases b with
 |true=>
  obtain⟨N,hN,q2⟩:=q2;rw[if_pos rfl];refine jH hp<|fU (hb ce s2 σ1 H2 _ I2 q2) λf s3 q3=>?_;cases f with
  |next=>obtain⟨σ3,H3,I3,n3⟩:=q3;obtain⟨m',hm,w3⟩:=hN σ3 H3 n3;exact⟨m',hm,σ3,H3,I3,w3⟩
  |cont=>obtain⟨σ3,H3,I3,n3⟩:=q3;obtain⟨m',hm,w3⟩:=hN σ3 H3 n3;exact⟨m',hm,σ3,H3,I3,w3⟩
  |brk=>exact q3
  |ret v=>exact q3
 |false=>rw[if_neg cJ];exact qQ ⟨σ1,H2,I2,q2⟩
structure It where
 go:Nat->Hp->Prop
 yld:Nat->Hp->V->Hp->Prop
 stop:Nat->Hp->Prop
def sR (X:Cx)(ce:List<|cn×iU)(H:Hp)(b:cn):Prop :=
 H b=C/\b≠X.env.locals/\b∉X.fs/\(b∈X.ex\/X.s₀.heap.objs.size<=b)/\(∀x c,X.env.cells.lookup x=Z c->c≠b)/\∀p∈X.pn++ce,p.1≠b
theorem Ê.fpOk (I:Ê X ce U H s)(hb:s.heap.objs.size<=b)(hn:H' b=C):sR X ce H' b:=by
 refine⟨hn,pC<|dg I.lt hb,I.nofs hb,.inr<|eD I.sz hb,λx c e z=>?_,λp hp z=>?_⟩
 ·obtain⟨v,q⟩:=I.cell x c e;exact absurd (dg q.lt<|by rw[z];exact hb)<|iC _
 ·exact absurd (dg (cS (I.pin p hp).1)<|by rw[z];exact hb)<|iC _
structure DT (P:eG)(w:dW)(K:b9)(tg:Expr)(J':It)(fp:List cn)(it:cn)(tn:Nat->cO->Prop)(Cs:Cx->Prop):Prop where
 mem:it∈fp
 obj:∀i h,tn i h->∀b∈fp,∃o,h.get? b=Z o/\∀v,o.data≠.cell v
 keep:∀i h h',tn i h->(∀b∈fp,∀o,h.get? b=Z o->h'.get? b=Z o)->tn i h'
 item:∀(X:Cx),X.prog=P->X.w=w->X.K=K->Cs X->∀(i:Nat) (ce:List<|cn×iU) (s:cF) (U:St) (H:Hp) (E:b8->cF->Prop),Ê X ce U H s->(∀b∈fp,sR X ce H b)->tn i s.heap->J'.go i H ->
  cW (c8 P w) X.A (pyNext<|.ref it) (λr s1=>∃u,r=Z u /\
   cW (c8 P w) X.A (nB tg (.ref it) u) (λ_ s2=>∃x H',Ê X ce U H' s2/\Í x u/\J'.yld i H x H'/\tn (i+1) s2.heap/\∀b∈fp,H' b=C) E s1) E s
 done:∀(X:Cx),X.prog=P->X.w=w->X.K=K->Cs X->∀(i:Nat) (ce:List<|cn×iU) (s:cF) (U:St) (H:Hp) (E:b8->cF->Prop),Ê X ce U H s->(∀b∈fp,sR X ce H b)->tn i s.heap->J'.stop i H ->
  cW (c8 P w) X.A (pyNext<|.ref it) (λr s1=>r=C/\Ê X ce U H s1) E s
 self:∀(A:d4) (i:Nat) (s:cF) (Q:b8->cF->Prop) (E:b8->cF->Prop),tn i s.heap->Q (.ref it) s->cW (c8 P w) A (pyIter<|.ref it) Q E s
abbrev ó (P:eG)(w:dW)(K:b9)(tg:Expr)(J':It)(fp:List cn)(it:cn)(tn:Nat->cO->Prop):Prop:=DT P w K tg J' fp it tn λX=>X.calm=Â
abbrev TI:=St->Hp->(It->Hp->Prop)->Prop
def ü (X:Cx)(c:Prop)(tg:Expr)(J':It)(fp:List cn)(it:cn)(tn:Nat->cO->Prop):Prop:=∃Cs,DT X.prog X.w X.K tg J' fp it tn Cs/\(c->∀Y':Cx,Y'.A=X.A->Y'.calm=X.calm->Cs Y')
variable {fp:List cn}
theorem ó.ok {J':It}{it:cn}{tn:Nat->cO->Prop}(T:ó X.prog X.w X.K tg J' fp it tn):ü X (X.calm=Â) tg J' fp it tn:=⟨_,T,λhc _ _ e=>e.trans hc⟩
def Gs (X:Cx)(c:Prop)(ce:List<|cn×iU)(U:St)(tg:Expr)(R:It->Hp->Prop)(Lq:b8)(s2:cF):Prop :=
 ∃(it:cn) (fp:List cn) (tn:Nat->cO->Prop) (J':It) (H':Hp),Lq=.ref it/\Ê X ce U H' s2/\ü X c tg J' fp it tn/\tn 0 s2.heap/\(∀b∈fp,sR X ce H' b)/\R J' H'
abbrev Tr (X:Cx):=Gs X<|X.calm=Â
def Gu (X:Cx)(c:Prop)(tg iter:Expr)(wi:TI):Prop :=
 ∀(ce:List<|cn×iU) (s:cF) (U:St) (H:Hp) (R:It->Hp->Prop),Ê X ce U H s->wi U H R ->
  cW (c8 X.prog X.w) X.A (fB iter X.env) (λv s1=>cW (c8 X.prog X.w) X.A (pyIter v) (Gs X c ce U tg R) X.xe s1) X.xe s
abbrev PI (X:Cx):=Gu X<|X.calm=Â
theorem NC {A:d4}{it:cn}{o:iU}{n:String}{vs:Array b8}{Q:Unit->cF->Prop}(ho:s.heap.get? it=Z o)(hc:o.cls=.type n)(hd:o.data=.fields vs)
    (hn:["enumerate","zip","dict_itemiterator","dict_reverseitemiterator","odict_iterator","itertools.zip_longest","itertools.pairwise"].contains n=Ã) (hQ:Q () s):cW U' A (nB tg (.ref it) u) Q E s:=by
  unfold nB;cases tg<;>first
    |exact di hQ
    |(cases u<;>first
        |exact di hQ
        |(refine cy (wpAny_load ho ?_)
          rw[hc,hd];show cW U' A (if(["enumerate","zip","dict_itemiterator","dict_reverseitemiterator","odict_iterator","itertools.zip_longest","itertools.pairwise"].contains n&&vs[0]?==Z (rawInt _))=Â then _ else _) Q E s;rw[if_neg<|by intro h;rw[hn,CJ]at h;cases h];exact di hQ))
def Kh (K:b9)(a:cn):It :=
 ⟨λi H=>∃xs x,jJ K H a xs/\xs[i]?=Z x,λi H x H'=>H'=H/\∀xs,jJ K H a xs->xs[i]?=Z x,λi H=>∃xs,jJ K H a xs/\xs.length<=i⟩
def IH (lo:Int)(n:Nat):It:=⟨λi _=>i<n,λi H x H'=>H'=H/\x=.int (lo+i),λi _=>n<=i⟩
theorem Xt {w:dW}{K:b9}(a it:cn):ó P w K tg (Kh K a) [it] it (λi h=>h.IsListIter it a i) where
 mem:=by simp
 obj:=λi h st b hb=>by
  have e:b=it:=by simpa using hb
  subst e;obtain⟨o,e,c,d⟩:=st;exact⟨o,e,λv z=>by rw[d]at z;cases z⟩
 keep:=λi h h' st k=>st.at λo e=>k it (by simp) o e
 item:=by intro X hP hw hK hc i ce s U H E I hf st hg;subst hP hw hK;obtain⟨xs,x,hq,hx⟩:=hg;obtain⟨dP,rv,p,hz⟩:=I.list hq;obtain⟨u,hu,ru⟩:=rv.get hx;obtain⟨f0,f1,f2,f3,f4,f5⟩:=hf it (by simp);refine wpAny_pyNext_list_item st p.isList (x:=u) (by simpa using hu) λh' Bj sb=>?_;have I1:Ê X ce U H { s with heap:=h' }:=I.turned (t':=s.toks) (λb o hb e=>(sb.2 b hb).trans e) f0 f1 f3 f4 f5;obtain⟨o,e,c,d⟩:=id Bj;exact⟨u,rfl,NC (s:={ s with heap:=h' }) e c d (by decide) ⟨x,H,I1,ru,⟨rfl,λys hy=>by rw[I.list_inj hy hq];exact hx⟩,Bj,λb hb=>(hf b hb).1⟩⟩
 done:=by intro X hP hw hK hc i ce s U H E I hf st hg;subst hP hw hK;obtain⟨xs,hq,hx⟩:=hg;obtain⟨dP,rv,p,hz⟩:=I.list hq;obtain⟨f0,f1,f2,f3,f4,f5⟩:=hf it (by simp);have hl:=rv.length;exact wpAny_pyNext_list_end (I.ok.hd hc) st p.isList (by simp;lia) λh' eb=>⟨rfl,I.turned (t':=s.toks) (λb o hb e=>eb b o hb e) f0 f1 f3 f4 f5⟩
 self:=λ_ _ _ _ _ st h=>wpAny_pyIter_listiter st h
theorem Xr {w:dW}{K:b9}(it:cn)(lo:Int)(n:Nat):ó P w K tg (IH lo n) [it] it (λi h=>IsRangeIter h it (lo+(i:Nat)*1) ((n:Int)-(i:Nat)) 1) where
 mem:=by simp
 obj:=λi h st b hb=>by
  have e:b=it:=by simpa using hb
  subst e;exact⟨_,st,λv z=>by have z':qW.fields _=qW.cell v:=z;cases z'⟩
 keep:=λi h h' st k=>k it (by simp) _ st
 item:=by intro X hP hw hK hc i ce s U H E I hf st hg;subst hP hw hK;obtain⟨f0,f1,f2,f3,f4,f5⟩:=hf it (by simp);have W:=Walks.range (prog:=X.prog) (w:=X.w) (I.ok.hd hc) it lo 1 n;refine W.item i s _ _ hg st λv h' tk hv Bj kk=>?_;obtain⟨t,rfl⟩:=hv;have I1:Ê X ce U H { s with heap:=h',toks:=tk }:=I.turned (λb o hb e=>kk b o (by simpa using hb) e) f0 f1 f3 f4 f5;refine⟨_,rfl,NC (s:={ s with heap:=h',toks:=tk }) (n:="range_iterator") Bj rfl rfl (by decide) ⟨.int<|lo+i,H,I1,⟨t,?_⟩,⟨rfl,rfl⟩,Bj,λb hb=>(hf b hb).1⟩⟩;rw[tH]
 done:=by intro X hP hw hK hc i ce s U H E I hf st hg;subst hP hw hK;obtain⟨f0,f1,f2,f3,f4,f5⟩:=hf it (by simp);exact wpAny_pyNext_range_end (I.ok.hd hc) st (by have:n<=i:=hg;lia) λh' eb=>⟨rfl,I.turned (t':=s.toks) (λb o hb e=>eb b o hb e) f0 f1 f3 f4 f5⟩
 self:=λ_ _ _ _ _ st h=>wpAny_pyIter_rangeiter st h
variable {iter:Expr}{p:qP}{wi:TI}
def Hf (K:b9)(tl:TE):TI:=λU H R=>tl U H λx H1=>∃a,x=.ref a/\(∃xs,jJ K H1 a xs)/\R (Kh K a) H1
theorem Q6 {l:Expr}{tl:TE}(hl:PE X l tl):PI X tg l (Hf X.K tl):=by
 intro ce s U H R I h;refine fU (hl ce s U H _ I h) λv s1 gx=>?_;obtain⟨x,H1,I1,r1,q1⟩:=gx;obtain⟨a,e,⟨xs,hq⟩,q⟩:=q1;subst e;cases r1;obtain⟨dP,rv,p,hz⟩:=I1.list hq;refine uI p.isList ?_;refine⟨s1.heap.objs.size,[s1.heap.objs.size],_,_,H1,rfl,I1.kept (t':=s1.toks) λb o e=>cv _ e,(Xt a _).ok,⟨_,cV _ rfl,rfl,rfl⟩,λb hb=>?_,q⟩;have e:b=s1.heap.objs.size:=by simpa using hb
 subst e;exact I1.fpOk (cK _)<|I1.hok.fresh<|cK _
theorem YX {R:It->Hp->Prop}{lo hi:Int}{t u v:Tok}{tk:Nat}(I:Ê X ce U H s)(h1:-(2 ^ 62)<=lo)(h2:lo<2 ^ 62)(h3:-(2 ^ 62)<=hi)(h4:hi<2 ^ 62)
    (q:R (IH lo (hi-lo).toNat) H):cW (c8 X.prog X.w) X.A (pyIter<|.ref s.heap.objs.size) (Tr X ce U tg R) E { s with heap:=s.heap.push { cls:=.type "range",data:=.fields #[.int lo t,.int hi u,.int 1 v] },toks:=tk }:=by
  refine wpAny_pyIter_range (IsRange.new ..) (small_one h1 h2 h3 h4) ?_;have I1:Ê X ce U H { s with heap:=s.heap.push { cls:=.type "range",data:=.fields #[.int lo t,.int hi u,.int 1 v] },toks:=tk }:=I.kept λb o e=>cv _ e;refine⟨(s.heap.push { cls:=.type "range",data:=.fields #[.int lo t,.int hi u,.int 1 v] }).objs.size,[(s.heap.push { cls:=.type "range",data:=.fields #[.int lo t,.int hi u,.int 1 v] }).objs.size],_,_,H,rfl,
    I1.kept (t':=tk) λb o e=>cv _ e,(Xr _ lo (hi-lo).toNat).ok,?_,λb hb=>?_,q⟩
  · have e1:lo+((0:Nat):Int)*1=lo:=by simp
    have S:(((hi-lo).toNat:Nat):Int)-((0:Nat):Int)=Builtin.Range.rangeSize lo hi 1:=by rw[rangeSize_one];split<;>lia
    show IsRangeIter _ _ (lo+((0:Nat):Int)*1) ((((hi-lo).toNat:Nat):Int)-((0:Nat):Int)) 1;rw[e1,S];exact cV _ rfl
  · have e:b=(s.heap.push { cls:=.type "range",data:=.fields #[.int lo t,.int hi u,.int 1 v] }).objs.size:=by simpa using hb
    subst e;exact I1.fpOk (cK _)<|I1.hok.fresh<|cK _
def Hg (ta:TA):TI:=λU H R=>ta U H λvs H1=>∃j:Int,vs=[.int j]/\-(2 ^ 62)<=j/\j<2 ^ 62/\R (IH 0 j.toNat) H1
theorem Xu {a:Expr}{ta:TA}(hg:Gl X "range")(hm:X.mg "range"=C)(ha:PA X [a] ta)(hs:SN X a:=by rfl):PI X tg (.Call (.Name "range" p) [a] [] pos) (Hg ta):=by
 intro ce s U H R I h;refine Call_<|uz I hg hm boot_range<|eh (fU (ha pos ce s U H _ I h) λus s1 hq=>?_) hs rfl;obtain⟨vs,H1,I1,r1,q1⟩:=hq;obtain⟨j,e,q1,q2,q⟩:=q1;subst e;cases r1 with
 |cons r rr=>cases rr;obtain⟨t,rfl⟩:=r;exact call_range_1 (YX I1 (by lia) (by lia) q1 q2<|by simpa using q)
def LX (wi:TI)(g:TG)(tb:TS):TS:=λD U H=>wi U H λJ' H1=>∃W:Nat->Nat->St->Hp->Prop,(∃m,W 0 m U H1)/\∀i m U H,W i m U H ->
 (J'.stop i H/\D.nx U H)\/(J'.go i H/\∃N:St->Hp->Prop,(∀σ' H',N σ' H'->∃m',m'<m/\W (i+1) m' σ' H')/\∀x H',J'.yld i H x H'->g x U H' λσ2 H2=>tb { D with nx:=N,ct:=N,bk:=D.nx } σ2 H2)
noncomputable def tZ (fp:List cn)(h:cO):List (cn×iU):=fp.filterMap λb=>(h.get? b).map λo=>(b,o)
theorem um {o:iU}(hb:b∈fp)(e:h.get? b=Z o):(b,o)∈tZ fp h:=As.mpr ⟨b,hb,by rw[e];rfl⟩
theorem Xv {p:cn×iU}(hp:p∈tZ fp h):p.1∈fp/\h.get? p.1=Z p.2:=by
 obtain⟨b,hb,e⟩:=As.mp hp;cases q:h.get? b with
 |none=>rw[q]at e;cases e
 |some o=>rw[q]at e;have e':(b,o)=p:=Option.some.inj e;subst e';exact⟨hb,q⟩
theorem Ê.pinned (I:Ê X ce U H s)(hf:∀b∈fp,sR X ce H b)(ho:∀b∈fp,∃o,s.heap.get? b=Z o/\∀v,o.data≠.cell v):Ê X (ce++tZ fp s.heap) U H s :=
 I.pins_of λp hp=>(cH.mp hp).elim (λz=>I.pin p<|cT _ z) λz=>by obtain⟨hb,e⟩:=Xv z;obtain⟨f0,f1,f2,_⟩:=hf p.1 hb;obtain⟨o,e',d⟩:=ho p.1 hb;rw[e]at e';cases e';exact⟨e,f0,f1,f2,d⟩
theorem Ê.unpinned {pl:List (cn×iU)}(I:Ê X (ce++pl) U H s):Ê X ce U H s:=I.pins_of λp hp=>I.pin p<|cT _<|dF _ hp
theorem Μ {tb:TS}(hp:oo (c8 X.prog X.w) X.A X.env X.xe)(hc:X.calm=Â)(hi:PI X tg iter wi)(hg:PG X tg g)(hb:yP X body tb)
  (hs:Co X iter:=by intro _;rfl):PS X (.For tg iter body [] pos) (LX wi g tb):=by
 intro ce s U H D I h;refine wpAny_For (fU (hi ce s U H _ I h) λv s1 h1=>fU h1 λLq s2 h2=>?_) hs;obtain⟨it,fp,tn,J',H2,e,I2,T,CI,f2,W,⟨m0,w0⟩,zJ⟩:=h2;obtain⟨Cs,T,hT⟩:=T;have hc:=hT hc X rfl rfl;subst e;have zA:∀{H':Hp},(∀b∈fp,H' b=C)->∀b∈fp,sR X ce H' b:=λhn b hb=>⟨hn b hb,(f2 b hb).2⟩;refine codeAny_forLoop_any (λn s'=>∃i σ' H',Ê X ce σ' H' s'/\tn i s'.heap/\(∀b∈fp,H' b=C)/\W i n σ' H') ?_ m0 ⟨0,U,H2,I2,CI,λb hb=>(f2 b hb).1,w0⟩;rintro n s3 ⟨i,σ3,H3,I3,ON,IQ,w3⟩;rcases zJ i n σ3 H3 w3 with⟨stop,qn⟩|⟨go,N,hN,step⟩
 ·refine jH hp<|fU (T.done X rfl rfl rfl hc i ce s3 σ3 H3 X.xe I3 (zA IQ) ON stop) λr s4 gx=>?_;obtain⟨hr,I4⟩:=gx;subst hr;exact qQ ⟨σ3,H3,I4,qn⟩
 ·refine jH hp<|fU (T.item X rfl rfl rfl hc i ce s3 σ3 H3 X.xe I3 (zA IQ) ON go) λr s4 gx=>?_;obtain⟨u,hr,h4⟩:=gx;subst hr;refine jH hp<|fU h4 λ_ s5 gx=>?_;obtain⟨x,H5,I5,r5,y5,FY,IR⟩:=gx;have Tn:=I5.pinned (zA IR)<|T.obj _ _ FY;refine jH hp<|fU (hg _ s5 σ3 H5 x u _ Tn r5<|step x H5 y5) λ_ s6 gx=>?_;obtain⟨σ6,H6,I6,q6⟩:=gx;refine jH hp<|fU (hb _ s6 σ6 H6 _ I6 q6) λf s7 q7=>?_;have again:∀{σ7:St} {H7:Hp},Ê X (ce++tZ fp s5.heap) σ7 H7 s7->N σ7 H7->∃m,m<n/\∃i σ' H',Ê X ce σ' H' s7/\tn i s7.heap/\(∀b∈fp,H' b=C)/\W i m σ' H':=λ{σ7 H7} I7 n7=>by obtain⟨m',hm,w7⟩:=hN σ7 H7 n7;refine⟨m',hm,i+1,σ7,H7,I7.unpinned,T.keep _ _ _ FY λb hb o e=>(I7.pin (b,o)<|cT _<|cT _<|um hb e).1,λb hb=>?_,w7⟩;obtain⟨o,e,d⟩:=T.obj _ _ FY b hb;exact(I7.pin (b,o)<|cT _<|cT _<|um hb e).2.1
  cases f with
  |next=>obtain⟨σ7,H7,I7,n7⟩:=q7;exact again I7 n7
  |cont=>obtain⟨σ7,H7,I7,n7⟩:=q7;exact again I7 n7
  |brk=>obtain⟨σ7,H7,I7,q7⟩:=q7;exact⟨σ7,H7,I7.unpinned,q7⟩
  |ret v=>obtain⟨x7,σ7,H7,I7,r7,q7⟩:=q7;exact⟨x7,σ7,H7,I7.unpinned,r7,q7⟩
abbrev R2:=V->V->Hp->VK->Prop
def k9 (X:Cx)(f:b8->b8->DM b8)(r:R2):Prop :=
 ∀(ce:List<|cn×iU) (s:cF) (U:St) (H:Hp) (x y:V) (v u:b8) (Q:VK),Ê X ce U H s->Í x v->Í y u->r x y H Q ->
  cW (c8 X.prog X.w) X.A (f v u) (EP X ce U Q) X.xe s
def II (X:Cx)(f:b8->DM b8)(r:V->Hp->VK->Prop):Prop :=
 ∀(ce:List<|cn×iU) (s:cF) (U:St) (H:Hp) (x:V) (v:b8) (Q:VK),Ê X ce U H s->Í x v->r x H Q ->
  cW (c8 X.prog X.w) X.A (f v) (EP X ce U Q) X.xe s
def iL (X:Cx)(f:b8)(r:List V->Hp->VK->Prop):Prop :=
 ∀(ce:List<|cn×iU) (s:cF) (U:St) (H:Hp) (xs:List V) (us:List b8) (Q:VK),Ê X ce U H s->dR xs us->r xs H Q ->
  cW (c8 X.prog X.w) X.A (call f us) (EP X ce U Q) X.xe s
def Jx (r:R2)(ta tb:TE):TE:=λU H Q=>ta U H λx H1=>tb U H1 λy H2=>r x y H2 Q
def Vx (r:V->Hp->VK->Prop)(ta:TE):TE:=λU H Q=>ta U H λx H1=>r x H1 Q
def rI (V':Int->Int->Prop)(g:Int->Int->V):R2:=λx y H Q=>∃i j,x=.int i/\y=.int j/\V' i j/\Q (g i j) H
def yD (g:Int->Int->V):R2:=λx y H Q=>∃i j,x=.int i/\y=.int j/\Q (g i j) H
def rU (g:Int->V):V->Hp->VK->Prop:=λx H Q=>∃i,x=.int i/\Q (g i) H
variable {r:R2}
section
variable {a b:Expr}{tc:TE}
theorem EE (ha:PE X a ta)(hb:PE X b tb){R:V->V->Hp->Prop}(I:Ê X ce U H s)
  (h:ta U H λx H1=>tb U H1 λy H2=>R x y H2) {f:b8->b8->DM b8}
  (hf:∀v u s2 x y H2,Ê X ce U H2 s2->Í x v->Í y u->R x y H2->cW (c8 X.prog X.w) X.A (f v u) Q X.xe s2) :
  cW (c8 X.prog X.w) X.A (fB a X.env) (λv s₁=>cW (c8 X.prog X.w) X.A (fB b X.env) (λu s₂=>cW (c8 X.prog X.w) X.A (f v u) Q X.xe s₂) X.xe s₁) X.xe s:=by
 refine fU (ha ce s U H _ I h) λv s1 gx=>?_;obtain⟨x,H1,I1,r1,q1⟩:=gx;refine fU (hb ce s1 U H1 _ I1 q1) λu s2 gx=>?_;obtain⟨y,H2,I2,r2,q2⟩:=gx;exact hf v u s2 x y H2 I2 r1 r2 q2
theorem ND {op:m9}(ho:k9 X (ik op) r)(ha:PE X a ta)(hb:PE X b tb):PE X (.BinOp a op b pos) (Jx r ta tb):=by intro ce s U H Q I h;exact wpAny_BinOp<|EE ha hb I h λv u s2 x y H2 I2 rx ry q=>ho ce s2 U H2 x y v u Q I2 rx ry q
theorem Ĵ {op:UnaryOp}{r:V->Hp->VK->Prop}(ho:II X (unaryOp op) r)(ha:PE X a ta):PE X (.UnaryOp op a pos) (Vx r ta):=by intro ce s U H Q I h;exact UnaryOp_<|fU (ha ce s U H _ I h) λv s1 ⟨x,H1,I1,r1,q1⟩=>ho ce s1 U H1 x v Q I1 r1 q1
theorem FX {f:b8->b8->DM b8}{V':Int->Int->Prop}{g:Int->Int->Int}
  (rule:∀(i j:Int) (t u:Tok) (s:cF) (Q:b8->cF->Prop) (E:b8->cF->Prop),V' i j->Q (.int (g i j) s.toks) { s with toks:=s.toks+1 }->cW (c8 X.prog X.w) X.A (f (.int i t)<|.int j u) Q E s) :
  k9 X f (rI V' λi j=>.int<|g i j):=by
 intro ce s U H x y v u Q I rx ry h;obtain⟨i,j,rfl,rfl,hc,q⟩:=h;obtain⟨t,rfl⟩:=rx;obtain⟨t',rfl⟩:=ry;exact rule i j t t' s _ _ hc ⟨.int<|g i j,H,I.tok _,⟨_,rfl⟩,q⟩
theorem Hy {f:b8->b8->DM b8}{g:Int->Int->Int}
  (rule:∀(i j:Int) (t u:Tok) (s:cF) (Q:b8->cF->Prop) (E:b8->cF->Prop),Q (.int (g i j) s.toks) { s with toks:=s.toks+1 }->cW (c8 X.prog X.w) X.A (f (.int i t)<|.int j u) Q E s) :
  k9 X f (yD λi j=>.int<|g i j):=by
 intro ce s U H x y v u Q I rx ry h;obtain⟨i,j,rfl,rfl,q⟩:=h;obtain⟨t,rfl⟩:=rx;obtain⟨t',rfl⟩:=ry;exact rule i j t t' s _ _ ⟨.int<|g i j,H,I.tok _,⟨_,rfl⟩,q⟩
theorem Df {f:b8->b8->DM b8}{g:Int->Int->Bool}
  (rule:∀(i j:Int) (t u:Tok) (s:cF) (Q:b8->cF->Prop) (E:b8->cF->Prop),Q (.bool<|g i j) s->cW (c8 X.prog X.w) X.A (f (.int i t)<|.int j u) Q E s) :
  k9 X f (yD λi j=>.bl<|g i j):=by
 intro ce s U H x y v u Q I rx ry h;obtain⟨i,j,rfl,rfl,q⟩:=h;obtain⟨t,rfl⟩:=rx;obtain⟨t',rfl⟩:=ry;exact rule i j t t' s _ _ ⟨.bl<|g i j,H,I,rfl,q⟩
def CO (i j:Int):Prop:=0<=j/\j<=1000000/\i.natAbs<2 ^ 64
def Ex (i j:Int):Prop:=(-(2 ^ 64)<i/\i<2 ^ 64)\/(-(2 ^ 64)<j/\j<2 ^ 64)
theorem Ex.ok {i j:Int}(h:Ex i j):IntMulOk i j:=by
 rcases h with⟨h1,h2⟩|⟨h1,h2⟩
 ·exact .of_left<|intBits_le_64 h1 h2
 ·exact .of_right<|intBits_le_64 h1 h2
theorem Xj (k:Nat):(0:Int)<=2 ^ k:=by rw[two_pow_cast];exact Int.natCast_nonneg _
theorem Λ:k9 X (ik .Add) (yD λi j=>.int<|i+j):=Hy λ_ _ _ _ _ _ _ q=>add_int q
theorem Κ:k9 X (ik .Sub) (yD λi j=>.int<|i-j):=Hy λ_ _ _ _ _ _ _ q=>sub_int q
theorem Z6:k9 X (ik .Mod) (rI (λ_ j=>j≠0) λi j=>.int<|i.fmod j):=FX λ_ _ _ _ _ _ _ hc q=>mod_int' hc q
theorem Ι:k9 X (ik .Pow) (rI CO λi j=>.int<|i ^ j.toNat):=FX λ_ _ _ _ _ _ _ hc q=>pow_int_small hc.1 hc.2.1 hc.2.2 q
theorem Θ:k9 X (ik .LShift) (rI CO λi j=>.int<|i*2 ^ j.toNat):=FX λ_ _ _ _ _ _ _ hc q=>lshift_int_small hc.1 hc.2.1 hc.2.2 q
theorem Sf:k9 X (ik .RShift) (rI (λ_ j=>0<=j) λi j=>.int<|i/2 ^ j.toNat):=FX λi j _ _ _ _ _ hc q=>rshift_int hc (by rw[ny i<|Xj _];exact q)
theorem Vz {f:b8->DM b8}{g:Int->Int}
  (rule:∀(i:Int) (t:Tok) (s:cF) (Q:b8->cF->Prop) (E:b8->cF->Prop),Q (.int (g i) s.toks) { s with toks:=s.toks+1 }->cW (c8 X.prog X.w) X.A (f<|.int i t) Q E s) :
  II X f (rU λi=>.int<|g i):=by
 intro ce s U H x v Q I rx h;obtain⟨i,rfl,q⟩:=h;obtain⟨t,rfl⟩:=rx;exact rule i t s _ _ ⟨.int<|g i,H,I.tok _,⟨_,rfl⟩,q⟩
theorem Η:II X (unaryOp .USub) (rU λi=>.int<|-i):=Vz λ_ _ _ _ _ q=>neg_int q
end
section
variable {a b:Expr}{tc:TE}
theorem JX {Q:VK}{k k':Bool}(I:Ê X ce U H s)(q:Q (.bl k) H)(e:k=k'):EP X ce U Q (.bool k') s:=by subst e;exact⟨.bl k,H,I,rfl,q⟩
theorem NF:k9 X (d6 .Lt) (yD λi j=>.bl<|decide<|i<j):=Df λ_ _ _ _ _ _ _ q=>lt_int q
theorem ĳ:k9 X (d6 .LtE) (yD λi j=>.bl<|decide<|i<=j):=Df λ_ _ _ _ _ _ _ q=>le_int q
theorem Ĳ:k9 X (d6 .Gt) (yD λi j=>.bl<|decide<|j<i):=Df λ_ _ _ _ _ _ _ q=>gt_int q
theorem ı:k9 X (d6 .GtE) (yD λi j=>.bl<|decide<|j<=i):=Df λ_ _ _ _ _ _ _ q=>ge_int q
theorem Ζ:k9 X (d6 .Is) (λx y H Q=>y=.non/\Q (.bl<|decide<|x=.non) H):=by
 intro ce s U H x y v u Q I rx ry h;obtain⟨rfl,q⟩:=h;cases ry;refine is_none_gen<|JX I q ?_;cases x<;>first
  |(cases rx;rfl)
  |(obtain⟨t,rfl⟩:=rx;rfl)
theorem zrb:k9 X (d6 .IsNot) (λx y H Q=>y=.non/\Q (.bl<|!decide (x=.non)) H):=by
 intro ce s U H x y v u Q I rx ry h;obtain⟨rfl,q⟩:=h;cases ry;refine isnot_none_gen<|JX I q ?_;cases x<;>first
  |(cases rx;rfl)
  |(obtain⟨t,rfl⟩:=rx;rfl)
theorem kW (b:Expr)(h:op≠.In:=by decide)(h2:op≠.NotIn:=by decide):fH op b=Ã:=by
 have e1:(op==Ck.In)=Ã:=by cases op<;>first|rfl|exact absurd rfl h
 have S:(op==Ck.NotIn)=Ã:=by cases op<;>first|rfl|exact absurd rfl h2
 cases b<;>simp[fH,e1,S]
theorem Q7 (ho:k9 X (d6 op) r)(ha:PE X a ta)(hb:PE X b tb)(hm:fH op b=Ã):PE X (.Compare a [op] [b] pos) (Jx r ta tb):=by intro ce s U H Q I h;exact wpAny_Compare1 (EE ha hb I h λv u s2 x y H2 I2 rx ry q=>ho ce s2 U H2 x y v u Q I2 rx ry q) hm
def HY (t:TE):TT:=λU H Q=>t U H λx H'=>∃k,x=.bl k/\Q k H'
theorem Q8 (ho:k9 X (d6 op) r)(ha:PE X a ta)(hb:PE X b tb)(hm:fH op b=Ã):PT X (.Compare a [op] [b] pos) (HY<|Jx r ta tb):=by intro ce s U H Q I h;refine wpAny_isTrue_Compare1 (fU (ha ce s U H _ I h) λv s1 ⟨x,H1,I1,r1,q1⟩=>fU (hb ce s1 U H1 _ I1 q1) λu s2 ⟨y,H2,I2,r2,q2⟩=>fU (ho ce s2 U H2 x y v u _ I2 r1 r2 q2) λc s3 hq=>?_) hm;obtain⟨z,H3,I3,r3,k,e,q3⟩:=hq;subst e;cases r3;exact iH ⟨H3,I3,q3⟩
def B7 (r r':R2)(ta tb tc:TE):TE:=λU H Q=>ta U H λx H1=>tb U H1 λy H2=>r x y H2 λz H3=>∃k,z=.bl k /\
 (if k=Â then tc U H3 λw' H4=>r' y w' H4 Q else Q (.bl Ã) H3)
theorem YY {E6:Ck}{r':R2}(ho:k9 X (d6 op) r)(BD:k9 X (d6 E6) r')(ha:PE X a ta)(hb:PE X b tb)(hc:PE X c tc)
  (hm:lastMarks [op,E6] [b,c]=Ã:=by with_unfolding_all rfl):PE X (.Compare a [op,E6] [b,c] pos) (B7 r r' ta tb tc):=by
 intro ce s U H Q I h;refine Compare_chain (fU (ha ce s U H _ I h) λv s1 ⟨x,H1,I1,r1,q1⟩=>chain_link<|fU (hb ce s1 U H1 _ I1 q1) λu s2 ⟨y,H2,I2,r2,q2⟩=>fU (ho ce s2 U H2 x y v u _ I2 r1 r2 q2) λd s3 hq=>?_) hm;obtain⟨z,H3,I3,r3,k,e,q3⟩:=hq;subst e;cases r3;refine iH ?_;cases k with
 |false=>exact ite_ff ⟨.bl Ã,H3,I3,rfl,q3⟩
 |true=>exact ite_tt<|chain_last<|fU (hc ce s3 U H3 _ I3 q3) λw' s4 ⟨z',H4,I4,r4,q4⟩=>BD ce s4 U H4 y z' u w' Q I4 r2 r4 q4
theorem qU:(sizeLine:Nat)<2 ^ 63:=by rw[eJ];decide
theorem Xk:k9 X (ik .Add) (λx y H Q=>∃i j,x=.str i/\y=.str j/\i.length+j.length<=sizeLine/\Q (.str<|i++j) H):=by intro ce s U H x y v u Q I rx ry h;obtain⟨i,j,rfl,rfl,hz,q⟩:=h;obtain⟨t,rfl⟩:=rx;obtain⟨t',rfl⟩:=ry;exact add_str (λt' tk=>⟨.str<|i++j,H,I.tok _,⟨_,rfl⟩,q⟩) hz
theorem sN {x:V}(r:dR [x] us):∃u,us=[u]/\Í x u:=by
 cases r with
 |cons r1 r2=>cases r2;exact⟨_,rfl,r1⟩
theorem ô {x:V}(r:dR [x,y] us):∃u w',us=[u,w']/\Í x u/\Í y w':=by
 cases r with
 |cons r1 r2=>
  cases r2 with
  |cons r3 r4=>cases r4;exact⟨_,_,rfl,r1,r3⟩
theorem QA:iL X (.builtin "abs") (λxs H Q=>∃i,xs=[.int i]/\Q (.int<|if i<0 then -i else i) H):=by intro ce s U H xs us Q I r h;obtain⟨i,rfl,q⟩:=h;obtain⟨u,rfl,t,rfl⟩:=sN r;exact call_abs_int λu tk=>⟨.int<|if i<0 then -i else i,H,I.tok _,⟨_,rfl⟩,q⟩
theorem Xw (hc:X.calm=Â):iL X (.builtin "max") (λxs H Q=>∃i j,xs=[.int i,.int j]/\Q (.int<|if j > i then j else i) H):=by
 intro ce s U H xs us Q I r h;obtain⟨i,j,rfl,q⟩:=h;obtain⟨u,w',rfl,⟨t,rfl⟩,⟨t',rfl⟩⟩:=ô r;refine max_two_ints (I.ok.hd hc) λh' tk k=>⟨_,H,I.kept k,?_,q⟩;by_cases hj:j > i
 ·rw[if_pos hj,if_pos hj];exact⟨_,rfl⟩
 ·rw[if_neg hj,if_neg hj];exact⟨_,rfl⟩
theorem yg:iL X (.type "str") (λxs H Q=>∃i,xs=[.int i]/\i.natAbs.log2<1920/\Q (.str<|toString i) H):=by intro ce s U H xs us Q I r h;obtain⟨i,rfl,hz,q⟩:=h;obtain⟨u,rfl,t,rfl⟩:=sN r;exact PySem.P.str_of_int hz ⟨.str _,H,I.tok _,⟨_,rfl⟩,q⟩
end
structure yO (h:cO)(x dx V':cn)(mA:Str->Option b8):Prop where
 obj:h.get? x=Z (gS V' dx)
 ns:h.Ns1 dx mA
 ne:dx≠x
variable {dx:cn}{mA:Str->Option b8}
theorem Xx (n:h.Ns1 dx mA):∃od,h.get? dx=Z od/\∀name,pG name od=Z (mA name):=by
 obtain⟨o,es,ep,ho,hd,hk,_,hm⟩:=n;refine⟨o,ho,λname=>?_⟩;have e:=hm name;unfold nsFind findBy at e;rw[←zL]at e;unfold pG;rw[hd];dsimp only;split
 ·rename_i y q;rw[q]at e;exact congrArg Z e
 ·rename_i q;rw[q]at e;have a:es.toList.any (·.refKey)=Ã:=by rw[AT];intro y hy;obtain⟨z,t,K8⟩:=hk y<|Array.mem_toList_iff.mp hy;simp[DictEntry.refKey,K8]
  have a':¬es.toList.any (·.refKey)=Â:=by rw[a];exact cJ
  rw[if_neg a'];exact congrArg Z e
variable {V':cn}
theorem yO.look {x:cn}(I:yO h x dx V' mA):∃od,PySem.W.InstAt h x (gS V' dx) V' (Z od)/\∀name,pG name od=Z (mA name) :=
 let⟨od,ho,hl⟩:=Xx I.ns
 ⟨od,⟨I.obj,rfl,rfl,ho⟩,hl⟩
variable {R:Result->cF->Prop}{f:cn}{kw:List (Str×b8)}{name:Str}{pl:DM Bool}
section
variable {prog:eG}{w:dW}{A:d4}{K:b9}{x:cn}{v:b8}
theorem zrc {expr:Bool}(X:K.In s.heap)(I:yO s.heap x dx V' mA)(hg:n6 K V' name=Â)(hh:qX K V'=Â)
  (ha:fL K (.ref V') name=Z C) (hv:mA name=Z v) (FR:zU v=Â) (h:Q v { s with toks:=s.toks+1 }) :
  cW (c8 prog w) A (getAttr (.ref x) name expr) Q E s:=by
 obtain⟨od,J',hl⟩:=I.look;exact PySem.W.get_value X J' (pS hg).1 (PySem.W.findObj_own hh ha rfl<|by rw[hl,hv]) FR h
theorem YZ {Q:b8×List b8->cF->Prop}(X:K.In s.heap)(I:yO s.heap x dx V' mA)(hg:n6 K V' name=Â)
  (hf:fL K (.ref V') name=Z (Z<|.ref f)) (ht:vB K (.ref f)=Â) (hv:mA name=C) (h:Q (.ref f,[.ref x]) s) :
  cW (c8 prog w) A (lA (.ref x) name pl) Q E s:=by
 obtain⟨od,J',hl⟩:=I.look;exact PySem.W.method_fn X J' (pS hg).1 (pS hg).2 hf (beq_iff_eq.mp ht) (by show(pG name od).map (·.isSome)=Z Ã;rw[hl,hv];rfl) h
theorem zrd {ns:List Str}{Q:Unit->cF->Prop}(X:K.In s.heap)(I:yO s.heap x dx V' mA)
  (hs:fL K (.ref V') "__setattr__"=Z (Z<|.builtin "object.__setattr__")) (hp:yJ K V'=Â) (ht:sE K V' name=Z C) (hh:qX K V'=Â)
  (hw:PySem.Within mA ns) (hsz:ns.length<=sizeLine)
  (h:∀h',yO h' x dx V' (λy=>if y=name then Z v else mA y)->f7 dx s.heap h'->Q () { s with heap:=h',toks:=s.toks+2 }) :
  cW (c8 prog w) A (setAttr (.ref x) name v) Q E s:=by
 obtain⟨od,J',hl⟩:=I.look;refine PySem.W.set_plain X J' hs<|PySem.W.osa_open (s:={ s with toks:=s.toks+1 }) (r:=none) X J' hp ht λb=>?_;obtain⟨cd,hc,GR⟩:=PySem.W.any_some hh;have hx:s.heap.get? x=Z ⟨.ref V',Z dx,.plain,#[]⟩:=I.obj;refine cy<|di<|cy<|cy<|wpAny_loadPart hx<|cy<|PySem.W.Looks.here (s:={ s with toks:=s.toks+1 }) (PySem.W.looks_clsIn X hc) ?_;rw[GR];refine di (a:=some dx)<|cy<|di<|cy ?_;refine wpAny_nsSet1 (s:={ s with toks:=s.toks+1 }) I.ns λh' CC tG=>?_;obtain⟨oD,esD,epD,UM,Uy,Ux⟩:=CC.count<|PySem.Within.cons name v hw;refine cy (wpAny_lookBehind UM (by rw[Uy];exact pastItsLine_dict (eD Ux<|by rw[cz];lia)) ?_);exact di<|h _ ⟨(tG.2 _<|Ne.symm I.ne).trans I.obj,CC,I.ne⟩ tG
theorem Y0 {vs:List b8}(X:K.In s.heap)(hm:sC K V'=Â)
  (hi:fL K (.ref V') "__init__"=Z (Z<|.ref f)) (hf:A9 K (.ref f)=Z (.type "function"))
  (h:n4 (c8 prog w) (A.under<|.builtin "type.__call__" ⟨.ref V'::vs,kw⟩) (.call (.ref f) ⟨.ref (s.heap.objs.size+1)::vs,kw⟩) (PySem.W.InitBack (s.heap.objs.size+1) R)
   { s with heap:=(s.heap.push fK).push (gS V' s.heap.objs.size) }) :
  n4 (c8 prog w) A (.call (.ref V') ⟨vs,kw⟩) R s:=by
 obtain⟨hh,g,d,t,os⟩:=s;exact PySem.W.make_core (PySem.W.makes_of X hm) (PySem.W.looks_findIn X hi) (λself=>PySem.W.bind_fn X self hf) (.inl rfl) h
end
noncomputable def nR (f:Str)(v:V):List (Str×V)->List (Str×V)
 |[]=>[(f,v)]
 |(g,x)::r=>if g=f then(g,v)::r else(g,x)::nR f v r
theorem O5 (f g:Str)(v:V):∀fs:List (Str×V),(nR f v fs).lookup g=if g=f then Z v else fs.lookup g
 |[]=>by
  show lX g [(f,v)]=_;by_cases h:g=f
  ·have hb:(g==f)=Â:=beq_iff_eq.mpr h;simp only[lX,hb,if_pos h]
  ·have hb:(g==f)=Ã:=beq_eq_false_iff_ne.mpr h;simp only[lX,hb,if_neg h]
 |(k,x)::r=>by
  have ih:=O5 f g v r;rw[show nR f v ((k,x)::r)=(if k=f then(k,v)::r else(k,x)::nR f v r)from rfl];by_cases hk:k=f
  ·rw[if_pos hk];by_cases h:g=k
   ·have hb:(g==k)=Â:=beq_iff_eq.mpr h;simp only[lX,hb,if_pos<|h.trans hk]
   ·have hb:(g==k)=Ã:=beq_eq_false_iff_ne.mpr h;simp only[lX,hb,if_neg<|λe:g=f=>h<|e.trans hk.symm]
  ·rw[if_neg hk];by_cases h:g=k
   ·have hb:(g==k)=Â:=beq_iff_eq.mpr h;simp only[lX,hb,if_neg<|λe:g=f=>hk<|h.symm.trans e]
   ·have hb:(g==k)=Ã:=beq_eq_false_iff_ne.mpr h;simp only[lX,hb];exact ih
theorem Mm (f:Str)(v:V):∀fs:List (Str×V),f∈(nR f v fs).map (·.1)/\∀g,g∈fs.map (·.1)->g∈(nR f v fs).map (·.1)
 |[]=>⟨by simp[nR],λg h=>by simp at h⟩
 |(k,x)::r=>by
  obtain⟨i1,i2⟩:=Mm f v r;rw[show nR f v ((k,x)::r)=(if k=f then(k,v)::r else(k,x)::nR f v r)from rfl];by_cases hk:k=f
  ·rw[if_pos hk];subst hk;exact⟨by simp,λg h=>by simpa using h⟩
  ·rw[if_neg hk];refine⟨?_,λg h=>?_⟩
   ·rw[cI];exact cj _ i1
   ·rw[cI]at h ⊢;rcases cu.mp h with e|e
    ·exact cu.mpr<|.inl e
    ·exact cj _<|i2 g e
theorem O6 (f:Str)(v:V):∀fs:List (Str×V),(nR f v fs).length<=fs.length+1
 |[]=>by simp[nR]
 |(k,x)::r=>by
  have ih:=O6 f v r;rw[show nR f v ((k,x)::r)=(if k=f then(k,v)::r else(k,x)::nR f v r)from rfl];by_cases hk:k=f
  ·rw[if_pos hk,cz,cz];lia
  ·rw[if_neg hk,cz,cz];lia
theorem p7.some_of {o:Option b8}(r:p7 (Z v) o):∃u,o=Z u/\Í v u:=by
 cases o with
 |none=>exact(show False from r).elim
 |some u=>exact⟨u,rfl,r⟩
theorem p7.none_of {o:Option b8}(r:p7 C o):o=C:=by
 cases o with
 |none=>rfl
 |some u=>exact(show False from r).elim
theorem X9 (r:Í v u):zU u=Â:=by
 cases v with
 |non=>cases(show u=b8.none from r);rfl
 |bl b=>cases(show u=b8.bool b from r);rfl
 |int i=>obtain⟨t,e⟩:=(show∃t,u=b8.int i t from r);cases e;rfl
 |str x=>obtain⟨t,e⟩:=(show∃t,u=b8.str x t from r);cases e;rfl
 |byt b=>obtain⟨t,e⟩:=(show∃t,u=b8.bytes b t from r);cases e;rfl
 |flt b=>obtain⟨t,e⟩:=(show∃t,u=b8.float b t from r);cases e;rfl
 |ref a=>cases(show u=b8.ref a from r);rfl
 |ty n=>cases(show u=b8.type n from r);rfl
section
variable {w:dW}{fs FG:List (Str×V)}
theorem JL (hok:rg P w H h)(e:H a=Z (.ins V' dx fs)):∃mA,yO h a dx V' mA/\(∀f,p7 (fs.lookup f)<|mA f)/\PySem.Within mA (fs.map (·.1))/\fs.length<=1000/\H dx=Z (.own a):=by obtain⟨d,z,ne,ob,mA,n,r,q⟩:=(show gY P w H h a (.ins V' dx fs)from hok a _ e);exact⟨mA,⟨ob,n,ne⟩,r,q,z,d⟩
end
structure pT (K:b9)(V':cn):Prop where
 pg:n6 K V' Str.empty=Â
 hd:qX K V'=Â
 po:yJ K V'=Â
 sa:fL K (.ref V') "__setattr__"=Z (Z<|.builtin "object.__setattr__")
theorem pT.get {K:b9}(c:pT K V')(f:Str):n6 K V' f=Â:=c.pg
def gB (K:b9)(V':cn)(f:Str):Prop:=fL K (.ref V') f=Z C
theorem gB.taker {K:b9}{f:Str}(n:gB K V' f):sE K V' f=Z C:=by unfold sE;rw[show fL K (.ref V') f=Z C from n];rfl
structure yM (K:b9)(V':cn)(m:Str)(f:cn):Prop where
 at_:fL K (.ref V') m=Z (Z<|.ref f)
 fn:vB K (.ref f)=Â
 kp:fu K (.ref f)=Â
variable {m:Str}
section
variable {fs:List (Str×V)}{f:Str}{A:d4}
theorem Po {b:Bool}(I:Ê X ce U H s)(e:H a=Z (.ins V' dx fs))(c:pT X.K V')(n:gB X.K V' f)(l:fs.lookup f=Z v)
  (h:∀u s',Ê X ce U H s'->Í v u->Q u s'):cW (c8 X.prog X.w) A (getAttr (.ref a) f b) Q E s:=by
 obtain⟨mA,S',r,_,_,_⟩:=JL I.hok e;obtain⟨u,hu,ru⟩:=p7.some_of (v:=v) (o:=mA f) (by rw[←l];exact r f);exact zrc I.kIn S' (c.get f) c.hd n hu (X9 ru)<|h u _ (I.tok _) ru
theorem j9 {g:cn}{Q:b8×List b8->cF->Prop}(I:Ê X ce U H s)(e:H a=Z (.ins V' dx fs))(c:pT X.K V')(k:yM X.K V' m g)(l:fs.lookup m=C)
  (h:Q (.ref g,[.ref a]) s):cW (c8 X.prog X.w) A (lA (.ref a) m pl) Q E s:=by
 obtain⟨mA,S',r,_,_,_⟩:=JL I.hok e;have hn:mA m=C:=p7.none_of (by rw[←l];exact r m);exact YZ I.kIn S' (c.get m) k.at_ k.fn hn h
theorem Pp {Q:Unit->cF->Prop}(I:Ê X ce U H s)(e:H a=Z (.ins V' dx fs))(c:pT X.K V')(n:gB X.K V' f)(hl:fs.length<1000)(ry:Í y u)
  (h:∀s',Ê X ce U (gK H a<|.ins V' dx<|nR f y fs) s'->Q () s'):cW (c8 X.prog X.w) A (setAttr (.ref a) f u) Q E s:=by
 obtain⟨mA,S',r,wi,_,ho⟩:=JL I.hok e;have hz:(fs.map (·.1)).length<=sizeLine:=by rw[ck,eJ];lia
 refine zrd I.kIn S' c.sa c.po n.taker c.hd wi hz λh' O' sb=>h _ ?_;have hd:∃o,h'.get? dx=Z o:=let⟨o,_,_,e',_⟩:=O'.ns;⟨o,e'⟩;refine I.write (x:=a) (e:=dx) (by rw[e];exact True.intro) (.inr ho) (λb q hb z=>(sb.2 b hb).trans z) hd ?_;refine⟨by rw[zu S'.ne];exact ho,?_,S'.ne,O'.obj,_,O'.ns,λg=>?_,λg hg=>?_⟩
 ·have:=O6 f y fs;lia
 ·show p7 ((nR f y fs).lookup g) (if g=f then Z u else mA g);rw[O5];by_cases q:g=f
  ·rw[if_pos q,if_pos q];exact ry
  ·rw[if_neg q,if_neg q];exact r g
 ·by_cases q:g=f
  ·rw[q];exact(Mm f y fs).1
  ·refine(Mm f y fs).2 g<|wi g λz=>hg ?_;show(if g=f then Z u else mA g)=C;rw[if_neg q];exact z
theorem Ê.made (I:Ê X ce U H s):Ê X ce U (gK (gK H s.heap.objs.size<|.own<|s.heap.objs.size+1) (s.heap.objs.size+1)<|.ins V' s.heap.objs.size [])
  { s with heap:=(s.heap.push fK).push (gS V' s.heap.objs.size) }:=by
 have e1:(s.heap.push fK).get? s.heap.objs.size=Z fK:=cV s.heap rfl;have S:((s.heap.push fK).push<|gS V' s.heap.objs.size).get? (s.heap.objs.size+1)=Z (gS V' s.heap.objs.size):=by have:=cV (s.heap.push fK) (o:=gS V' s.heap.objs.size) rfl;rwa[gH]at this
 have e3:(s.heap.push fK).Ns s.heap.objs.size (λ_=>C):=⟨fK,#[],_,e1,rfl,(λe he=>absurd he<|by simp),λ_=>rfl⟩;have I1:=I.laid (a:=s.heap.objs.size) (o:=.own<|s.heap.objs.size+1) (h':=s.heap.push fK) (t':=s.toks) (λb u q=>cv _ q) (cK _) ⟨_,e1⟩;refine I1.laid (a:=s.heap.objs.size+1) (o:=.ins V' s.heap.objs.size []) (t':=s.toks) (λb u q=>cv _ q) (Nat.le_of_eq<|gH _ _) ?_;have ne:s.heap.objs.size≠s.heap.objs.size+1:=dG<|oZ _;refine⟨by rw[zu ne,zw],fI _,ne,S,λ_=>C,(cO.Ns1.of_empty e3).at λo q=>cv _ q,λ_=>True.intro,λy hy=>absurd rfl hy⟩
theorem zre {prog:eG}{w:dW}{env:Env}{f:Str}(hb:zT e f env (fB e env)=fB e env)
  (h:cW (c8 prog w) A (fB e env) (λo s₁=>cW (c8 prog w) A (getAttr o f Â) Q E s₁) E s):cW (c8 prog w) A (fB (.Attribute e f pos) env) Q E s :=
 Attribute_any_ h (by rw[arm_eval_Attribute,hb])
end
def LW (K:b9)(ta:TE)(f:Str):TE:=λU H Q=>ta U H λx H1=>∃a V' dx fs v,x=.ref a/\H1 a=Z (.ins V' dx fs)/\pT K V'/\gB K V' f/\fs.lookup f=Z v/\Q v H1
def LO (K:b9)(ta tv:TE)(f:Str):TS:=λD U H=>tv U H λy H1=>ta U H1 λx H2=>∃a V' dx fs,x=.ref a/\H2 a=Z (.ins V' dx fs)/\pT K V'/\gB K V' f/\fs.length<1000 /\
 D.nx U (gK H2 a<|.ins V' dx<|nR f y fs)
def Gj (X:Cx)(op:m9)(rd:V->V->Hp->VK->Prop):Prop :=
 ∀(ce:List<|cn×iU) (s:cF) (U:St) (H:Hp) (x y:V) (u v:b8) (Q:VK),Ê X ce U H s->Í x u->Í y v->rd x y H Q->cW (c8 X.prog X.w) X.A (inplaceOp op u v) (EP X ce U Q) X.xe s
def Dn (K:b9)(ta tv:TE)(rd:V->V->Hp->VK->Prop)(f:Str):TS:=λD U H=>ta U H λx H1=>∃a V' dx fs v,x=.ref a/\H1 a=Z (.ins V' dx fs)/\pT K V'/\gB K V' f/\fs.lookup f=Z v /\
 tv U H1 λy H2=>rd v y H2 λz H3=>∃GB FG,H3 a=Z (.ins V' GB FG)/\FG.length<1000/\D.nx U (gK H3 a<|.ins V' GB<|nR f z FG)
variable {iB:qP}{value:Expr}
section
variable {f:Str}{tv:TE}
theorem Ε (he:PE X e ta)(hb:CN X e f):PE X (.Attribute e f pos) (LW X.K ta f):=by intro ce s U H Q I h;refine zre hb<|fU (he ce s U H _ I h) λu s1 gx=>?_;obtain⟨x,H1,I1,rx,a,V',dx,fs,v,ex,ea,c,n,l,q⟩:=gx;subst ex;obtain rfl:u=b8.ref a:=rx;exact Po I1 ea c n l λu' s2 I2 ru=>⟨v,H1,I2,ru,q⟩
theorem Sg (ha:PE X o ta)(hv:PE X value tv)(hs:iF value (Z<|.Attribute o f pos') pos.line X.env=pure Ã):PS X (.Assign [.Attribute o f pos'] value pos) (LO X.K ta tv f):=by intro ce s U H D I h;refine plainObj_wpAny_Assign_Attribute (fU (hv ce s U H _ I h) λu s1 ⟨y,H1,I1,ry,q⟩=>fU (ha ce s1 U H1 _ I1 q) λov s2 hq=>?_) hs;obtain⟨x,H2,I2,rx,a,V',dx,fs,ex,ea,c,n,l,q2⟩:=hq;subst ex;obtain rfl:ov=b8.ref a:=rx;exact Pp I2 ea c n l ry λs3 I3=>⟨U,_,I3,q2⟩
theorem Ya {op:m9}{rd:V->V->Hp->VK->Prop}(ha:PE X o ta)(hv:PE X value tv)(hop:Gj X op rd):PS X (.AugAssign (.Attribute o f mD) op value pos) (Dn X.K ta tv rd f):=by intro ce s U H D I h;refine wpAny_AugAssign_AttributeAny<|fU (ha ce s U H _ I h) λov s1 gx=>?_;obtain⟨x,H1,I1,rx,a,V',dx,fs,v,ex,ea,c,n,l,q⟩:=gx;subst ex;obtain rfl:ov=b8.ref a:=rx;refine Po I1 ea c n l λu s2 I2 ru=>fU (hv ce s2 U H1 _ I2 q) λw3 s3 ⟨y,H2,I3,ry,q3⟩=>fU (hop ce s3 U H2 v y u w3 _ I3 ru ry q3) λw4 s4 gx=>?_;obtain⟨z,H3,I4,rz,GB,FG,Tz,l',q4⟩:=gx;exact Pp I4 Tz c n l' rz λs5 I5=>⟨U,_,I5,q4⟩
def Dj:V->V->Hp->VK->Prop:=λx y H Q=>∃i j,x=.int i/\y=.int j/\Q (.int<|i+j) H
theorem Δ:Gj X .Add Dj:=by rintro ce s U H x y u v Q I rx ry ⟨i,j,rfl,rfl,q⟩;obtain⟨t,rfl⟩:=(show∃t,u=b8.int i t from rx);obtain⟨t',rfl⟩:=(show∃t',v=b8.int j t' from ry);exact PyProof.Rows.iadd_int ⟨.int<|i+j,H,I.tok _,⟨_,rfl⟩,q⟩
theorem zrf {args:List Expr}(he:PE X e te)(I:Ê X ce U H s)
  (h:te U H λx H1=>∃a V' dx fs g,x=.ref a/\H1 a=Z (.ins V' dx fs)/\pT X.K V'/\yM X.K V' m g/\fs.lookup m=C /\
   ∀s1,Ê X ce U H1 s1->cW (c8 X.prog X.w) X.A (nc pos (.ref g) [.ref a] (kh pos<|dE args X.env)<|lV pos<|iG [] X.env) Q X.xe s1)
  (ht:fB (.Call (.Attribute e m iB) args [] pos) X.env=(do
   let ov ← fB e X.env
   k7 iB.atName
   let(f,first) ← gC [ov] (lA ov m pl)
   nc pos f first (kh pos<|dE args X.env) (lV pos<|iG [] X.env))) :
  cW (c8 X.prog X.w) X.A (fB (.Call (.Attribute e m iB) args [] pos) X.env) Q X.xe s:=by
 refine k8 (pl:=pl) (fU (he ce s U H _ I h) λu s1 hq=>?_) ht;obtain⟨x,H1,I1,rx,a,V',dx,fs,g,ex,ea,c,k,l,q⟩:=hq;subst ex;obtain rfl:u=b8.ref a:=rx;exact j9 I1 ea c k l<|q s1 I1
end
section
variable {A:d4}{c:b8}{b:Bool}
class inductive qS (K:b9)(H:Hp):V->b8->Prop where
 |non:qS K H .non (.type "NoneType")
 |bl (x:Bool):qS K H (.bl x) (.type "bool")
 |int (i:Int):qS K H (.int i) (.type "int")
 |str (x:Str):qS K H (.str x) (.type "str")
 |flt (x:UInt64):qS K H (.flt x) (.type "float")
 |lst {a:cn} {xs:List V} (e:H a=Z (.lst xs)):qS K H (.ref a) (.type "list")
 |frz {a:cn} {o:iU} {xs:List V} (e:H a=Z (.frz o<|.lst xs)):qS K H (.ref a) (.type "list")
 |tup {a:cn} {xs:List V} (e:H a=Z (.tup xs)):qS K H (.ref a) (.type "tuple")
 |dK {a:cn} {eW:List (jU×V)} (e:H a=Z (.dK eW)):qS K H (.ref a) (.type "dict")
 |dT {a:cn} {eW:List (List jU×V)} (e:H a=Z (.dT eW)):qS K H (.ref a) (.type "dict")
 |ins {a V' dx:cn} {fs:List (Str×V)} (e:H a=Z (.ins V' dx fs)) (cl:pT K V') (ha:fL K (.ref V') "__class__"=Z (Z<|.builtin "object.__class__"))
   (hn:kK K (.builtin "object.__class__") "__get__"=Z (Z<|.builtin "getset_descriptor.__get__")) (Oo:Ay K (.builtin "object.__class__")=Z Â)
   (hm:Bq K V' (.type "object")=Z Â):qS K H (.ref a) (.ref V')
theorem PR {x:V}{t:b8}(I:Ê X ce U H s)(rx:Í x u)(ty:qS X.K H x t)(e:iD X.K t c=Z b)(h:∀tk,Q (.bool b) { s with toks:=tk }) :
  cW (c8 X.prog X.w) A (call (.builtin "isinstance") [u,c]) Q E s:=by
 cases ty with
 |non=>cases(show u=b8.none from rx);exact eU PySem.W.kitx_none I.kIn True.intro e (λz=>nomatch z) h
 |bl y=>cases(show u=b8.bool y from rx);exact eU PySem.W.kitx_bool I.kIn True.intro e (λz=>nomatch z) h
 |int i=>obtain⟨t,q⟩:=(show∃t,u=b8.int i t from rx);cases q;exact eU PySem.W.kitx_int I.kIn True.intro e (λz=>nomatch z) h
 |str y=>obtain⟨t,q⟩:=(show∃t,u=b8.str y t from rx);cases q;exact eU PySem.W.kitx_str I.kIn True.intro e (λz=>nomatch z) h
 |flt y=>obtain⟨t,q⟩:=(show∃t,u=b8.float y t from rx);cases q;exact eU PySem.W.kitx_float I.kIn True.intro e (λz=>nomatch z) h
 |@lst a xs ea=>cases(show u=b8.ref a from rx);obtain⟨_,_,n,_,h1⟩:=(show gY X.prog X.w H s.heap a (.lst xs)from I.hok a _ ea);exact eU qY I.kIn ⟨_,h1,rfl⟩ e (λz=>nomatch z) h
 |@frz a ob xs ea=>cases(show u=b8.ref a from rx);obtain⟨_,_,_,n,_,h1⟩:=(show gY X.prog X.w H s.heap a (.frz ob<|.lst xs)from I.hok a _ ea);exact eU qY I.kIn ⟨_,h1,rfl⟩ e (λz=>nomatch z) h
 |@tup a xs ea=>cases(show u=b8.ref a from rx);obtain⟨_,_,_,p⟩:=(show gY X.prog X.w H s.heap a (.tup xs)from I.hok a _ ea);obtain⟨o,h1,h2,_⟩:=p;exact eU PySem.W.kitx_tuple I.kIn ⟨o,h1,h2⟩ e (λz=>nomatch z) h
 |@dK a eW ea=>cases(show u=b8.ref a from rx);obtain⟨_,_,vs,_,p⟩:=(show gY X.prog X.w H s.heap a (.dK eW)from I.hok a _ ea);obtain⟨o,es,ep,h1,h2,_⟩:=p;exact eU yI I.kIn ⟨o,h1,h2.1⟩ e (λz=>nomatch z) h
 |@dT a eW ea=>cases(show u=b8.ref a from rx);obtain⟨_,_,xs,_,o,es,ep,h1,h2,_⟩:=(show gY X.prog X.w H s.heap a (.dT eW)from I.hok a _ ea);exact eU yI I.kIn ⟨o,h1,h2.1⟩ e (λz=>nomatch z) h
 |@ins a V' dx fs ea cl ha hn Oo hm=>cases(show u=b8.ref a from rx);obtain⟨mA,S',_⟩:=JL I.hok ea;obtain⟨od,J',_⟩:=S'.look;exact eU (PySem.W.kitx_own (cl.get _) cl.hd ha hn Oo hm) I.kIn J' e (λz=>nomatch z) h
end
structure fY (k:Nat)(A:d4):Prop where
 hd:A.handled=C
 dp:A.depth+3*k+5<recursionLimit
 un:A.units+16*k+200<lW
 gd:A.guards=Z []
theorem fY.mono {k:Nat}{A:d4}(r:fY k A)(h:j<=k):fY j A:=⟨r.hd,by have:=r.dp;lia,by have:=r.un;lia,r.gd⟩
theorem fY.deeper {k:Nat}{A:d4}(r:fY (k+1) A)(env:Env):fY k (A.deeper env) :=
 ⟨r.hd,by have:=r.dp;show A.depth+1+3*k+5<_;lia,by have:=r.un;show A.units+3+16*k+200<_;lia,r.gd⟩
theorem Xl {A:d4}:(A.under<|.builtin "type.__call__" ⟨.ref V'::us,kw⟩).depth=A.depth+1:=by first|rfl|simp[d4.under,wK.weight,wK.isCreation,wK.isGuard,wK.isCaller,wK.frames,wK.isFrame,guardIds]
theorem Xm {A:d4}:(A.under<|.builtin "type.__call__" ⟨.ref V'::us,kw⟩).units=A.units+1:=by first|rfl|simp[d4.under,wK.cUnits,wK.frames,wK.isFrame]
theorem W9 {A:d4}:(A.under<|.builtin "type.__call__" ⟨.ref V'::us,kw⟩).guards=A.guards:=by first|rfl|simp[d4.under,wK.guards,wK.isGuard,guardIds,pushGuards]
theorem fY.make {k:Nat}{A:d4}(r:fY (k+1) A)(V':cn)(us:List b8)(kw:List<|Str×b8):fY k (A.under<|.builtin "type.__call__" ⟨.ref V'::us,kw⟩) :=
 ⟨r.hd,by have:=r.dp;rw[Xl];lia,by have:=r.un;rw[Xm];lia,by rw[W9];exact r.gd⟩
theorem fY.depth {k:Nat}{A:d4}(r:fY k A):A.depth<recursionLimit:=by have:=r.dp;lia
theorem fY.units {k:Nat}{A:d4}(r:fY k A):A.units+64<lW:=by have:=r.un;lia
def Fh:TA:=λ_ H Q=>Q [] H
def HQ (ta:TE)(tr:TA):TA:=λU H Q=>ta U H λx H1=>tr U H1 λxs H2=>Q (x::xs) H2
section
variable {t:TA}
theorem v5:PA X [] Fh:=λ_ _ _ _ H Q I h=>Calls.spliced_nil ⟨[],H,I,.nil,h⟩
theorem yw (ha:PE X e te)(hr:PA X es t)(hs:SE X e es:=by rfl):PA X (e::es) (HQ te t):=by intro pos ce s U H Q I h;rw[hs];show cW _ _ (spliced ((Ã,fB e X.env)::kh pos (dE es X.env))) _ _ s;refine Calls.spliced_cons<|fU (ha ce s U H _ I h) λu s1 gx=>?_;obtain⟨x,H1,I1,r1,q1⟩:=gx;exact fU (hr pos ce s1 U H1 _ I1 q1) λus s2 ⟨xs,H2,I2,r2,q2⟩=>⟨x::xs,H2,I2,.cons r1 r2,q2⟩
def Mb (t:TA):TE:=λU H Q=>t U H λxs H1=>xs.length<=sizeLine/\∀p,H1 p=C->Q (.ref p) (gK H1 p<|.tup xs)
def LZ (t:TA):TE:=λU H Q=>t U H λxs H1=>xs.length<=sizeLine/\∀p,H1 p=C->Q (.ref p) (gK H1 p<|.lst xs)
theorem Γ {x1}(h:PA X es t):PE X (.Tuple es x1 pos) (Mb t):=by intro ce s U H Q I hq;refine wpAny_Tuple_spliced (fU (h pos ce s U H _ I hq) λus s1 ⟨xs,H1,I1,r,z,q⟩=>⟨by rw[←r.length];exact z,?_⟩);have hf:H1 s1.heap.objs.size=C:=I1.hok.fresh<|cK _;refine⟨.ref s1.heap.objs.size,gK H1 s1.heap.objs.size<|.tup xs,I1.laid (t':=s1.toks) (λb u e=>cv _ e) (cK _) ?_,rfl,q _ hf⟩;exact⟨z,us,r,⟨_,cV _ rfl,rfl,_,rfl⟩⟩
theorem Ϙ (h:PA X es t):PE X (.List es pos) (LZ t):=by intro ce s U H Q I hq;refine wpAny_List_spliced (fU (h pos ce s U H _ I hq) λus s1 ⟨xs,H1,I1,r,z,q⟩=>⟨by rw[←r.length];exact z,?_⟩);have hf:H1 s1.heap.objs.size=C:=I1.hok.fresh<|cK _;refine⟨.ref s1.heap.objs.size,gK H1 s1.heap.objs.size<|.lst xs,I1.laid (t':=s1.toks) (λb u e=>cv _ e) (cK _) ?_,rfl,q _ hf⟩;exact⟨z,us,0,r,cV _ rfl⟩
end
abbrev Sp:=List V->Hp->VK->XK->Prop
abbrev Cm:=List Env->Hp->cF->XK->b8->cF->Prop
structure yK (P:eG)(w:dW)(K:b9)(mg:Str->Option b8)(base:cO)(A:d4)(outer:List Env)(s:cF)(H:Hp):Prop where
 frames:A.frames=Z outer
 mod:Mod K mg base
 bs:∀b o,base.get? b=Z o->s.heap.get? b=Z o/\H b=C
 bsz:base.objs.size<=s.heap.objs.size
 funs:s.heap.FunFrames base outer
 frf:∀b∈By outer,H b=C
 hok:rg P w H s.heap
 bare:AllBare s.gens
def CE (outer:List Env)(P:eG)(w:dW)(H:Hp)(s:cF)(Q:VK)(u:b8)(s':cF):Prop :=
 ∃v H',s'.os=s.os/\AllBare s'.gens/\Un (By outer) [] H H' s.heap s'.heap/\rg P w H' s'.heap/\Í v u/\Q v H'
def CR (CX:Cm)(outer:List Env)(P:eG)(w:dW)(H:Hp)(s:cF)(Q:VK)(E:XK)(r:Result)(s':cF):Prop :=
 match r with
 |.ok (.ret u)=>CE outer P w H s Q u s'
 |.ok _=>False
 |.error e=>CX outer H s E e s'
structure dO (P:eG)(w:dW)(K:b9)(mg:Str->Option b8)(base:cO)(CX:Cm)(k:Nat)(f:cn)(fd:cD)(ps:List Str)(sp:Sp):Prop where
 len:∀vs H Q E,sp vs H Q E->vs.length=ps.length
 run:∀(A:d4) (outer:List Env) (s:cF) (H:Hp) (args:Args) (us:List b8) (vs:List V) (Q:VK) (E:XK),fY k A->yK P w K mg base A outer s H->uC s fd args (ps.zip us)->dR vs us->sp vs H Q E ->
  n4 (c8 P w) A (.call (.ref f) args) (CR CX outer P w H s Q E) s
variable {CX:Cm}{fd:cD}{ps:List Str}{sp:Sp}
theorem dO.imp {w:dW}{K:b9}{mg:Str->Option b8}{base:cO}{k:Nat}{OM:Sp}(F:dO P w K mg base CX k f fd ps sp)
  (h:∀vs H Q E,OM vs H Q E->sp vs H Q E):dO P w K mg base CX k f fd ps OM :=
 ⟨λvs H Q E q=>F.len vs H Q E<|h _ _ _ _ q,λA outer s H args us vs Q E hr he hb hv hs=>F.run A outer s H args us vs Q E hr he hb hv<|h _ _ _ _ hs⟩
theorem yK.make {w:dW}{K:b9}{mg:Str->Option b8}{base:cO}{A:d4}{outer:List Env}(e:yK P w K mg base A outer s H)(V':cn)(us:List b8)(kw:List<|Str×b8) :
  yK P w K mg base (A.under<|.builtin "type.__call__" ⟨.ref V'::us,kw⟩) outer s H:=⟨by first|exact e.frames|(simpa[d4.under,wK.envs,wK.isFrame,pushEnvs]using e.frames),e.mod,e.bs,e.bsz,e.funs,e.frf,e.hok,e.bare⟩
theorem Ê.env0 (I:Ê X ce U H s):yK X.prog X.w X.K X.mg X.base X.A X.stack s H :=
 ⟨I.ok.frames,I.ok.mod,I.bs,eD I.ok.bsz I.sz,I.stack,I.stkFree,I.hok,I.bare⟩
theorem Ê.after {Q:VK}(I:Ê X ce U H s)(h:CE X.stack X.prog X.w H s Q u s'):EP X ce U Q u s':=by obtain⟨v,H',os,bare,un,hok,r,q⟩:=h;obtain⟨hh,g,d,t,Vg⟩:=s';obtain rfl:Vg=s.os:=os;exact⟨v,H',I.call (h':=hh) (g':=g) (d':=d) (t':=t) (ch:=[]) un hok bare<|λb z=>absurd z<|by simp,r,q⟩
def Eh (sp:Sp)(ou:List V)(E:XK)(t:TA):TE:=λU H Q=>t U H λvs H1=>sp (vs++ou) H1 Q E
def Em (V':cn)(m:Str)(sp:Sp)(ou:List V)(E:XK)(ta:TE)(t:TA):TE:=λU H Q=>ta U H λx H1=>∃a dx fs,x=.ref a/\H1 a=Z (.ins V' dx fs)/\fs.lookup m=C /\
 t U H1 λvs H2=>sp (x::(vs++ou)) H2 Q E
def Ek (V':cn)(sp:Sp)(ou:List V)(E:XK)(t:TA):TE:=λU H Q=>t U H λvs H1=>∀x dx,H1 x=C->H1 dx=C->dx≠x ->
 sp (.ref x::(vs++ou)) (gK (gK H1 dx<|.own x) x<|.ins V' dx []) (λv H2=>v=.non/\Q (.ref x) H2) E
def iA (K:b9)(fd:cD)(ps:List Str)(O:List b8):Prop :=
 ∀(s:cF) (us:List b8),K.In s.heap->(us++O).length=ps.length->uC s fd ⟨us,[]⟩ (ps.zip<|us++O)
theorem iA.all {K:b9}(h:∀us:List b8,us.length=ps.length->bindArgs fd ⟨us,[]⟩=pure (ps.zip us)):iA K fd ps []:=λs us _ hl=>by rw[dH]at hl ⊢;exact .of_eq<|h us hl
def nP (CX:Cm)(X:Cx)(E:XK):Prop:=∀(ce:List<|cn×iU) (U:St) (H:Hp) (s:cF) (e:b8) (s':cF),Ê X ce U H s->CX X.stack H s E e s'->X.xe e s'
variable {O:List b8}{ou:List V}
section
variable {k:Nat}{E:XK}{t:TA}
theorem Ir {Q:VK}{vs:List V}(F:dO X.prog X.w X.K X.mg X.base CX k f fd ps sp)(hr:fY k X.A)(hb:iA X.K fd ps O)(hd:dR ou O)(hx:nP CX X E)
  (I:Ê X ce U H s) (r:dR vs us) (h:sp (vs++ou) H Q E):cW (c8 X.prog X.w) X.A (call (.ref f) us) (EP X ce U Q) X.xe s:=by
 have r2:dR (vs++ou) (us++O):=r.append hd;have hl:(us++O).length=ps.length:=by rw[←r2.length];exact F.len _ _ _ _ h
 refine wpAny_call<|uE (F.run X.A X.stack s H ⟨us,[]⟩ (us++O) (vs++ou) Q E hr I.env0 (hb s us I.kIn hl) r2 h) λr s' hq=>?_;cases r with
 |error e=>exact hx ce U H s e s' I hq
 |ok fl=>
  cases fl with
  |ret u=>exact I.after hq
  |next=>exact False.elim hq
  |brk=>exact False.elim hq
  |cont=>exact False.elim hq
theorem MP (F:dO X.prog X.w X.K X.mg X.base CX k f fd ps sp)(hr:fY k X.A)(hg:Gl X x)(hm:X.mg x=Z (.ref f))(hk:fu X.K (.ref f)=Â)(hb:iA X.K fd ps O)(hd:dR ou O)(hx:nP CX X E)
  (ha:PA X (e::es) t) (oR:lH x:=by decide) (he:SE X e es:=by rfl) (mh:rc X pos es:=by rfl) :
  PE X (.Call (.Name x p) (e::es) [] pos) (Eh sp ou E t):=by
 intro ce s U H Q I h;refine fJ<|vm I hg hm ?_ oR;refine kj (h₀:=X.base) I.ok.mod.kin hk (fU (ha pos ce s U H _ I h) λus s1 ⟨vs,H1,I1,r,q⟩=>⟨I1.kIn,?_⟩) he mh;exact Ir F hr hb hd hx I1 r q
theorem Rg (he:PE X o ta)(c:pT X.K V')(hm:yM X.K V' m f)(F:dO X.prog X.w X.K X.mg X.base CX k f fd ps sp)(hr:fY k X.A)(hb:iA X.K fd ps O)(hd:dR ou O)(hx:nP CX X E)(ha:PA X (e::es) t)
  (n8:SE X e es:=by rfl) (mh:rc X pos es:=by rfl)
  (ht:fB (.Call (.Attribute o m iB) (e::es) [] pos) X.env=(do
   let ov ← fB o X.env
   k7 iB.atName
   let(f,first) ← gC [ov] (lA ov m pl)
   nc pos f first (kh pos<|dE (e::es) X.env) (lV pos<|iG [] X.env)):=by rfl) :
  PE X (.Call (.Attribute o m iB) (e::es) [] pos) (Em V' m sp ou E ta t):=by
 intro ce s U H Q I h;refine k8 (pl:=pl) (fU (he ce s U H _ I h) λu s1 hq=>?_) ht;obtain⟨x,H1,I1,rx,a,dx,fs,ex,ea,l,q⟩:=hq;subst ex;obtain rfl:u=b8.ref a:=rx;refine j9 I1 ea c hm l ?_;refine kj (first:=[.ref a]) (h₀:=X.base) I.ok.mod.kin hm.kp (fU (ha pos ce s1 U H1 _ I1 q) λus s2 ⟨vs,H2,I2,r,q2⟩=>⟨I2.kIn,?_⟩) n8 mh;exact Ir (us:=.ref a::us) (vs:=.ref a::vs) F hr hb hd hx I2 (.cons rfl r) q2
theorem Y1 (he:PE X o ta)(c:pT X.K V')(hm:yM X.K V' m f)(F:dO X.prog X.w X.K X.mg X.base CX k f fd ps sp)(hr:fY k X.A)(hb:iA X.K fd ps O)(hd:dR ou O)(hx:nP CX X E)
  (ht:fB (.Call (.Attribute o m iB) [] [] pos) X.env=(do
   let ov ← fB o X.env
   k7 iB.atName
   let(f,first) ← gC [ov] (lA ov m pl)
   nc pos f first (kh pos<|dE [] X.env) (lV pos<|iG [] X.env)):=by rfl) :
  PE X (.Call (.Attribute o m iB) [] [] pos) (Em V' m sp ou E ta Fh):=by
 intro ce s U H Q I h;refine k8 (pl:=pl) (fU (he ce s U H _ I h) λu s1 hq=>?_) ht;obtain⟨x,H1,I1,rx,a,dx,fs,ex,ea,l,q⟩:=hq;subst ex;obtain rfl:u=b8.ref a:=rx;refine j9 I1 ea c hm l ?_;exact wV (first:=[.ref a]) I1.kIn hm.kp<|Ir (us:=[.ref a]) (vs:=[.ref a]) F hr hb hd hx I1 (.cons rfl .nil) q
structure Mk (K:b9)(V' f:cn):Prop where
 makes:sC K V'=Â
 init:fL K (.ref V') "__init__"=Z (Z<|.ref f)
 fn:vB K (.ref f)=Â
 kp:fu K (.ref V')=Â
theorem QB {Q:VK}{vs:List V}(U':Mk X.K V' f)(F:dO X.prog X.w X.K X.mg X.base CX k f fd ps sp)(hr:fY (k+1) X.A)(hb:iA X.K fd ps O)(hd:dR ou O)
  (hx:nP CX X E) (I:Ê X ce U H s) (r:dR vs us)
  (h:∀x dx,H x=C->H dx=C->dx≠x->sp (.ref x::(vs++ou)) (gK (gK H dx<|.own x) x<|.ins V' dx []) (λv H2=>v=.non/\Q (.ref x) H2) E) :
  cW (c8 X.prog X.w) X.A (call (.ref V') us) (EP X ce U Q) X.xe s:=by
 have hq:=h (s.heap.objs.size+1) s.heap.objs.size (I.hok.fresh<|oh _) (I.hok.fresh<|cK _)<|dG<|oZ _;have I2:=Ê.made (V':=V') I;have r2:dR (V.ref (s.heap.objs.size+1)::(vs++ou)) (b8.ref (s.heap.objs.size+1)::(us++O)):=.cons rfl<|r.append hd;have hl:(b8.ref (s.heap.objs.size+1)::us++O).length=ps.length:=by have e:=r2.length;rw[F.len _ _ _ _ hq]at e;exact e.symm
 refine wpAny_call<|Y0 (f:=f) I.kIn U'.makes U'.init (beq_iff_eq.mp U'.fn)<|uE (F.run _ X.stack _ _ ⟨b8.ref (s.heap.objs.size+1)::us,[]⟩ (b8.ref (s.heap.objs.size+1)::(us++O)) _ _ E (hr.make V' us [])
  (I2.env0.make V' us []) (hb _ (b8.ref (s.heap.objs.size+1)::us) I2.kIn hl) r2 hq) λr s' G6=>?_
 cases r with
 |error e=>exact hx ce U _ _ e s' I2 G6
 |ok fl=>
  cases fl with
  |ret u=>obtain⟨v,H',I3,rv,ev,q3⟩:=I2.after G6;subst ev;exact⟨rv,⟨V.ref<|s.heap.objs.size+1,H',I3,rfl,q3⟩⟩
  |next=>exact False.elim G6
  |brk=>exact False.elim G6
  |cont=>exact False.elim G6
theorem zrg (U':Mk X.K V' f)(F:dO X.prog X.w X.K X.mg X.base CX k f fd ps sp)(hr:fY (k+1) X.A)(hg:Gl X x)(hm:X.mg x=Z (.ref V'))(hb:iA X.K fd ps O)(hd:dR ou O)(hx:nP CX X E)
  (ha:PA X (e::es) t) (oR:lH x:=by decide) (he:SE X e es:=by rfl) (mh:rc X pos es:=by rfl) :
  PE X (.Call (.Name x p) (e::es) [] pos) (Ek V' sp ou E t):=by
 intro ce s U H Q I h;refine fJ<|vm I hg hm ?_ oR;refine kj (h₀:=X.base) I.ok.mod.kin U'.kp (fU (ha pos ce s U H _ I h) λus s1 ⟨vs,H1,I1,r,q⟩=>⟨I1.kIn,?_⟩) he mh;exact QB U' F hr hb hd hx I1 r q
theorem Y2 (U':Mk X.K V' f)(F:dO X.prog X.w X.K X.mg X.base CX k f fd ps sp)(hr:fY (k+1) X.A)(hg:Gl X x)(hm:X.mg x=Z (.ref V'))(hb:iA X.K fd ps O)(hd:dR ou O)(hx:nP CX X E)
  (oR:lH x:=by decide):PE X (.Call (.Name x p) [] [] pos) (Ek V' sp ou E Fh):=by
 intro ce s U H Q I h;refine fJ<|vm I hg hm ?_ oR;exact wV I.kIn U'.kp<|QB (us:=[]) U' F hr hb hd hx I .nil h
end
structure iO (N P:List Str)(sc:rR):Prop where
 kind:sc.kind=.function
 co:sc.isCoroutine=Ã
 gen:sc.isGenerator=Ã
 nd:N.Nodup
 pre:N.take P.length=P
 par:∀x∈P,sc.names.lookup x=Z .local\/sc.names.lookup x=Z .cell
 nofree:∀y∈sc.names,y.2≠.free
variable {kindOf:Str->Option dA}
theorem PU {kindOf:Str->Option dA}{x:Str}:∀{binds:List (Str×b8)} {m:Str->Option b8},(∀v,(x,v)∉binds)->Aw kindOf binds m x=m x
 |[],_,_=>rfl
 |(n,v)::r,m,h=>by
  unfold Aw;rw[PU λw hw=>h w<|cj _ hw];split
  ·have:x≠n:=by rintro rfl;exact h v b7
   simp[this]
  ·rfl
theorem PV {kindOf:Str->Option dA}{x:Str}:∀{binds:List (Str×b8)} {m:Str->Option b8},(∀v,(x,v)∉binds)->Av kindOf binds m x=m x
 |[],_,_=>rfl
 |(n,v)::r,m,h=>by
  unfold Av;rw[PV λw hw=>h w<|cj _ hw];split
  ·rfl
  ·have:x≠n:=by rintro rfl;exact h v b7
   simp[this]
theorem PX {kindOf:Str->Option dA}{x:Str}{v:b8}:∀{P:List Str} {vs:List b8} {i:Nat} {m:Str->Option b8},P.Nodup->P[i]?=Z x->vs[i]?=Z v->kindOf x=Z .local ->
  Aw kindOf (P.zip vs) m x=Z v
 |[],_,_,_,_,h,_,_=>by simp at h
 |_::_,[],_,_,_,_,h,_=>by simp at h
 |p::P,w::vs,0,m,nd,h1,h2,hk=>by simp at h1 h2;subst h1;subst h2;show Aw kindOf ((p,w)::P.zip vs) m p=_;unfold Aw;rw[PU λv hv=>(dz.mp nd).1 (mn hv).1,if_pos hk];simp
 |p::P,w::vs,i+1,m,nd,h1,h2,hk=>by show Aw kindOf ((p,w)::P.zip vs) m x=_;unfold Aw;exact PX (i:=i) (dz.mp nd).2 (by simpa using h1) (by simpa using h2) hk
theorem PY {kindOf:Str->Option dA}{x:Str}{v:b8}:∀{P:List Str} {vs:List b8} {i:Nat} {m:Str->Option b8},P.Nodup->P[i]?=Z x->vs[i]?=Z v->kindOf x≠Z .local ->
  Av kindOf (P.zip vs) m x=Z v
 |[],_,_,_,_,h,_,_=>by simp at h
 |_::_,[],_,_,_,_,h,_=>by simp at h
 |p::P,w::vs,0,m,nd,h1,h2,hk=>by simp at h1 h2;subst h1;subst h2;show Av kindOf ((p,w)::P.zip vs) m p=_;unfold Av;rw[PV λv hv=>(dz.mp nd).1 (mn hv).1,if_neg hk];simp
 |p::P,w::vs,i+1,m,nd,h1,h2,hk=>by show Av kindOf ((p,w)::P.zip vs) m x=_;unfold Av;exact PY (i:=i) (dz.mp nd).2 (by simpa using h1) (by simpa using h2) hk
def start (N:List Str)(vs:List V):St:=vs.map Z++cB (N.length-vs.length) C
def sS (CX:Cm)(P:eG)(w:dW)(K:b9)(mg:Str->Option b8)(base:cO)(N:List Str)(qual:Str)(scope:rR)(f:cn)(cd:b8)(A:d4)(outer:List Env)(s:cF)(H:Hp)(E:XK):Cx where
 prog:=P
 w:=w
 K:=K
 mg:=mg
 base:=base
 A:=A.deeper<|envOfC qual scope s.heap.objs.size f cd
 N:=N
 s₀:=s
 H₀:=H
 env:=envOfC qual scope s.heap.objs.size f cd
 outer:=outer
 stack:=envOfC qual scope s.heap.objs.size f cd::outer
 ex:=[]
 calm:=true
 fn:=λ_=>Â
 pn:=[]
 xe:=λe s'=>cW (c8 P w) (A.deeper<|envOfC qual scope s.heap.objs.size f cd) (leaving (envOfC qual scope s.heap.objs.size f cd) e) (λ_ s''=>CX outer H s E e s'') (λe' s''=>CX outer H s E e' s'') s'
theorem QC {sc:rR}(h:sc.names.lookup x=Z .cell):∃c,(cellsFrom n sc.names []).lookup x=Z c:=by have q:=oH sc.names n []<|.inl h;exact uO.mp q
variable {qual:Str}{scope:rR}
theorem Yb {w:dW}{K:b9}{mg:Str->Option b8}{base:cO}{N:List Str}{cd:b8}{A:d4}{outer:List Env}{s1:cF}{E:XK}{vs:List V}
  (K':iO N ps scope) (hd:A.handled=C) (e0:yK P w K mg base A outer s H) (hl:vs.length=ps.length) (r:dR vs us)
  (x:InCallC s s.heap.objs.size (Aw (envOfC qual scope s.heap.objs.size f cd).kindOf (ps.zip us) λ_=>C) (cellsFrom (s.heap.objs.size+1) scope.names []) (Av (envOfC qual scope s.heap.objs.size f cd).kindOf (ps.zip us) λ_=>C) s1) :
  Ê (sS CX P w K mg base N qual scope f cd A outer s H E) [] (start N vs) H s1:=by
 have mh:ps.length<=N.length:=by have:=congrArg nZ K'.pre;rw[jT]at this;lia
 obtain⟨h1,tk,rfl,hk⟩:=x.done;have Hu:∀b:cn,b∉(sS CX P w K mg base N qual scope f cd A outer s H E).ex:=λb z=>absurd (show b∈([]:List cn)from z) (by simp);refine⟨⟨e0.mod,K'.kind,rfl,rfl,cK _,λy z c h1 h2=>?_,λy hy=>?_,λy c _ h=>?_,λ_=>hd,d4.frames_deeper e0.frames,.inr ⟨rfl,rfl⟩,λb z=>absurd z<|Hu b,e0.bs,e0.bsz,λb _ _=>Hu b,λb z=>absurd z<|Hu b,e0.funs,e0.frf⟩,
  rfl,e0.bare,Un.kept hk,⟨_,x.toInCall.ns,λi y v h1 h2 h3=>?_⟩,λy c h=>⟨_,x.cell y c h⟩,e0.hok.fresh<|cK _,λy c h=>?_,λp hp=>absurd (show p∈([]:List (cn×iU))from hp)<|by simp,e0.hok.kept hk,?_⟩
 ·exact name_of_addr x.apart (PySem.mem_of_lookup h1)<|PySem.mem_of_lookup h2
 ·have hy:scope.names.lookup y=Z .cell\/scope.names.lookup y=Z .free:=hy;rcases hy with hy|hy
  ·exact QC hy
  ·exact absurd rfl<|K'.nofree _<|PySem.mem_of_lookup hy
 ·exact su<|x.above y c<|PySem.mem_of_lookup h
 ·have hi:i<vs.length:=by
   unfold start at h2;by_cases hi:i<vs.length
   ·exact hi
   ·rw[fS<|by simpa using hi]at h2;rw[oM]at h2
    split at h2<;>cases h2
  have ha:vs[i]?=Z v:=by
   unfold start at h2;rw[fV<|by simpa using hi,cP]at h2;cases e:vs[i]? with
   |none=>rw[e]at h2;cases h2
   |some a=>rw[e]at h2;cases h2;rfl
  obtain⟨u,hu,rv⟩:=r.get ha;have hp:ps[i]?=Z y:=by rw[←K'.pre,List.getElem?_take_of_lt (by lia)];exact h1
  have OC:ps.Nodup:=by rw[←K'.pre];exact K'.nd.sublist<|List.take_sublist _ _
  refine⟨u,rv,?_⟩;rcases K'.par y (yH hp)with k|k
  ·exact .inl ⟨k,PX OC hp hu k⟩
  ·obtain⟨c,e⟩:=QC (n:=s.heap.objs.size+1) k;refine .inr ⟨.inl k,c,e,?_⟩;have q:=x.cell y c e;rw[PY OC hp hu<|by show scope.names.lookup y≠_;rw[k];decide]at q;exact q
 ·exact e0.hok.fresh<|su<|x.above y c<|PySem.mem_of_lookup h
 ·unfold start;show _=N.length;rw[cM,ck,gQ];lia
theorem İ {w:dW}{K:b9}{mg:Str->Option b8}{base:cO}{k:Nat}{params:Arguments}{dV kV doc pm kM M oc:b8}{an od:Option cn}
    {Dg:Array (Option b8)} {N:List Str} (lk:K.lookup f=Z ⟨oc,od,.func<|oI name qual params body scope dV kV doc pm an kM M,Dg⟩) (mR:tD K kM qual=Â) (K':iO N ps scope)
    (len:∀vs H Q E,sp vs H Q E->vs.length=ps.length)
    (BA:∀(A:d4) (outer:List Env) (s:cF) (H:Hp) (vs:List V) (Q:VK) (E:XK),fY k (A.deeper<|envOfC qual scope s.heap.objs.size f kM)->sp vs H Q E ->
      ∃t,yP (sS CX P w K mg base N qual scope f kM A outer s H E) body t/\t { nx:=λ_ H'=>Q .non H',rt:=Q } (start N vs) H) :
    dO P w K mg base CX (k+1) f (oI name qual params body scope dV kV doc pm an kM M) ps sp:=by
  refine⟨len,λA outer s H args us vs Q E hr e0 hb r D6=>?_⟩;have hl:=len _ _ _ _ D6;have KX:K.In s.heap:=e0.mod.kin.keeps λb o e=>(e0.bs b o e).1;have lim:s.heap.NoLimit:=e0.mod.nolimit.keeps λb o e=>(e0.bs b o e).1;have GU:∀y∈ps.zip us,scope.names.lookup y.1=Z .local\/(scope.names.lookup y.1=Z .cell/\((cellsFrom (s.heap.objs.size+1) scope.names []).lookup y.1).isSome=Â):=λ⟨n,v⟩ hy=>by
    rcases K'.par n (mn hy).1 with q|q
    · exact .inl q
    · exact .inr ⟨q,oH _ _ _<|.inl q⟩
  refine codeAny_call_function hr.depth (KX _ _ lk) rfl K'.co K'.gen rfl (PySem.W.codeRec_of KX mR)<|hb _ _ _ _ ?_;refine wpAny_newFunctionEnv_cells K'.kind GU λenv he s1 x=>?_;subst he;refine⟨lim.keeps x.toInCall.keep,codeAny_func ?_⟩;obtain⟨t,ht,hq⟩:=BA A outer s H vs Q E (hr.deeper _) D6;have I:Ê (sS CX P w K mg base N qual scope f kM A outer s H E) [] (start N vs) H s1:=Yb K' hr.hd e0 hl r x;refine gF (ht [] s1 (start N vs) H _ I hq) (λfl s' hs=>?_) λe s' hs=>hs;have fin:∀{σ':St} {H':Hp} {v:V} {u:b8},Ê (sS CX P w K mg base N qual scope f kM A outer s H E) [] σ' H' s'->Í v u->Q v H'->CE outer P w H s Q u s' :=
    λ{σ' H' v u} J' rv q=>⟨v,H',J'.os,J'.bare,J'.base,J'.hok,rv,q⟩
  cases fl with
  |ret u=>obtain⟨v,σ',H',J',rv,q⟩:=hs;exact fin J' rv q
  |next=>obtain⟨σ',H',J',q⟩:=hs;exact fin (v:=V.non) (u:=b8.none) J' rfl q
  |brk=>obtain⟨_,_,_,q⟩:=hs;exact False.elim q
  |cont=>obtain⟨_,_,_,q⟩:=hs;exact False.elim q
variable {T:String}
section
variable {t:TA}{id:String}{r:List V->Hp->VK->Prop}
def LS (r:List V->Hp->VK->Prop)(t:TA):TE:=λU H Q=>t U H λvs H1=>r vs H1 Q
theorem JH (hc:iL X (.builtin id) r)(hg:Gl X x)(hm:X.mg x=C)(hv:d5 x=Z (.builtin id))(ha:PA X (e::es) t)(hn:x≠"__name__":=by decide)(oR:lH x:=by decide)
  (he:SE X e es:=by rfl) (mh:rc X pos es:=by rfl):PE X (.Call (.Name x p) (e::es) [] pos) (LS r t):=by
 intro ce s U H Q I h;refine fJ<|uz I hg hm hv ?_ hn oR;exact PyProof.Rows.callWith_builtin1 (fU (ha pos ce s U H _ I h) λus s1 ⟨vs,H1,I1,r1,q1⟩=>hc ce s1 U H1 vs us Q I1 r1 q1) he mh
theorem PZ (hc:iL X (.type T) r)(hg:Gl X x)(hm:X.mg x=C)(hv:d5 x=Z (.type T))(ha:PA X (e::es) t)(hn:x≠"__name__":=by decide)(oR:lH x:=by decide)
  (he:SE X e es:=by rfl) (mh:rc X pos es:=by rfl):PE X (.Call (.Name x p) (e::es) [] pos) (LS r t):=by
 intro ce s U H Q I h;refine fJ<|uz I hg hm hv ?_ hn oR;exact eh (fU (ha pos ce s U H _ I h) λus s1 ⟨vs,H1,I1,r1,q1⟩=>hc ce s1 U H1 vs us Q I1 r1 q1) he mh
end
end L2
namespace HT
open PySem PyProof.Rows
open PySem.SeqAt
open PySem.AutoSeq1 (wpAny_loadPart')
open PySem.MeetsSeq PySem.MeetsSeq2 PySem.MeetsSeq3
section
variable {prog:eG}{w:dW}{A:d4}{E:b8->cF->Prop}{s:cF}
theorem cat_tup {t b:cn}{vs ws:List b8}{Q:b8->cF->Prop}(ht:IsTup s.heap t vs.toArray)(hb:IsTup s.heap b ws.toArray)(hv:vs≠[])
    (h1:ws=[]->Q (.ref t) s) (h2:ws≠[]->Q (.ref s.heap.objs.size) { s with heap:=s.heap.push { cls:=.type "tuple",data:=.seq (vs++ws).toArray } })
    (hsz:vs.length+ws.length<=sizeLine):cW (c8 prog w) A (ik .Add (.ref t)<|.ref b) Q E s:=by
  obtain⟨⟨cls,dd,data,sl⟩,ho,hc,n,hd⟩:=id ht;obtain⟨⟨Km,IN,data2,Ju⟩,Jc,GM,n2,hd2⟩:=id hb;simp only at hc hd GM hd2;subst hc hd GM hd2;have e:vs.toArray++ws.toArray=(vs++ws).toArray:=by simp
  by_cases hw:ws=[]
  · exact A6 ⟨_,ho,rfl⟩ ⟨_,Jc,rfl⟩ noFill_tuple_add seq_tuple_add PySem.F.slot_tuple_add PySem.F.entry_tuple_add (PySem.F.args_tuple_add_2 _ _)
      (tuple_addW1 t b vs.toArray ws.toArray n n2 dd IN sl Ju (by simpa using hv)<|by simp[hw]) ⟨ho,Jc,h1 hw⟩
  · refine A6 ⟨_,ho,rfl⟩ ⟨_,Jc,rfl⟩ noFill_tuple_add seq_tuple_add PySem.F.slot_tuple_add PySem.F.entry_tuple_add (PySem.F.args_tuple_add_2 _ _)
      (tuple_addW2 t b vs.toArray ws.toArray n n2 dd IN sl Ju (by simpa using hv) (by simpa using hw)<|by rw[cQ,cQ];exact hsz) ⟨ho,Jc,?_⟩
    rw[e];exact h2 hw
noncomputable def sIx (n d:Nat):Option Int->Nat
 |none=>d
 |some v=>if v<0 then(v+(n:Int)).toNat else min v.toNat n
theorem sIx_none (n d:Nat):sIx n d C=d:=rfl
theorem sIx_nat (n d k:Nat):sIx n d (Z (k:Int))=min k n:=by show(if(k:Int)<0 then((k:Int)+n).toNat else min (k:Int).toNat n)=min k n;rw[if_neg<|by lia,i8]
end
end HT
namespace L2
open PySem PySem.Spec PyProof.Rows
abbrev TO:=St->Hp->(Option Int->Hp->Prop)->Prop
def PO (X:Cx)(e:Option Expr)(t:TO):Prop :=
 ∀(ce:List<|cn×iU) (s:cF) (U:St) (H:Hp) (Q:Option Int->Hp->Prop),Ê X ce U H s->t U H Q ->
  cW (c8 X.prog X.w) X.A (evalPart e X.env) (λu s'=>∃o H',Ê X ce U H' s'/\IsPart u o/\Q o H') X.xe s
def Ds:TO:=λ_ H Q=>Q C H
def HW (t:TE):TO:=λU H Q=>t U H λx H1=>∃i,x=.int i/\Q (Z i) H1
theorem Xn {ns:List Int}:∀{us:List b8},dR (ns.map V.int) us->IntsAre us ns:=by
 induction ns with
 |nil=>intro us r;rw[pf]at r;cases r;exact .nil
 |cons n ns ih=>
  intro us r;rw[cI]at r;cases r with
  |cons r1 r2=>obtain⟨t,e⟩:=r1;subst e;exact .cons n t<|ih r2
variable {X:Cx}{e:Expr}{p2 pos:qP}{te:TE}{us:List b8}{xs:List V}
section
variable {lo hi:Option Expr}{tl th:TO}
theorem zrh:PO X C Ds:=by intro ce s U H Q I h;rw[sQ];exact di ⟨C,H,I,.none,h⟩
theorem JM (h:PE X e te):PO X (Z e) (HW te):=by intro ce s U H Q I hw;rw[evalPart_some];refine fU (h ce s U H _ I hw) λu s1 gx=>?_;obtain⟨x,H1,I1,r1,q1⟩:=gx;obtain⟨i,rfl,q⟩:=q1;obtain⟨t,rfl⟩:=r1;exact⟨Z i,H1,I1,.int i t,q⟩
def Kk (X:Cx)(r:V->Option Int->Option Int->Hp->VK->Prop):Prop :=
 ∀(ce:List<|cn×iU) (s:cF) (U:St) (H:Hp) (x:V) (v vl vu:b8) (lo hi:Option Int) (sl:cn) (Q:VK),Ê X ce U H s->Í x v->s.heap.IsSliceOf sl vl vu .none->IsPart vl lo->IsPart vu hi->r x lo hi H Q ->
  ∃T id,xZ (.type T) "__getitem__"=pure (Z<|.builtin id)/\s.TypeIs v T/\cW (c8 X.prog X.w) X.A (rW v<|.ref sl) (EP X ce U Q) X.xe s
def Vw (r:V->Option Int->Option Int->Hp->VK->Prop)(te:TE)(tl th:TO):TE:=λU H Q=>te U H λx H1=>tl U H1 λl H2=>th U H2 λu H3=>r x l u H3 Q
theorem QD {r:V->Option Int->Option Int->Hp->VK->Prop}(hr:Kk X r)(he:PE X e te)(hl:PO X lo tl)(hu:PO X hi th):PE X (.Subscript e (.Slice lo hi C p2) pos) (Vw r te tl th):=by intro ce s U H Q I h;refine Subscript_<|fU (he ce s U H _ I h) λv s1 gx=>?_;obtain⟨x,H1,I1,r1,q1⟩:=gx;refine wpAny_Slice<|fU (hl ce s1 U H1 _ I1 q1) λvl s2 ⟨l,H2,I2,pl,q2⟩=>fU (hu ce s2 U H2 _ I2 q2) λvu s3 gx=>?_;obtain⟨u,H3,I3,pu,q3⟩:=gx;rw[sQ];refine di ?_;have I4:Ê X ce U H3 { s3 with heap:=s3.heap.push { cls:=.type "slice",data:=.fields #[vl,vu,.none] } }:=I3.kept (t':=s3.toks) λb ob q=>cv _ q;obtain⟨T,id,hT,ht,hg⟩:=hr ce { s3 with heap:=s3.heap.push { cls:=.type "slice",data:=.fields #[vl,vu,.none] } } U H3 x v vl vu l u s3.heap.objs.size Q I4 r1 (uK.new ..) pl pu q3;show cW (c8 X.prog X.w) X.A (subscriptTail e (.Slice lo hi C p2) v<|.ref s3.heap.objs.size) (EP X ce U Q) X.xe { s3 with heap:=s3.heap.push { cls:=.type "slice",data:=.fields #[vl,vu,.none] } };exact tail_any (ops:=[.ref s3.heap.objs.size,v]) ht hT hg (by with_unfolding_all rfl)
def AE (xs:List V)(lo hi:Option Int):List V:=(xs.drop<|HT.sIx xs.length 0 lo).take<|HT.sIx xs.length xs.length hi-HT.sIx xs.length 0 lo
theorem Xa (xs:List V)(lo hi:Option Int):(AE xs lo hi).length<=xs.length:=by unfold AE;rw[jT,eM];lia
def Ed (K:b9):R2:=λx y H Q=>∃a b xs ys,x=.ref a/\y=.ref b/\p9 K H a xs/\p9 K H b ys/\xs≠[]/\xs.length+ys.length<=sizeLine /\
 (ys=[]->Q (.ref a) H)/\(ys≠[]->∀p,H p=C->Q (.ref p) (gK H p<|.tup<|xs++ys))
theorem dR.nil_iff (r:dR xs us):us=[]↔xs=[]:=by
 cases r with
 |nil=>simp
 |cons _ _=>simp
theorem zri:k9 X (ik .Add) (Ed X.K):=by intro ce s U H x y v u Q I rx ry h;obtain⟨a,b,xs,ys,rfl,rfl,ha,hb,hx,hz,q1,q2⟩:=h;cases rx;cases ry;obtain⟨dP,r1,p1,_⟩:=I.tuple ha;obtain⟨C8,r2,p2,_⟩:=I.tuple hb;refine HT.cat_tup p1 p2 (λz=>hx<|r1.nil_iff.mp z) (λz=>⟨.ref a,H,I,rfl,q1<|r2.nil_iff.mp z⟩) (λz=>?_) (by rw[←r1.length,←r2.length];exact hz);refine⟨.ref s.heap.objs.size,_,I.laid (t':=s.toks) (o:=.tup<|xs++ys) (λb ob q=>cv _ q) (cK _) ?_,rfl,q2 (λw=>z<|r2.nil_iff.mpr w) _<|I.hok.fresh<|cK _⟩;exact⟨by rw[cM];exact hz,_,r1.append r2,IsTup.new _ _⟩
end
noncomputable def ò (n:Nat)(i:Int):Option Nat:=if 0<=i then(if i<n then Z i.toNat else C)else if -(n:Int)<=i then Z (i+n).toNat else C
variable {α:Type}
def atI (xs:List α)(i:Int):Option α:=(ò xs.length i).bind λj=>xs[j]?
variable {j n:Nat}
theorem Rh {i:Int}(h:ò n i=Z j):seqIndex? i n=Z j/\j<n/\-(n:Int)<=i/\i<n:=by
 unfold ò at h;by_cases h0:0<=i
 ·rw[if_pos h0]at h;by_cases h1:i<n
  ·rw[if_pos h1]at h;have e:i.toNat=j:=Option.some.inj h;exact⟨by rw[vP h0 h1,e],by lia,by lia,h1⟩
  ·rw[if_neg h1]at h;cases h
 ·rw[if_neg h0]at h;by_cases h1:-(n:Int)<=i
  ·rw[if_pos h1]at h;have e:(i+n).toNat=j:=Option.some.inj h;exact⟨by rw[uF (by lia) h1,e],by lia,h1,by lia⟩
  ·rw[if_neg h1]at h;cases h
theorem JN {xs:List α}{i:Int}{v:α}(h:atI xs i=Z v):∃j,seqIndex? i xs.length=Z j/\xs[j]?=Z v/\j<xs.length/\-(xs.length:Int)<=i/\i<xs.length:=by
 unfold atI at h;cases e:ò xs.length i with
 |none=>rw[e]at h;cases h
 |some j=>rw[e]at h;obtain⟨h1,h2,h3,h4⟩:=Rh e;exact⟨j,h1,h,h2,h3,h4⟩
theorem ya {xs:List α}{v:α}(h:xs[j]?=Z v):atI xs (j:Int)=Z v:=by
 have hj:j<xs.length:=(cU.mp h).1;have e:ò xs.length (j:Int)=Z j:=by unfold ò;rw[if_pos<|by lia,if_pos<|by lia];simp
 unfold atI;rw[e];exact h
def tF (b:Expr):Prop:=∀o i,vQ b Ã o i=operate [o,i] (rW o i)
def Cp (X:Cx)(r:R2):Prop :=
 ∀(value slice:Expr) (ce:List<|cn×iU) (s:cF) (U:St) (H:Hp) (x y:V) (v u:b8) (Q:VK),Ê X ce U H s->Í x v->Í y u->r x y H Q ->
  vQ slice Ã v u=operate [v,u] (rW v u)->cW (c8 X.prog X.w) X.A (subscriptTail value slice v u) (EP X ce U Q) X.xe s
def Gm (X:Cx)(id:String)(r:V->List V->Hp->VK->Prop):Prop :=
 ∀(ce:List<|cn×iU) (s:cF) (U:St) (H:Hp) (x:V) (xs:List V) (v:b8) (us:List b8) (Q:VK),Ê X ce U H s->Í x v->dR xs us->r x xs H Q ->
  cW (c8 X.prog X.w) X.A (call (.builtin id) (v::us)) (EP X ce U Q) X.xe s
variable {H:Hp}{T:String}{iB:qP}{es:List Expr}{dP:List b8}{name:Str}{o:Expr}{ce:List (cn×iU)}{r:R2}{s:cF}{ta tb:TE}{u:b8}{y:V}{ys:List V}{U:St}
section
variable {a b:Expr}
theorem Cp.or {r':R2}(h:Cp X r)(h':Cp X r'):Cp X (λx y H Q=>r x y H Q\/r' x y H Q):=by
 intro value slice ce s U H x y v u Q I rx ry q hs;rcases q with q|q
 ·exact h value slice ce s U H x y v u Q I rx ry q hs
 ·exact h' value slice ce s U H x y v u Q I rx ry q hs
theorem į (hr:Cp X r)(ha:PE X a ta)(hb:PE X b tb)(hs:tF b):PE X (.Subscript a b pos) (Jx r ta tb):=by intro ce s U H Q I h;exact Subscript_<|EE ha hb I h λv u s2 x y H2 I2 rx ry q=>hr a b ce s2 U H2 x y v u Q I2 rx ry q<|hs _ _
def HF (K:b9):R2:=λx y H Q=>∃p xs i v,x=.ref p/\y=.int i/\jJ K H p xs/\atI xs i=Z v/\Q v H
def HH (K:b9):R2:=λx y H Q=>∃p xs i v,x=.ref p/\y=.int i/\p9 K H p xs/\atI xs i=Z v/\Q v H
def HG:R2:=λx y H Q=>∃z i c,x=.str z/\y=.int i/\z.length<=sizeLine/\atI z.cps.toList i=Z c/\Q (.str ⟨#[c]⟩) H
theorem zrj:Cp X (HF X.K):=by
 intro value slice ce s U H x y v u Q I rx ry h hs;obtain⟨p,xs,i,z,rfl,rfl,hq,he,q⟩:=h;cases rx;obtain⟨t,rfl⟩:=ry;obtain⟨dP,r,pl,hz⟩:=I.list hq;obtain⟨j,h1,h2,h3,h4,h5⟩:=JN he;obtain⟨w,ew,wB⟩:=r.get h2;have hl:=r.length;have hn:=qU;have fin:EP X ce U Q w s:=⟨z,H,I,wB,q⟩;by_cases h0:0<=i
 ·have hj:i.toNat=j:=by rw[vP h0 h5]at h1;exact Option.some.inj h1
  exact item_listR pl.isList h0 (by lia) (by rw[hj];simpa using ew) fin hs
 ·have hj:(i+(dP.toArray.size:Int)).toNat=j:=by rw[uF (by lia) h4]at h1;rw[cQ,←hl];exact Option.some.inj h1
  exact subscriptTail_builtinR (x:=w) pl.isList.typeIs pj.lookup
   (wpAny_getItem_list_neg (Q:=λr s'=>r=w/\EP X ce U Q r s') pl.isList (by lia) (by rw[cQ]<;>lia) (by lia) (by rw[hj];simpa using ew) ⟨rfl,fin⟩) hs
theorem ϗ:Cp X (HH X.K):=by
 intro value slice ce s U H x y v u Q I rx ry h hs;obtain⟨p,xs,i,z,rfl,rfl,hq,he,q⟩:=h;cases rx;obtain⟨t,rfl⟩:=ry;obtain⟨dP,r,pl,hz⟩:=I.tuple hq;obtain⟨j,h1,h2,h3,h4,h5⟩:=JN he;obtain⟨w,ew,wB⟩:=r.get h2;have hl:=r.length;have hn:=qU;have fin:EP X ce U Q w s:=⟨z,H,I,wB,q⟩;exact subscriptTail_builtinR (x:=w) pl.typeIs slot_tuple_getitem.lookup
  (getItem_tuple (j:=j) (Q:=λr s'=>r=w/\EP X ce U Q r s') pl (by lia) (by lia) (by rw[cQ,←hl];exact h1) (by simpa using ew) ⟨rfl,fin⟩) hs
theorem tU:Cp X HG:=by
 intro value slice ce s U H x y v u Q I rx ry h hs;obtain⟨z,i,c,rfl,rfl,hz,he,q⟩:=h;obtain⟨t,rfl⟩:=rx;obtain⟨t',rfl⟩:=ry;obtain⟨j,h1,h2,h3,h4,h5⟩:=JN he;have hl:z.cps.toList.length=z.length:=by simp[Str.length]
 rw[hl]at h1 h4 h5;have hn:=qU;exact tail_any (typeIs_str s z t) slot_str_getitem.lookup (getItem_str (c:=c) (by have e1:decide (i < -(2 ^ 63:Int))=Ã:=decide_eq_false (by lia);have S:decide (i >= 2 ^ 63)=Ã:=decide_eq_false (by lia);rw[e1,S,DF]) (by rw[h1];simpa using h2) ⟨.str ⟨#[c]⟩,H,I.tok _,⟨_,rfl⟩,q⟩) hs
def OJ (K:b9):R2:=λx y H Q=>HF K x y H Q\/HH K x y H Q\/HG x y H Q
theorem Sh:Cp X (OJ X.K):=zrj.or<|ϗ.or tU
theorem Xo (dP:List b8)(n j:Nat)(u:b8):iU.mapSeq (·.setIfInBounds j u) { cls:=.type "list",data:=.seq dP.toArray n } = { cls:=.type "list",data:=.seq (dP.set j u).toArray n }:=by simp[iU.mapSeq]
theorem Ê.lst {p:cn}(I:Ê X ce U H s)(h:H p=Z (.lst xs)) :
    ∃(dP:List b8) (n:Nat),dR xs dP/\s.heap.get? p=Z { cls:=.type "list",data:=.seq dP.toArray n }/\xs.length<=sizeLine:=by
  obtain⟨z,dP,n,r,e⟩:=I.hok p _ h;exact⟨dP,n,r,e,z⟩
theorem Ê.lstUpd {p:cn}{its':List b8}{n':Nat}{f:iU->iU}(I:Ê X ce U H s)(h:H p=Z (.lst xs))
    (ho:s.heap.get? p=Z { cls:=.type "list",data:=.seq dP.toArray n }) (hf:f { cls:=.type "list",data:=.seq dP.toArray n } = { cls:=.type "list",data:=.seq its'.toArray n' }) (r:dR ys its') (hz:ys.length<=sizeLine) (t:Nat) :
    Ê X ce U (gK H p<|.lst ys) { s with heap:=s.heap.update p f,toks:=t }:=by
  have e:(s.heap.update p f).get? p=Z { cls:=.type "list",data:=.seq its'.toArray n' }:=by rw[lF f ho<|by rw[hf]<;>rfl,hf]
  refine I.write (x:=p) (e:=p) (by rw[h];trivial) (.inl rfl) (λb u hb q=>(o8 _ _<|Ne.symm hb).trans q) ⟨_,e⟩ ?_;exact⟨hz,its',n',r,e⟩
def HL:V->V->V->Hp->(Hp->Prop)->Prop:=λo i v H Q=>∃p xs k j,o=.ref p/\i=.int k/\H p=Z (.lst xs)/\ò xs.length k=Z j/\Q (gK H p<|.lst<|xs.set j v)
theorem Ms:EA X HL:=by
 intro ce s U H o i v ov iv u Q I ro ri rv h;obtain⟨p,xs,k,j,rfl,rfl,hp,hj,q⟩:=h;cases ro;obtain⟨t,rfl⟩:=ri;obtain⟨dP,n,r,ho,hz⟩:=I.lst hp;obtain⟨h1,h2,h3,h4⟩:=Rh hj;have hl:=r.length;have hn:=qU;have I':Ê X ce U (gK H p<|.lst<|xs.set j v) { s with heap:=s.heap.update p (iU.mapSeq (·.setIfInBounds j u)) } :=
  I.lstUpd hp ho (Xo dP n j u) (r.set rv j) (by rw[Cg];exact hz) s.toks
 by_cases h0:0<=k
 ·have hk:k.toNat=j:=by rw[vP h0 h4]at h1;exact Option.some.inj h1
  exact PySem.W.ki_setAt ho h0 (by lia) (by rw[cQ,←hl];exact h4) (by rw[hk];exact⟨_,I',q⟩)
 ·have hk:(k+(dP.toArray.size:Int)).toNat=j:=by rw[uF (by lia) h3]at h1;rw[cQ,←hl];exact Option.some.inj h1
  exact PySem.W.ki_setBack ho (by lia) (by rw[cQ,←hl];exact h3) (by lia) (by rw[hk];exact⟨_,I',q⟩)
theorem zev (lo hi:Option Int)(n:Nat):(ki lo hi C n).1=((HT.sIx n 0 lo:Nat):Int)/\(ki lo hi C n).2.1=((HT.sIx n n hi:Nat):Int)/\(ki lo hi C n).2.2=1:=by
 refine⟨?_,?_,rfl⟩
 ·cases lo with
  |none=>simp[ki,HT.sIx]
  |some i=>
   simp only[ki,HT.sIx,Au,show(1:Int) > 0 by decide,if_true];by_cases h:i<0
   ·simp only[h,if_true]<;>lia
   ·simp only[h,if_false]<;>lia
 ·cases hi with
  |none=>simp[ki,HT.sIx]
  |some i=>
   simp only[ki,HT.sIx,Au,show(1:Int) > 0 by decide,if_true];by_cases h:i<0
   ·simp only[h,if_true]<;>lia
   ·simp only[h,if_false]<;>lia
theorem V2 (dP:List b8)(lo hi:Option Int):slicePick dP.toArray lo hi C=((dP.drop<|HT.sIx dP.length 0 lo).take<|HT.sIx dP.length dP.length hi-HT.sIx dP.length 0 lo).toArray:=by obtain⟨h1,h2,h3⟩:=zev lo hi dP.toArray.size;unfold slicePick;rw[h1,h2,h3];simp only[sliceRange_one,pick_run,cQ]<;>rfl
def LJ (K:b9):V->Option Int->Option Int->Hp->VK->Prop:=λx lo hi H Q=>∃a xs,x=.ref a/\jJ K H a xs/\∀p,H p=C->Q (.ref p) (gK H p<|.lst<|AE xs lo hi)
theorem zrk:Kk X (LJ X.K):=by intro ce s U H x v vl vu lo hi sl Q I rx hs pl pu h;obtain⟨a,xs,rfl,hx,q⟩:=h;cases rx;obtain⟨dP,r,ht,hz⟩:=I.list hx;have iI:=r.length;refine⟨"list",_,pj.lookup,ht.isList.typeIs,?_⟩;refine pE ht.isList hs pl pu .none (by simp) ?_ (by rw[cQ]<;>lia);rw[V2,←iI];refine⟨.ref s.heap.objs.size,_,I.laid (t':=s.toks) (o:=.lst<|AE xs lo hi) (λb ob q=>cv _ q) (cK _) ?_,rfl,q _<|I.hok.fresh<|cK _⟩;exact⟨eD (Xa xs lo hi) hz,_,0,(r.drop<|HT.sIx xs.length 0 lo).take<|HT.sIx xs.length xs.length hi-HT.sIx xs.length 0 lo,cV _ rfl⟩
noncomputable def ox:V->Bool
 |.non=>Â
 |.bl _=>Â
 |.int _=>Â
 |.str _=>Â
 |_=>Ã
def AG:V->V->Bool
 |.non,.non=>Â
 |.bl a,.bl b=>a==b
 |.bl a,.int b=>(if a then 1 else 0)==b
 |.int a,.bl b=>a==(if b then 1 else 0)
 |.int a,.int b=>a==b
 |.str a,.str b=>a==b
 |_,_=>Ã
theorem ϖ {A:d4}{x:V}{v:b8}(ry:Í y u)(rx:Í x v)(fy:ox y=Â)(fx:ox x=Â):SeqAt.EqAt A s u v (AG y x):=by
 cases y with
 |non=>
  cases ry;cases x with
  |non=>cases rx;exact SeqAt.EqAt.same _
  |bl b=>cases rx;exact SeqAt.EqAt.none_bool b
  |int b=>obtain⟨t,rfl⟩:=rx;exact SeqAt.EqAt.none_int b t
  |str b=>obtain⟨t,rfl⟩:=rx;exact SeqAt.EqAt.none_str b t
  |_=>exact absurd (show Ã=Â from fx) cJ
 |bl a=>
  cases ry;cases x with
  |non=>cases rx;exact SeqAt.EqAt.bool_none a
  |bl b=>cases rx;exact SeqAt.EqAt.bool_bool a b
  |int b=>obtain⟨t,rfl⟩:=rx;exact SeqAt.EqAt.bool_int a b t
  |str b=>obtain⟨t,rfl⟩:=rx;exact SeqAt.EqAt.bool_str a b t
  |_=>exact absurd (show Ã=Â from fx) cJ
 |int a=>
  obtain⟨t',rfl⟩:=ry;cases x with
  |non=>cases rx;exact SeqAt.EqAt.int_none a t'
  |bl b=>cases rx;exact SeqAt.EqAt.int_bool a t' b
  |int b=>obtain⟨t,rfl⟩:=rx;exact SeqAt.EqAt.int_int a t' b t
  |str b=>obtain⟨t,rfl⟩:=rx;exact SeqAt.EqAt.int_str a t' b t
  |_=>exact absurd (show Ã=Â from fx) cJ
 |str a=>
  obtain⟨t',rfl⟩:=ry;cases x with
  |non=>cases rx;exact SeqAt.EqAt.str_none a t'
  |bl b=>cases rx;exact SeqAt.EqAt.str_bool a t' b
  |int b=>obtain⟨t,rfl⟩:=rx;exact SeqAt.EqAt.str_int a t' b t
  |str b=>obtain⟨t,rfl⟩:=rx;exact SeqAt.EqAt.str_str a t' b t
  |_=>exact absurd (show Ã=Â from fx) cJ
 |_=>exact absurd (show Ã=Â from fy) cJ
def wN (x:V)(u:b8):Bool:=match u with
 |.none=>AG .non x
 |.bool b=>AG (.bl b) x
 |.int i _=>AG (.int i) x
 |.str z _=>AG (.str z) x
 |_=>Ã
theorem Nb {x:V}(r:Í y u)(f:ox y=Â):wN x u=AG y x:=by
 cases y with
 |non=>cases r;rfl
 |bl b=>cases r;rfl
 |int i=>obtain⟨t,rfl⟩:=r;rfl
 |str z=>obtain⟨t,rfl⟩:=r;rfl
 |_=>exact absurd (show Ã=Â from f) cJ
theorem Ib {x:V}:∀{xs:List V} {us:List b8},dR xs us->xs.all ox=Â->us.any (wN x)=xs.any λy=>AG y x
 |_,_,.nil,_=>rfl
 |y::xs,u::us,.cons r t,f=>by rw[f9,c9]at f;rw[ga,ga,Nb r f.1,Ib t f.2]
theorem uo {A:d4}{s:cF}{x:V}{v:b8}(rx:Í x v)(fx:ox x=Â):∀{xs:List V} {us:List b8},dR xs us->xs.all ox=Â->∀u∈us,SeqAt.EqAt A s u v (wN x u)
 |_,_,.nil,_=>λu hu=>by cases hu
 |y::xs,u::us,.cons r t,f=>λu' hu=>by
  rw[f9,c9]at f;rcases cu.mp hu with rfl|hu
  ·rw[Nb r f.1];exact ϖ r rx f.1 fx
  ·exact uo rx fx t f.2 u' hu
def Jm (x:V)(xs:List V):Bool:=xs.any λy=>AG y x
def LH (K:b9)(neg:Bool):R2:=λx y H Q=>∃p xs,y=.ref p/\(jJ K H p xs\/p9 K H p xs)/\ox x=Â/\xs.all ox=Â/\Q (.bl<|if neg then !Jm x xs else Jm x xs) H
theorem wt:k9 X (d6 .In) (LH X.K Ã):=by
 intro ce s U H x y v u Q I rx ry h;obtain⟨p,xs,rfl,hq,fx,fs,q⟩:=h;cases ry;rcases hq with hq|hq
 ·obtain⟨dP,r,pl,hz⟩:=I.list hq;refine SeqAt.in_listAt (wN x) pl.isList (λw hw=>uo rx fx r fs w<|by simpa using hw) ⟨.bl _,H,I,rfl,?_⟩;rw[show dP.toArray.any (wN x)=dP.any (wN x)by simp,Ib r fs];exact q
 ·obtain⟨dP,r,pl,hz⟩:=I.tuple hq;refine SeqAt.in_tupleAt (wN x) pl (λw hw=>uo rx fx r fs w<|by simpa using hw) ⟨.bl _,H,I,rfl,?_⟩;rw[show dP.toArray.any (wN x)=dP.any (wN x)by simp,Ib r fs];exact q
theorem w9:k9 X (d6 .NotIn) (LH X.K Â):=by
 intro ce s U H x y v u Q I rx ry h;obtain⟨p,xs,rfl,hq,fx,fs,q⟩:=h;cases ry;rcases hq with hq|hq
 ·obtain⟨dP,r,pl,hz⟩:=I.list hq;refine SeqAt.notIn_listAt (wN x) pl.isList (λw hw=>uo rx fx r fs w<|by simpa using hw) ⟨.bl _,H,I,rfl,?_⟩;rw[show dP.toArray.any (wN x)=dP.any (wN x)by simp,Ib r fs];exact q
 ·obtain⟨dP,r,pl,hz⟩:=I.tuple hq;refine SeqAt.notIn_tupleAt (wN x) pl (λw hw=>uo rx fx r fs w<|by simpa using hw) ⟨.bl _,H,I,rfl,?_⟩;rw[show dP.toArray.any (wN x)=dP.any (wN x)by simp,Ib r fs];exact q
theorem WE:iL X (.builtin "len") (λxs H Q=>∃p ys,xs=[.ref p]/\(jJ X.K H p ys\/p9 X.K H p ys)/\Q (.int ys.length) H):=by
 intro ce s U H xs us Q I r h;obtain⟨p,ys,rfl,hq,q⟩:=h;obtain⟨u,rfl,rx⟩:=sN r;cases rx;have hn:=qU;rcases hq with hq|hq
 ·obtain⟨dP,r',pl,hz⟩:=I.list hq;have iI:=r'.length;exact Calls.call_len_list pl.isList (by simp only[cQ]<;>lia) ⟨.int ys.length,H,I.tok _,⟨s.toks+1,by rw[cQ,iI]⟩,q⟩
 ·obtain⟨dP,r',pl,hz⟩:=I.tuple hq;have iI:=r'.length;exact len_tuple pl (by simp only[cQ]<;>lia) ⟨.int ys.length,H,I.tok _,⟨s.toks+1,by rw[cQ,iI]⟩,q⟩
theorem WF:iL X (.builtin "len") (λxs H Q=>∃z,xs=[.str z]/\z.length<=sizeLine/\Q (.int z.length) H):=by intro ce s U H xs us Q I r h;obtain⟨z,rfl,hz,q⟩:=h;obtain⟨u,rfl,t,rfl⟩:=sN r;have hn:=qU;exact len_str (by lia) ⟨.int z.length,H,I.tok _,⟨_,rfl⟩,q⟩
theorem iL.or {f:b8}{r r':List V->Hp->VK->Prop}(h:iL X f r)(h':iL X f r'):iL X f (λxs H Q=>r xs H Q\/r' xs H Q):=by
 intro ce s U H xs us Q I rs q;rcases q with q|q
 ·exact h ce s U H xs us Q I rs q
 ·exact h' ce s U H xs us Q I rs q
theorem O7:iL X (.type "list") (λxs H Q=>∃p ys,xs=[.ref p]/\(jJ X.K H p ys\/p9 X.K H p ys)/\∀l,H l=C->Q (.ref l) (gK H l<|.lst ys)):=by
  intro ce s U H xs us Q I r h;obtain⟨p,ys,rfl,hq,q⟩:=h;obtain⟨u,rfl,rx⟩:=sN r;cases rx;have fin:∀(dP:List b8),dR ys dP->ys.length<=sizeLine->∀(h':cO) (c':Nat),(∀b o',s.heap.get? b=Z o'->h'.get? b=Z o') ->
      h'.get? s.heap.objs.size=Z { cls:=.type "list",dict:=none,data:=.seq dP.toArray c',slots:=#[] }->EP X ce U Q (.ref s.heap.objs.size) { s with heap:=h' }:=λdP r' hz h' c' kp e=>
    ⟨.ref s.heap.objs.size,_,I.laid (t':=s.toks) kp (cK _) (show gY X.prog X.w _ h' _ (.lst ys)from⟨hz,dP,c',r',e⟩),rfl,q _<|I.hok.fresh<|cK _⟩
  rcases hq with hq|hq
  · obtain⟨dP,r',pl,hz⟩:=I.list hq;have iI:=r'.length;obtain⟨o,ho,hc,n,hd⟩:=pl.isList;exact call_list_seq p (.inl rfl) ho hc hd (λh' c' kp e=>fin dP r' hz h' c' kp e) (by simp only[cQ]<;>lia)
  · obtain⟨dP,r',pl,hz⟩:=I.tuple hq;have iI:=r'.length;obtain⟨o,ho,hc,n,hd⟩:=pl;exact call_list_seq p (.inr rfl) ho hc hd (λh' c' kp e=>fin dP r' hz h' c' kp e) (by simp only[cQ]<;>lia)
def OT (K:b9)(T:String)(x:V)(H:Hp):Prop:=match x with
 |.str _=>T = "str"
 |.int _=>T = "int"
 |.ref p=>(T = "list"/\∃xs,jJ K H p xs)\/(T = "tuple"/\∃o,K.lookup p=Z o/\o.cls=.type "tuple"/\o.dict=C) \/
   (T = "dict"/\((∃eW,H p=Z (.dK eW))\/∃eW,H p=Z (.dT eW)))\/(T = "set"/\∃K' n,H p=Z (.set K' n))
 |_=>False
theorem ϕ {x:V}{v:b8}(I:Ê X ce U H s)(r:Í x v)(ty:OT X.K T x H) :
  s.TypeIs v T/\∀a,v=.ref a->∃ob,s.heap.get? a=Z ob/\ob.dict=C:=by
 cases x with
 |str z=>obtain⟨t,rfl⟩:=r;cases(show T = "str" from ty);exact⟨typeIs_str s z t,λ_ e=>nomatch e⟩
 |int i=>obtain⟨t,rfl⟩:=r;cases(show T = "int" from ty);exact⟨DP s i t,λ_ e=>nomatch e⟩
 |ref p=>
  cases r;rcases ty with⟨rfl,xs,hq⟩|⟨rfl,o,hk,hc,hd⟩|⟨rfl,hk⟩|⟨rfl,K',n,hk⟩
  ·obtain⟨dP,_,pl,_⟩:=I.list hq;refine⟨pl.isList.typeIs,λa e=>?_⟩;cases e;obtain⟨o,n,e,c,hd,_⟩:=pl;exact⟨o,e,hd⟩
  ·refine⟨⟨o,I.kIn p o hk,hc⟩,λa e=>?_⟩;cases e;exact⟨o,I.kIn _ o hk,hd⟩
  ·have z:∃o,s.heap.get? p=Z o/\o.ExactDict:=by
    rcases hk with⟨eW,hk⟩|⟨eW,hk⟩
    ·obtain⟨_,_,_,_,o,_,_,e,ex,_⟩:=I.hok p _ hk;exact⟨o,e,ex⟩
    ·obtain⟨_,_,_,_,o,_,_,e,ex,_⟩:=I.hok p _ hk;exact⟨o,e,ex⟩
   obtain⟨o,e,ex⟩:=z;refine⟨⟨o,e,ex.1⟩,λa S=>?_⟩;cases S;exact⟨o,e,ex.2.1⟩
  ·obtain⟨o,_,_,_,e,ex,_⟩:=I.hok p _ hk;refine⟨⟨o,e,ex.1⟩,λa S=>?_⟩;cases S;exact⟨o,e,ex.2.1⟩
 |_=>exact False.elim ty
def Vs (K:b9)(T:String)(r:V->List V->Hp->VK->Prop)(to:TE)(t:TA):TE:=λU H Q=>to U H λx H1=>OT K T x H1/\t U H1 λxs H2=>r x xs H2 Q
variable {to:TE}{t:TA}{jB:qP}{id:String}{r:V->List V->Hp->VK->Prop}
theorem IC (pa:PlainAttrs T)(slot:Slot T name id)(UU:typeOf (.builtin id)=pure (.type "method_descriptor"))(hm:Gm X id r)(ho:PE X o to)(ha:PA X (e::es) t)
  (pL:CN X o name:=by rfl)
  (tR:FA X jB (e::es):=by rfl)
  (pM:(iB.endLine==jB.line)=Â:=by rfl) (hs:SE X e es:=by rfl) (mS:rc X jB es:=by rfl) :
  PE X (.Call (.Attribute o name iB) (e::es) [] jB) (Vs X.K T r to t):=by
 intro ce s U H Q I h;refine wpAny_Call_method_late pL tR pM rfl<|fU (ho ce s U H _ I h) λv s1 gx=>?_;obtain⟨x,H1,I1,r1,ty,q1⟩:=gx;obtain⟨h1,h2⟩:=ϕ I1 r1 ty;refine⟨T,id,pa,slot,UU,h1,h2,?_⟩;have hA:=ha jB ce s1 U H1 _ I1 q1;rw[hs]at hA ⊢;refine Calls.callWith_builtin (by show(Ã || (kh jB<|dE es X.env).any (·.1))=Ã;rw[mS]<;>rfl)<|Calls.evalArgs_plain ?_;exact fU hA λus s2 ⟨vs,H2,I2,r2,q2⟩=>hm ce s2 U H2 x vs v us Q I2 r1 r2 q2
end
def Tq (X:Cx)(id:String)(r:V->List V->Hp->VK->Prop):Prop :=
 ∀(ce:List<|cn×iU) (s:cF) (U:St) (H:Hp) (x:V) (xs:List V) (v:b8) (us:List b8) (Q:VK),Ê X ce U H s->Í x v->dR xs us->r x xs H Q ->
  cW (c8 X.prog X.w) X.A (call (.builtin id) (v::us)) (EP X ce U Q) X.xe s
theorem dR.one:∀{x:V} {us:List b8},dR [x] us->∃u,us=[u]/\Í x u
 |_,_,.cons r .nil=>⟨_,rfl,r⟩
theorem dR.reverse (h:dR xs us):dR xs.reverse us.reverse:=by
 induction h with
 |nil=>exact .nil
 |cons r t ih=>rw[kZ,kZ];exact dR.append ih<|.cons r .nil
theorem dR.rep {xs:List V}{us:List b8}(h:dR xs us):∀k:Nat,dR (cB k xs).flatten (cB k us).flatten
 |0=>.nil
 |k+1=>by rw[eZ,eZ,ip,ip];exact dR.append h<|dR.rep h k
theorem P0 (dP:List b8):∀(k:Nat) (nq:List b8),
  Aq (λx1 x2=>x1++x2) nq.toArray (cB k dP.toArray)=(nq++(cB k dP).flatten).toArray
 |0,nq=>by simp
 |k+1,nq=>by
  have e:nq.toArray++dP.toArray=(nq++dP).toArray:=by simp
  have S:(nq++dP)++(cB k dP).flatten=nq++(cB (k+1) dP).flatten:=by rw[eZ,ip,dN]
  rw[←S,←P0 dP k<|nq++dP,←e,eZ,tL]
variable {b:cn}{t':Nat}
section
variable {l:cn}{zs:List V}
theorem Ê.lset {its':List b8}{f:Array b8->Array b8}(I:Ê X ce U H s)(hH:H l=Z (.lst xs))
    (e:s.heap.get? l=Z { cls:=.type "list",data:=.seq dP.toArray n }) (hf:f dP.toArray=its'.toArray) (hv:dR ys its') (hz:ys.length<=sizeLine) :
    Ê X ce U (gK H l<|.lst ys) { s with heap:=s.heap.update l (iU.mapSeq f),toks:=t' }:=by
  have q:=PySem.IsL.update e f;rw[hf]at q;refine I.write (x:=l) (e:=l) (by rw[hH];exact trivial) (.inl rfl) (λb' u hb hu=>(o8 s.heap (iU.mapSeq f)<|Ne.symm hb).trans hu) ⟨_,q⟩ ?_;exact⟨hz,its',_,hv,q⟩
theorem Ê.lnew (I:Ê X ce U H s)(hv:dR ys dP)(hz:ys.length<=sizeLine) :
    Ê X ce U (gK H s.heap.objs.size<|.lst ys) { s with heap:=s.heap.push { cls:=.type "list",data:=.seq dP.toArray },toks:=t' } :=
  I.laid (λ_ _ q=>cv _ q) (cK _) ⟨hz,dP,0,hv,cV _ rfl⟩
theorem Ê.fresh (I:Ê X ce U H s):H s.heap.objs.size=C:=I.hok.fresh<|cK _
theorem Ê.lstM (I:Ê X ce U H s)(hH:H l=Z (.lst xs)):xs.length<=sizeLine/\∃(dP:List b8) (n:Nat),dR xs dP/\xs.length=dP.length/\s.heap.get? l=Z { cls:=.type "list",data:=.seq dP.toArray n }:=by obtain⟨z,dP,n,r,e⟩:=I.hok l _ hH;exact⟨z,dP,n,r,r.length,e⟩
theorem BR (h:n<=sizeLine):Builtin.List.listTooLong n=Ã:=by unfold Builtin.List.listTooLong;exact decide_eq_false (by lia)
end
def Dk:V->List V->Hp->VK->Prop:=λx vs H Q=>∃l xs y,x=.ref l/\vs=[y]/\H l=Z (.lst xs)/\xs.length<sizeLine/\Q .non (gK H l<|.lst<|xs++[y])
theorem P3:Tq X "list.append" Dk:=by intro ce s U H x vs v us Q I rx rv h;obtain⟨l,xs,y,rfl,rfl,hH,hz,q⟩:=h;cases rx;obtain⟨u,rfl,ru⟩:=rv.one;obtain⟨z,dP,n,r,hl,e⟩:=I.lstM hH;refine mH F.slot_list_append ⟨_,e,rfl⟩ F.entry_list_append (F.args_list_append_2 _ _) (PySem.list_append l dP.toArray n u<|by rw[cQ];lia) ⟨e,?_⟩;refine⟨.non,_,I.lset (its':=dP++[u]) hH e (by simp) (r.append<|.cons ru .nil) ?_,rfl,q⟩;rw[cM,eR];lia
theorem zrl (xs:List α)(k:Nat):(cB k xs).flatten.length=k*xs.length:=by
 induction k with
 |zero=>simp
 |succ k ih=>rw[eZ,ip,cM,ih,xV,xT]
variable {E:b8->cF->Prop}
end L2
namespace Att
open PySem PySem.W PySem.Calls PyProof.Rows
theorem VF {P:Params}{h:cO}:∀(ns:List Int) (vs:List b8),WellAll P h vs (ns.map WData.int)->IntsAre vs ns:=by
 intro ns;induction ns with
 |nil=>intro vs w;rw[pf]at w;cases w;exact .nil
 |cons n ns ih=>
  intro vs w;rw[cI]at w;cases w with
  |cons a b=>cases a;exact .cons _ _<|ih _ b
theorem Yc {l:OpenLaw}{n:Nat}(hn:l.most=Z n){P:Params}{h:cO}{args:List WData}{vals:List b8}
    (C1:l.row.toRowW.claim.pre args=Â) (Hb:WellAll P h vals args) :
    ∃a vs ns,vals=[b8.ref a]/\args=[WData.list<|ns.map WData.int]/\h.get? a=Z { cls:=.type "list",data:=.seq vs.toArray }/\IntsAre vs ns/\ns.length<=n:=by
  have US:WShape.hasAll [] args [.list .int]=Â:=(pre_splitW C1).1;have hc:l.pre.holds [] { args:=args }=Â:=(pre_splitW C1).2;obtain⟨d,r,rfl,h1,h2⟩:=hasAllW_cons US;obtain rfl:=hasAllW_nil h2;obtain⟨xs,rfl,h3⟩:=hasW_list h1;obtain⟨ns,rfl⟩:=items_int h3;have iI:ns.length<=n:=by
    unfold OpenLaw.pre at hc;have h4:(WTm.not<|.lt (.lit<|.int n)<|.len<|.arg 0).holds [] { args:=[.list<|ns.map .int] }=Â:=by have h4:=(holds_andW hc).1;rw[hn]at h4;exact h4
    have h5:=condW_of h4<|w_not<|w_lt w_lit<|w_len_list<|w_arg rfl;rw[ck]at h5;refine Nat.le_of_not_lt λq=>?_;have q':(n:Int)<((ns.length:Nat):Int):=by lia
    first
      |(rw[decide_eq_true q']at h5;exact absurd h5 (by decide))
      |(simp at h5;lia)
  cases Hb with
  |cons w1 w2=>
    cases w2;cases w1 with
    |list ho KO=>exact⟨_,_,ns,rfl,rfl,ho,VF ns _ KO,iI⟩
theorem Yd (l:OpenLaw)(args:List WData):l.row.toRowW.claim.post args (.bool Â) args=Â :=
  postW_of (r:=l.row.toRowW) (X:=(Â==Â))
    (show WShape.has [] (.bool Â) .bool=Â by first|rfl|decide|simp[WShape.has,WShape.arms,WShape.armsAll])
    (show(WTm.eq .res<|.lit<|.bool Â).value [] { args:=args,res:=some (.bool Â),after:=args }=Z (.bool<|Â==Â)from w_eq_bool (w_res rfl) w_lit) rfl
theorem attach_call {l:OpenLaw}{n:Nat}{q:eG}{loose:List Str}{XP:(Str->Option b8)->cO->Prop}{YP:dW->cO->Prop}{d:DefRec}
    (hn:l.most=Z n) (GS:d.params.defaults=[])
    (call:∀(w:dW) (s₀ s₁:cF) (mg mb:Str->Option b8) (fa:cn) (o:iU) (pm cd doc:b8) (a:cn) (vs:List b8) (ns:List Int),
      Ground q loose [] XP w s₀ mg mb s₁.heap->YP w s₁.heap ->
      s₁.heap.get? fa=Z o->o.data=.func (docDef d.name d.params d.body d.scope pm cd doc)->s₁.heap.CodeRec cd d.name->mg d.name=Z (.ref fa) ->
      s₁.heap.get? a=Z { cls:=.type "list",data:=.seq vs.toArray }->IntsAre vs ns->ns.length<=n->s₁.gens = #[] ->
      n4 (c8 l.prog w) uD (.call (.ref fa) ⟨[.ref a],[]⟩) (λr s'=>r=.ok (.ret<|.bool Â)/\OldK s₁.heap s'.heap/\s'.os=s₁.os/\AllBare s'.gens) s₁) :
    WalkO q loose XP YP l.row.toRowW d [] (λf vs=>PySem.call f vs):=by
  intro w s₀ s₁ mg mb W' Y' fa o pm cd doc dV kV ho hd mR hD hmg hg args vals J C1 UJ hrd Hb hlo;obtain rfl:dV=.none:=Dflts.none hD GS;obtain rfl:kV=.none:=Dflts.noKw hD;obtain⟨a,vs,ns,rfl,rfl,ER,BB,iI⟩:=Yc hn C1 Hb;refine enter_call<|uE (call w s₀ s₁ mg mb fa o pm cd doc a vs ns W' Y' ho (fd_plain hd) mR hmg ER BB iI hg) λr s' hq=>?_;obtain⟨rfl,h2,h3,h4⟩:=hq;exact⟨.inl ⟨.bool Â,.bool Â,[],rfl,λ_=>rfl,.bool Â,Yd l _,λ_=>⟨og.nil,λ_ hm=>(nomatch hm)⟩⟩,h2,h3,h4⟩
end Att
namespace L2
open PySem PySem.Spec PyProof.Rows
theorem Mn:∀{vs:List b8} {ns:List Int},IntsAre vs ns->dR (ns.map V.int) vs
 |_,_,.nil=>.nil
 |_,_,.cons n t h=>.cons ⟨t,rfl⟩<|Mn h
def Ey (H:Hp):Prop:=∀b,H b=C\/∃o xs,H b=Z (.frz o<|.lst xs)
variable {CX:Cm}{P:eG}{a:cn}{fd:cD}{sp:Sp}{x:Str}
theorem Y3 {w:dW}{K:b9}{mg mb:Str->Option b8}{k:Nat}{fa:cn}{s₁:cF}{vs:List b8}{ns:List Int}
    (KX:K.In s₁.heap) (oA:s₁.heap.Ns ee mg) (hb:s₁.heap.Ns DN mb) (Uv:∀x:Str,x≠"__name__"->mb x=d5 x) (K9:s₁.heap.NoLimit) (hg:s₁.gens = #[])
    (ha:s₁.heap.get? a=Z { cls:=.type "list",data:=.seq vs.toArray }) (hi:IntsAre vs ns) (hl:ns.length<=sizeLine) (hr:fY k uD)
    (F:∀base:cO,K.In base->base.Ns ee mg->dO P w K mg base CX k fa fd [x] sp) (GL:∀(s:cF) (u:b8),uC s fd ⟨[u],[]⟩ [(x,u)])
    (D6:∀H:Hp,Ey H->jJ K H a (ns.map V.int)->sp [.ref a] H (λv _=>v=.bl Â) λ_ _ _=>False)
    (KB:∀H e s',CX [] H s₁ (λ_ _ _=>False) e s'->False) :
    n4 (c8 P w) uD (.call (.ref fa) ⟨[.ref a],[]⟩) (λr s'=>r=.ok (.ret<|.bool Â)/\OldK s₁.heap s'.heap/\s'.os=s₁.os/\AllBare s'.gens) s₁:=by
  have rv:=Mn hi;have Ls:=hi.length;have core:∀H:Hp,Ey H->jJ K H a (ns.map V.int)->rg P w H s₁.heap->(∀b,H b≠C->b=a)->(H a≠C->K.lookup a=C) ->
      n4 (c8 P w) uD (.call (.ref fa) ⟨[.ref a],[]⟩) (λr s'=>r=.ok (.ret<|.bool Â)/\OldK s₁.heap s'.heap/\s'.os=s₁.os/\AllBare s'.gens) s₁:=by
    intro H hO hS hok hA hK;have zV:∀{b:cn} {o:iU},s₁.heap.get? b=Z o->H b=C->(vW s₁.heap H).get? b=Z o:=λe n=>YT e n;have Hu:∀{b:cn} {o:iU} {es:Array DictEntry} {ep:Nat},s₁.heap.get? b=Z o->o.data=.dict es ep->H b=C:=λ{b o es ep} e d=>by
      cases q:H b with
      |none=>rfl
      |some u=>have e':b=a:=hA b (by rw[q];simp);subst e';rw[ha]at e;cases e;have d':qW.seq vs.toArray _=qW.dict es ep:=d;cases d'
    have Jq:∀{b:cn} {m:Str->Option b8},s₁.heap.Ns b m->(vW s₁.heap H).Ns b m:=λ{b m} ⟨o,es,ep,e,d,r⟩=>⟨o,es,ep,zV e<|Hu e d,d,r⟩;have NW:K.In (vW s₁.heap H):=λb o e=>zV (KX b o e) (by
      cases q:H b with
      |none=>rfl
      |some u=>have e':b=a:=hA b (by rw[q];simp);subst e';rw[hK<|by rw[q];simp]at e;cases e)
    have hM:Mod K mg (vW s₁.heap H):=⟨NW,Jq oA,⟨mb,Jq hb,Uv⟩,let⟨mc,h1,h2⟩:=K9;⟨mc,Jq h1,h2⟩⟩;have e0:yK P w K mg (vW s₁.heap H) uD [] s₁ H:=⟨rfl,hM,λb o e=>Z2 e,Nat.le_of_eq<|X5 _ _,trivial,λb hb=>absurd (show b∈([]:List cn)from hb)<|by simp,hok,.of_eq hg⟩;refine uE ((F _ NW<|Jq oA).run uD [] s₁ H ⟨[.ref a],[]⟩ [.ref a] [.ref a] _ _ hr e0 (GL s₁<|.ref a) (.cons rfl .nil)<|D6 H hO hS) λr s' h=>?_;cases r with
    |error e=>exact(KB H e s' h).elim
    |ok fl=>
      cases fl with
      |next=>exact False.elim h
      |brk=>exact False.elim h
      |cont=>exact False.elim h
      |ret u=>
        obtain⟨v,H',os,bare,un,Lg,r',q⟩:=h;have q':v=.bl Â:=q;subst q';obtain rfl:u=b8.bool Â:=r';refine⟨rfl,OldK.of_keep λb o e=>?_,os,bare⟩;cases q:H b with
        |none=>exact un.keep b o e q (by intro z;exact absurd (show b∈([]:List cn)from z) (by simp)) (by simp)
        |some u=>
          rcases hO b with z|⟨ob,xs,z⟩
          · rw[q]at z;cases z
          · have z2:=un.frzs b ob _ z;obtain⟨e1,_⟩:=hok b _ z;obtain⟨S,_⟩:=Lg b _ z2;rw[e]at e1;cases e1;exact S
  cases hk:K.lookup a with
  |some o=>have e:=KX a o hk;rw[ha]at e;cases e;refine core (λ_=>C) (λ_=>.inl rfl) (.inr ⟨_,vs.toArray,_,hk,rfl,rfl,rfl,by rw[cQ,Ls];exact hl,by simpa using rv⟩) (λb u z=>by have z':(C:Option HO)=Z u:=z;cases z') (λb z=>absurd rfl z) λz=>absurd rfl z
  |none=>
    refine core (λb=>if b=a then Z (.frz { cls:=.type "list",data:=.seq vs.toArray } (.lst<|ns.map V.int))else C) (λb=>?_) (.inl<|.inr ⟨{ cls:=.type "list",data:=.seq vs.toArray },if_pos rfl⟩) (λb u z=>?_) (λb z=>?_) λ_=>hk
    · by_cases hb:b=a
      · exact .inr ⟨_,_,if_pos hb⟩
      · exact .inl<|if_neg hb
    · by_cases hb:b=a
      · have z':=(if_pos hb).symm.trans z;cases z';subst hb;exact⟨ha,by rw[ck];exact hl,vs,_,rv,ha⟩
      · have z':=(if_neg hb).symm.trans z;cases z'
    · by_cases hb:b=a
      · exact hb
      · exact absurd (if_neg hb) z
variable {n:Nat}
theorem þ {l:sx}{k:Nat}{q:eG}{loose:List Str}{XP:(Str->Option b8)->cO->Prop}{YP:dW->cO->Prop}{d:DefRec}{K:Params->b9}{CX:dW->Cm}{sp:dW->Sp}
  (hn:l.most=Z n) (CC:n<=sizeLine) (GS:d.params.defaults=[]) (hr:fY k uD)
  (hY:∀(w:dW) (h:cO),YP w h->(K w.params).In h)
  (F:∀(w:dW) (mg:Str->Option b8) (fa:cn) (h:cO),(K w.params).In h->h.Ns ee mg->mg d.name=Z (.ref fa) ->
   ∃fd:cD,(∀(s:cF) (u:b8),uC s fd ⟨[u],[]⟩ [(x,u)]) /\
    ∀base:cO,(K w.params).In base->base.Ns ee mg->dO l.prog w (K w.params) mg base (CX w) k fa fd [x] (sp w))
  (D6:∀(w:dW) (H:Hp) (a:cn) (ns:List Int),ns.length<=n->Ey H->jJ (K w.params) H a (ns.map V.int)->sp w [.ref a] H (λv _=>v=.bl Â) λ_ _ _=>False)
  (KB:∀(w:dW) (H:Hp) (s:cF) (e:b8) (s':cF),CX w [] H s (λ_ _ _=>False) e s'->False) :
  Bp q loose XP YP l.row.toRowW d [] (λf vs=>PySem.call f vs):=by
 refine Att.attach_call hn GS λw s₀ s₁ mg mb fa o pm cd doc a vs ns W' Y' ho hd mR hmg ER BB iI hg=>?_;have KX:=hY w _ Y';obtain⟨fd,hb,hF⟩:=F w mg fa _ KX W'.T.g hmg;exact Y3 KX W'.T.g W'.T.b W'.T.builtins W'.T.nolimit hg ER BB (eD iI CC) hr hF hb (λH hO hS=>D6 w H a ns iI hO hS) λH e s'=>KB w H s₁ e s'
noncomputable def Þ (s:eA)(j:Nat):eA:=match s with
 |.ClassDef _ _ _ body _ _ _ _ _ _ _=>body.getD j<|.Pass ⟨0,0,0,0⟩
 |_=>.Pass ⟨0,0,0,0⟩
noncomputable def mw (s:eA):Arguments:=match s with
  |.FunctionDef _ a _ _ _ _ _ _ _ _=>a
  |_=>{ posonlyargs:=[],args:=[],vararg:=none,kwonlyargs:=[],kw_defaults:=[],kwarg:=none,defaults:=[] }
def iE (s:eA):List eA:=match s with
 |.FunctionDef _ _ b _ _ _ _ _ _ _=>b
 |_=>[]
def dS (s:eA):rR:=match s with
  |.FunctionDef _ _ _ _ _ _ sc _ _ _=>sc
  |_=>{ kind:=.function,names:=[],isGenerator:=false,isCoroutine:=false }
abbrev gk:Cm:=λ_ _ _ _ _ _=>False
abbrev E0:XK:=λ_ _ _=>False
variable {X:Cx}
theorem qJ:nP gk X E0:=λ_ _ _ _ _ _ _ h=>h.elim
theorem Eu {A:d4}{k:Nat}(hr:fY k A):A.units+1<lW:=nz (Nat.add_le_add_left (by decide:1<=64) _) hr.units
theorem AM (h:n<=1000):n<sizeLine:=nz h (by decide)
def dQ (H H':Hp):Prop:=∀b o,H b=Z o->H' b=Z o
theorem dQ.refl (H:Hp):dQ H H:=λ_ _ h=>h
variable {H:Hp}
theorem dQ.trans {H1 H2:Hp}(a:dQ H H1)(b:dQ H1 H2):dQ H H2:=λc o h=>b c o<|a c o h
variable {H':Hp}
theorem dQ.free (e:dQ H H'){l:cn}(h:H' l=Option.none):H l=Option.none:=by
 cases q:H l with
 |none=>rfl
 |some o=>rw[e l o q]at h;cases h
variable {xs:List V}
theorem dQ.seq {K:b9}(e:dQ H H')(h:jJ K H a xs):jJ K H' a xs:=by
 rcases h with(h|⟨o,h⟩)|h
 ·exact .inl<|.inl<|e _ _ h
 ·exact .inl<|.inr ⟨o,e _ _ h⟩
 ·exact .inr h
noncomputable def Tu (a V':cn)(dx tb:Option cn)(h:cO):Prop :=
  ∃a0,h.get? a=Z { cls:=.ref V',dict:=dx,data:=.fields #[a0,tb.elim b8.none .ref,.none,.none,.bool Ã,.none] }
abbrev O2 (a V':cn)(dx tb:Option cn):HO:=.ext<|Tu a V' dx tb
variable {V':cn}{U':Model}{ce:List (cn×iU)}{s:cF}{U:St}
abbrev GK:=St->cn->Hp->Prop
variable {iB p pos:qP}{O:List b8}{ou:List V}{e o:Expr}{es:List Expr}{f:cn}{m:Str}{ps:List Str}{ta:TE}
variable {R:Result->cF->Prop}{ab:Bool}{bm:List b8}{col:Option Bool}{dd:Option cn}{h:cO}{k0 k1 k2 k3 k5:Option b8}{nm:Str}{sn:List Str}
variable {E:b8->cF->Prop}
variable {name:Str}
variable {te:TE}
variable {κ:Type}{u:b8}{vs:List (κ×b8)}{y:V}
section
variable [DecidableEq κ]
noncomputable def oY (eW:List<|κ×V)(k:κ):Option V:=(eW.find? λkv=>decide<|kv.1=k).map (·.2)
noncomputable def å (eW:List<|κ×V)(k:κ)(v:V):List (κ×V) :=
 if(eW.any λkv=>decide<|kv.1=k)=Â then eW.map (λkv=>if kv.1=k then(kv.1,v)else kv)else eW++[(k,v)]
theorem Mt {p:κ×V}{r:List (κ×V)}{k:κ}(e:p.1=k):oY (p::r) k=Z p.2:=by simp[oY,eX,e]
theorem Mu {p:κ×V}{r:List (κ×V)}{k:κ}(e:¬p.1=k):oY (p::r) k=oY r k:=by simp[oY,eX,e]
theorem QE (k:κ):∀eW:List (κ×V),(eW.any λkv=>decide<|kv.1=k)=(oY eW k).isSome
 |[]=>rfl
 |p::r=>by
  rw[ga];by_cases e:p.1=k
  ·simp only[Mt e,decide_eq_true e,Bool.true_or,Option.isSome_some]
  ·rw[Mu e,decide_eq_false e,Bool.false_or];exact QE k r
theorem Pg (eW:List<|κ×V)(k:κ)(v:V):(å eW k v).length<=eW.length+1:=by
 unfold å;split
 ·rw[ck];lia
 ·rw[cM,cz,List.length_nil];lia
theorem p7.isSome_eq {o:Option V}{u:Option b8}(r:p7 o u):o.isSome=u.isSome:=by
 cases o with
 |none=>cases u with
  |none=>rfl
  |some _=>exact(show False from r).elim
 |some _=>cases u with
  |none=>exact(show False from r).elim
  |some _=>rfl
theorem KV.val {eW:List (κ×V)}(r:KV eW vs)(k:κ):p7 (oY eW k) (uH vs k):=by
 unfold KV at r;induction r with
 |nil=>exact True.intro
 |@cons p q ps qs h t ih=>
  obtain⟨h1,h2⟩:=h;by_cases e:p.1=k
  ·have e':q.1=k:=h1.symm.trans e;have b:uH (q::qs) k=Z q.2:=by simp[uH,eX,e']
   rw[Mt e,b];exact h2
  ·have e':¬q.1=k:=λz=>e<|h1.trans z;have b:uH (q::qs) k=uH qs k:=by simp[uH,eX,e']
   rw[Mu e,b];exact ih
theorem KV.any {eW:List (κ×V)}(r:KV eW vs)(k:κ):(eW.any λkv=>decide<|kv.1=k)=vs.any λkv=>decide (kv.1=k):=by
 unfold KV at r;induction r with
 |nil=>rfl
 |cons h t ih=>rw[ga,ga,ih,h.1]
theorem KV.repl {eW:List (κ×V)}(r:KV eW vs)(k:κ)(ry:Í y u) :
  KV (eW.map λkv=>if kv.1=k then(kv.1,y)else kv) (vs.map λkv=>if kv.1=k then(kv.1,u)else kv):=by
 unfold KV at r ⊢;induction r with
 |nil=>exact .nil
 |@cons p q ps qs h t ih=>
  rw[cI,cI];refine .cons ?_ ih;obtain⟨h1,h2⟩:=h;by_cases e:p.1=k
  ·rw[if_pos e,if_pos<|h1.symm.trans e];exact⟨h1,ry⟩
  ·rw[if_neg e,if_neg<|λz=>e<|h1.trans z];exact⟨h1,h2⟩
theorem KV.put {eW:List (κ×V)}(r:KV eW vs)(k:κ)(ry:Í y u):KV (å eW k y) (stored vs k u):=by
 unfold å stored;rw[r.any k];by_cases e:(vs.any λkv=>decide<|kv.1=k)=Â
 ·rw[if_pos e,if_pos e];exact r.repl k ry
 ·rw[if_neg e,if_neg e];exact Paired.snoc r ⟨rfl,ry⟩
theorem KV.length {eW:List (κ×V)}(r:KV eW vs):eW.length=vs.length:=Paired.length r
end
theorem ID {w:dW}{k:jU}(r:Í (kV k) u):(jO P w).is k u=Â:=by
 cases k with
 |inl i=>obtain⟨t,e⟩:=(show∃t,u=b8.int i t from r);subst e;exact W7 P w i t
 |inr x=>obtain⟨t,e⟩:=(show∃t,u=b8.str x t from r);subst e;exact W8 P w x t
theorem PK {P:eG}{w:dW}:∀{ks:List jU} {us:List b8},dR (ks.map kV) us->ItemsAre (jO P w) ks us
 |[],_,r=>by rw[pf]at r;cases r;exact .nil
 |k::ks,_,r=>by
  rw[cI]at r;cases r with
  |cons h t=>exact .cons (ID h)<|PK t
abbrev KT (H:Hp):List (List jU×V)->List (List jU×cn×b8)->Prop:=Paired λp q=>p.1=q.1/\H q.2.1=Z (.tup<|p.1.map kV)/\Í p.2 q.2.2
variable {eW:List (List jU×V)}
theorem KT.val {xs:List (List jU×cn×b8)}(r:KT H eW xs)(k:List jU):p7 (oY eW k) ((xW xs k).map (·.2)):=by
 induction r with
 |nil=>exact True.intro
 |@cons p q ps qs h t ih=>
  obtain⟨h1,_,h2⟩:=h;by_cases e:p.1=k
  ·have e':q.1=k:=h1.symm.trans e;have b:xW (q::qs) k=Z q.2:=by simp[xW,eX,e']
   rw[Mt e,b];exact h2
  ·have e':¬q.1=k:=λz=>e<|h1.trans z;have b:xW (q::qs) k=xW qs k:=by simp[xW,eX,e']
   rw[Mu e,b];exact ih
theorem KT.repl {xs:List (List jU×cn×b8)}(r:KT H eW xs)(k:List jU)(ry:Í y u) :
  KT H (eW.map λkv=>if kv.1=k then(kv.1,y)else kv) (xs.map<|putAt k u):=by
 induction r with
 |nil=>exact .nil
 |@cons p q ps qs h t ih=>
  rw[cI,cI];refine .cons ?_ ih;obtain⟨h1,h2,h3⟩:=h;unfold putAt;by_cases e:p.1=k
  ·rw[if_pos e,if_pos<|h1.symm.trans e];exact⟨h1,h2,ry⟩
  ·rw[if_neg e,if_neg<|λz=>e<|h1.trans z];exact⟨h1,h2,h3⟩
variable {b:cn}
theorem KT.put {xs:List (List jU×cn×b8)}(r:KT H eW xs)(k:List jU)(hb:H b=Z (.tup<|k.map kV))(ry:Í y u) :
  KT H (å eW k y) (storedH xs k b u):=by
 have e:(eW.any λkv=>decide<|kv.1=k)=(xW xs k).isSome:=by rw[QE,(r.val k).isSome_eq,rC]
 unfold å storedH;rw[e];by_cases q:(xW xs k).isSome=Â
 ·rw[if_pos q,if_pos q];exact r.repl k ry
 ·rw[if_neg q,if_neg q];exact Paired.snoc r ⟨rfl,hb,ry⟩
theorem KT.keeps {xs:List (List jU×cn×b8)}(r:KT H eW xs)(ht:∀b ys,H b=Z (.tup ys)->H' b=Z (.tup ys)):KT H' eW xs :=
 Paired.mapP r λ_ _ z=>⟨z.1,ht _ _ z.2.1,z.2.2⟩
section
variable {w:dW}
theorem SX {u:HO}(ok:rg P w H h)(e:Rd H a u):gY P w H h a u:=e.ok ok
theorem Ge {eW:List (jU×V)}(ok:rg P w H h)(e:Rd H a<|.dK eW):eW.length<=sizeLine/\(a==iK)=Ã/\∃vs,KV eW vs/\h.DictOf (jO P w) a vs :=
 show gY P w H h a (.dK eW)from SX ok e
theorem Į {eW:List (jU×V)}(ok:rg P w H h)(e:H a=Z (.dK eW)):eW.length<=sizeLine/\(a==iK)=Ã/\∃vs,KV eW vs/\h.DictOf (jO P w) a vs:=Ge ok<|.inl e
theorem Io {ks:List jU}(ok:rg P w H h)(e:H a=Z (.tup<|ks.map kV)):(vA<|jO P w).is h ks a:=by obtain⟨_,dP,r,o,h1,h2,n,h3⟩:=(show gY P w H h a (.tup<|ks.map kV)from ok a _ e);exact⟨o,dP.toArray,n,h1,h2,h3,by simpa using PK r⟩
theorem IE (ok:rg P w H h)(e:Rd H a<|.dT eW):eW.length<=sizeLine/\(a==iK)=Ã /\
  ∃xs,KT H eW xs/\h.DictOfH (vA<|jO P w) a xs:=by
 obtain⟨z,y,xs,r,o,es,ep,h1,h2,h3,h4,h5⟩:=(show gY P w H h a (.dT eW)from SX ok e);refine⟨z,y,xs,r,o,es,ep,h1,h2,h3,h4,λx hx=>?_,h5⟩;have all:∀{l:List (List jU×V)} {m:List (List jU×cn×b8)},KT H l m->∀x∈m,(vA<|jO P w).is h x.1 x.2.1:=by
  intro l m q;induction q with
  |nil=>intro x hx;exact nomatch hx
  |@cons p q ps qs hq t ih=>
   intro x hx;rcases cu.mp hx with e|hx
   ·subst e;exact Io ok (by rw[←hq.1];exact hq.2.1)
   ·exact ih x hx
 exact all r x hx
theorem ĭ (ok:rg P w H h)(e:H a=Z (.dT eW)):eW.length<=sizeLine/\(a==iK)=Ã /\
  ∃xs,KT H eW xs/\h.DictOfH (vA<|jO P w) a xs:=IE ok<|.inl e
end
def tP (H:Hp)(a:cn)(y:V)(r:Option V):Prop :=
 (∃eW k,Rd H a (.dK eW)/\y=kV k/\r=oY eW k)\/∃eW k b,Rd H a (.dT eW)/\y=.ref b/\H b=Z (.tup<|k.map kV)/\r=oY eW k
def uP (H:Hp)(a:cn)(y v:V)(H':Hp):Prop :=
 (∃eW k,H a=Z (.dK eW)/\y=kV k/\eW.length<sizeLine/\H'=gK H a (.dK<|å eW k v)) \/
 ∃eW k b,H a=Z (.dT eW)/\y=.ref b/\H b=Z (.tup<|k.map kV)/\eW.length<sizeLine/\H'=gK H a (.dT<|å eW k v)
theorem tP.k {eW:List (jU×V)}{k:jU}(e:H a=Z (.dK eW)):tP H a (kV k) (oY eW k):=.inl ⟨eW,k,.inl e,rfl,rfl⟩
variable {v:V}
theorem uP.k {eW:List (jU×V)}{k:jU}(e:H a=Z (.dK eW))(hl:eW.length<sizeLine):uP H a (kV k) v (gK H a<|.dK<|å eW k v):=.inl ⟨eW,k,e,rfl,hl,rfl⟩
theorem uP.t {k:List jU}(e:H a=Z (.dT eW))(eb:H b=Z (.tup<|k.map kV))(hl:eW.length<sizeLine) :
  uP H a (.ref b) v (gK H a<|.dT<|å eW k v):=.inr ⟨eW,k,b,e,rfl,eb,hl,rfl⟩
variable {Q:b8->cF->Prop}{h':cO}{t':Nat}
section
variable {r:b8}{o:Option V}{A:d4}
theorem Ê.big (I:Ê X ce U H s):iK<s.heap.objs.size:=by have h:ee<s.heap.objs.size:=(I.mod.glob.keeps I.bk).lt;exact Nat.lt_trans (by decide) h
theorem Ye (hu:A.units+1<lW)(I:Ê X ce U H s)(g:tP H a y<|Z v)(ry:Í y u)(h:∀w' s',Ê X ce U H s'->Í v w'->Q w' s') :
  cW (c8 X.prog X.w) A (rW (.ref a) u) Q E s:=by
 rcases g with⟨eW,k,e,ey,l⟩|⟨eW,k,b,e,ey,eb,l⟩
 ·subst ey;obtain⟨z,hd,vs,rel,dd⟩:=Ge I.hok e;obtain⟨w',hw,wB⟩:=p7.some_of (v:=v) (o:=uH vs k) (by rw[l];exact rel.val k);exact wpAny_getItem_of (ID ry) dd.mapOf hw<|h w' _ (I.tok _) wB
 ·subst ey;cases(show u=b8.ref b from ry);obtain⟨z,hd,xs,rel,dd⟩:=IE I.hok e;obtain⟨w',hw,wB⟩:=p7.some_of (v:=v) (o:=(xW xs k).map (·.2)) (by rw[l];exact rel.val k);obtain⟨p,hp,FP⟩:=fO.mp hw;refine wpAny_getItem_heap (oG hu) (Io I.hok eb) dd hp ?_;rw[FP];exact h w' _ (I.tok _) wB
theorem Kn (hu:A.units+1<lW)(I:Ê X ce U H s)(g:tP H a y o)(ry:Í y u)(h:∀s',Ê X ce U H s'->Q (.bool o.isSome) s') :
  cW (c8 X.prog X.w) A (d6 .In u<|.ref a) Q E s:=by
 rcases g with⟨eW,k,e,ey,l⟩|⟨eW,k,b,e,ey,eb,l⟩
 ·subst ey;obtain⟨z,hd,vs,rel,dd⟩:=Ge I.hok e;refine wpAny_in_of (ID ry) hd dd.mapOf ?_;rw[←(rel.val k).isSome_eq,←l];exact h _<|I.tok _
 ·subst ey;cases(show u=b8.ref b from ry);obtain⟨z,hd,xs,rel,dd⟩:=IE I.hok e;refine wpAny_in_heap (oG hu) (Io I.hok eb) hd dd ?_;have q:=(rel.val k).isSome_eq;rw[rC]at q;rw[←q,←l];exact h _<|I.tok _
theorem zrm (hu:A.units+1<lW)(I:Ê X ce U H s)(g:tP H a y o)(ry:Í y u)(h:∀s',Ê X ce U H s'->Q (.bool<|!o.isSome) s') :
  cW (c8 X.prog X.w) A (d6 .NotIn u<|.ref a) Q E s:=by
 rcases g with⟨eW,k,e,ey,l⟩|⟨eW,k,b,e,ey,eb,l⟩
 ·subst ey;obtain⟨z,hd,vs,rel,dd⟩:=Ge I.hok e;refine wpAny_notIn_of (ID ry) hd dd.mapOf ?_;rw[←(rel.val k).isSome_eq,←l];exact h _<|I.tok _
 ·subst ey;cases(show u=b8.ref b from ry);obtain⟨z,hd,xs,rel,dd⟩:=IE I.hok e;refine wpAny_notIn_heap (oG hu) (Io I.hok eb) hd dd ?_;have q:=(rel.val k).isSome_eq;rw[rC]at q;rw[←q,←l];exact h _<|I.tok _
theorem Ri {ob:HO}(I:Ê X ce U H s)(mu:Gn<|H a)(hs:f7 a s.heap h')(he:∃q,h'.get? a=Z q)(new:gY X.prog X.w (gK H a ob) h' a ob) :
  Ê X ce U (gK H a ob) { s with heap:=h',toks:=t' } :=
 I.write (x:=a) (e:=a) mu (.inl rfl) (λb q hb z=>(hs.2 b hb).trans z) he new
theorem yQ {w:dW}{eW:List (jU×V)}{vs:List (jU×b8)}(z:eW.length<=sizeLine)(hd:(a==iK)=Ã)(rel:KV eW vs)(dd:h'.DictOf (jO P w) a vs) :
  gY P w H' h' a (.dK eW):=⟨z,hd,vs,rel,dd⟩
theorem Yf {Q:Unit->cF->Prop}(hu:A.units+1<lW)(I:Ê X ce U H s)(g:uP H a y v H')(ry:Í y u)(rv:Í v r)(h:∀s',Ê X ce U H' s'->Q () s') :
  cW (c8 X.prog X.w) A (uG (.ref a) u r) Q E s:=by
 rcases g with⟨eW,k,e,ey,l,eH⟩|⟨eW,k,b,e,ey,eb,l,eH⟩
 ·subst ey eH;obtain⟨z,hd,vs,rel,dd⟩:=Į I.hok e;have hz:vs.length<=sizeLine:=by rw[←rel.length];exact z
  have hl:(å eW k v).length<=sizeLine:=by have:=Pg eW k v;lia
  refine wpAny_setItem_pairs (hsz:=hz) (ID ry) dd λh' IM hs=>h _ ?_;have he:∃q,h'.get? a=Z q:=let⟨q,_,_,hq,_⟩:=IM;⟨q,hq⟩;exact Ri I (by rw[e];exact True.intro) hs he<|yQ hl hd (rel.put k rv) IM
 ·subst ey eH;cases(show u=b8.ref b from ry);obtain⟨z,hd,xs,rel,dd⟩:=ĭ I.hok e;have hz:xs.length<=sizeLine:=by rw[←Paired.length rel];exact z
  have hl:(å eW k v).length<=sizeLine:=by have:=Pg eW k v;lia
  refine wpAny_setItem_heap (hsz:=hz) (oG hu) (Io I.hok eb) dd λh' IM hs=>h _ ?_;obtain⟨q,es,ep,hq,h2,h3,h4,_,h5⟩:=IM;refine Ri I (by rw[e];exact True.intro) hs ⟨q,hq⟩ ⟨hl,hd,_,(rel.put k eb rv).keeps λc ys ec=>?_,q,es,ep,hq,h2,h3,h4,h5⟩;rw[zu<|ĸ ec e<|λz=>nomatch z];exact ec
end
section
variable {eW:List (jU×V)}{k:jU}{A:d4}
theorem Ĭ (I:Ê X ce U H s)(e:Rd H a<|.dK eW)(h:∀t s',Ê X ce U H s'->Q (.int eW.length t) s'):cW (c8 X.prog X.w) A (call (.builtin "len") [.ref a]) Q E s:=by obtain⟨z,hd,vs,rel,dd⟩:=Ge I.hok e;refine call_len_dict hd dd (by rw[←rel.length];rw[eJ]at z;lia) ?_;rw[←rel.length];exact h _ _<|I.tok _
end
def yN (i:Expr):Prop:=∀ov iv,vQ i Ã ov iv=operate [ov,iv] (rW ov iv)
variable {T:String}{value:Expr}
theorem MQ {prog:eG}{w:dW}{A:d4}{env:Env}{slice:Expr}{id:String}
  (hl:xZ (.type T) "__getitem__"=pure (Z<|.builtin id)) (hs:yN slice)
  (h:cW (c8 prog w) A (fB value env) (λo s₁=>cW (c8 prog w) A (fB slice env) (λi s₂=>s₂.TypeIs o T/\cW (c8 prog w) A (rW o i) Q E s₂) E s₁) E s) :
  cW (c8 prog w) A (fB (.Subscript value slice pos) env) Q E s:=by
 refine Subscript_<|gF h (λo s₁ h₁=>gF h₁ (λi s₂ h₂=>?_) λ_ _ x=>x) λ_ _ x=>x;obtain⟨hT,h₂⟩:=h₂;unfold subscriptTail;refine cy ?_;rw[getitemInPython_of_ne hT.not_modules];refine cy<|wL hT hl ?_;have fin:cW (c8 prog w) A (vQ slice Ã o i) (λr s₃=>cW (c8 prog w) A (letTemporaryGo value o r >>= λ_=>pure r) Q E s₃) E s₂:=by rw[hs o i];exact wpAny_operating<|gF h₂ (λr s₃ h₃=>cy<|wpAny_letTemporaryGo<|di h₃) λ_ _ x=>x
 first
  |exact di<|cy fin
  |exact cy<|di<|cy fin
  |exact cy fin
theorem Xb {o:Option V}(I:Ê X ce U H s)(g:tP H a y o):s.TypeIs (.ref a) "dict":=by
 rcases g with⟨eW,k,e,_,_⟩|⟨eW,k,b,e,_,_,_⟩
 ·obtain⟨_,_,vs,_,dd⟩:=Ge I.hok e;exact dd.typeIs
 ·obtain⟨_,_,xs,_,dd⟩:=IE I.hok e;exact dd.typeIs
def HR (td ty:TE):TE:=λU H Q=>td U H λx H1=>ty U H1 λy H2=>∃a v,x=.ref a/\tP H2 a y (Z v)/\Q v H2
def LU (ty td:TE):TE:=λU H Q=>ty U H λy H1=>td U H1 λx H2=>∃a o,x=.ref a/\tP H2 a y o/\Q (.bl o.isSome) H2
def Dr (ty td:TE):TE:=λU H Q=>ty U H λy H1=>td U H1 λx H2=>∃a o,x=.ref a/\tP H2 a y o/\Q (.bl<|!o.isSome) H2
def HM (td ty tv:TE):TS:=λD U H=>tv U H λv H1=>td U H1 λx H2=>ty U H2 λy H3=>∃a H4,x=.ref a/\uP H3 a y v H4/\D.nx U H4
variable {pos' mD:qP}{ty:TE}
section
variable {i:Expr}{td tv:TE}
theorem zrn (hu:X.A.units+1<lW)(ho:PE X o td)(hi:PE X i ty)(hs:yN i):PE X (.Subscript o i pos) (HR td ty):=by intro ce s U H Q I h;refine MQ PySem.F.slot_dict_getitem.lookup hs<|fU (ho ce s U H _ I h) λu s1 ⟨x,H1,I1,rx,q1⟩=>fU (hi ce s1 U H1 _ I1 q1) λiv s2 gx=>?_;obtain⟨y,H2,I2,ry,a,v,ex,g,q2⟩:=gx;subst ex;obtain rfl:u=b8.ref a:=rx;exact⟨Xb I2 g,Ye hu I2 g ry λw' s3 I3 wB=>⟨v,H2,I3,wB,q2⟩⟩
theorem ϔ (hu:X.A.units+1<lW)(hi:PE X i ty)(ho:PE X o td):PC X .In i o (LU ty td):=by intro ce s U H Q I h;refine fU (hi ce s U H _ I h) λiv s1 ⟨y,H1,I1,ry,q1⟩=>fU (ho ce s1 U H1 _ I1 q1) λu s2 gx=>?_;obtain⟨x,H2,I2,rx,a,ov,ex,g,q2⟩:=gx;subst ex;obtain rfl:u=b8.ref a:=rx;exact Kn hu I2 g ry λs3 I3=>⟨.bl ov.isSome,H2,I3,rfl,q2⟩
theorem Yg (hu:X.A.units+1<lW)(hi:PE X i ty)(ho:PE X o td):PC X .NotIn i o (Dr ty td):=by intro ce s U H Q I h;refine fU (hi ce s U H _ I h) λiv s1 ⟨y,H1,I1,ry,q1⟩=>fU (ho ce s1 U H1 _ I1 q1) λu s2 gx=>?_;obtain⟨x,H2,I2,rx,a,ov,ex,g,q2⟩:=gx;subst ex;obtain rfl:u=b8.ref a:=rx;exact zrm hu I2 g ry λs3 I3=>⟨.bl<|!ov.isSome,H2,I3,rfl,q2⟩
theorem Rj (hu:X.A.units+1<lW)(ho:PE X o td)(hi:PE X i ty)(hv:PE X value tv)(hs:iF value (Z<|.Subscript o i pos') pos.line X.env=pure Ã) :
  PS X (.Assign [.Subscript o i pos'] value pos) (HM td ty tv):=by
 intro ce s U H D I h;refine wpAny_Assign_Subscript (fU (hv ce s U H _ I h) λr s1 ⟨v,H1,I1,rv,q1⟩=>fU (ho ce s1 U H1 _ I1 q1) λu s2 ⟨x,H2,I2,rx,q2⟩=>fU (hi ce s2 U H2 _ I2 q2) λiv s3 hq=>?_) hs;obtain⟨y,H3,I3,ry,a,H4,ex,g,q3⟩:=hq;subst ex;obtain rfl:u=b8.ref a:=rx;exact Yf hu I3 g ry rv λs4 I4=>⟨U,H4,I4,q3⟩
end
theorem Y4 {w:dW}(h:cO)(hb:iK<h.objs.size):gY P w H (h.push { cls:=.type "dict",data:=.dict #[] }) h.objs.size (.dK []) :=
  ⟨fI _,beq_eq_false_iff_ne.mpr<|Ne.symm<|dG hb,[],.nil,cO.DictOf.new h⟩
def Fe:TE:=λ_ H Q=>∀p,H p=C->Q (.ref p) (gK H p<|.dK [])
theorem Y5:PE X (.Dict [] [] pos) Fe:=λce s U H Q I h=>wpAny_Dict_empty ⟨.ref s.heap.objs.size,_,I.laid (a:=s.heap.objs.size) (o:=.dK []) (t':=s.toks) (λ_ _ q=>cv _ q) (cK _)<|Y4 s.heap I.big,rfl,h _<|I.hok.fresh<|cK _⟩
def Tp (H:Hp)(a:cn):Prop:=(∃eW,Rd H a<|.dK eW)\/∃eW,Rd H a (.dT eW)
theorem Yh:iL X (.builtin "len") (λxs H Q=>∃a eW,xs=[V.ref a]/\H a=Z (.dK eW)/\Q (.int eW.length) H):=by intro ce s U H xs us Q I r h;obtain⟨a,eW,rfl,ha,q⟩:=h;obtain⟨u,rfl,ru⟩:=sN r;cases ru;exact Ĭ I (.inl ha) λt s' I'=>⟨.int eW.length,H,I',⟨t,rfl⟩,q⟩
def Sz (n:Nat)(i:Int):Prop:=i.natAbs<2 ^ n
theorem Sz.bits {i:Int}(h:Sz n i):Builtin.Int.intBits i<=n:=by
 unfold Builtin.Int.intBits;by_cases h0:(i==0)=Â
 ·rw[if_pos h0];exact fI _
 ·rw[if_neg h0];have hi:i.natAbs≠0:=by
   have:i≠0:=by simpa using h0
   lia
  exact Nat.succ_le_of_lt<|(qE hi).mpr h
theorem Sz.log {i:Int}(h:Sz n i)(hn:0<n):i.natAbs.log2<n:=by
 by_cases hi:i.natAbs=0
 ·rw[hi];exact hn
 ·exact(qE hi).mpr h
theorem Sz.mono {m:Nat}{i:Int}(h:Sz n i)(hm:n<=m):Sz m i:=dg h (gu (by decide) hm)
theorem Sz.le {i j:Int}(h:Sz n i)(hj:j.natAbs<=i.natAbs):Sz n j:=nz hj h
theorem Sz.mul {m:Nat}{i j:Int}(h:Sz n i)(h':Sz m j):Sz (n+m) (i*j):=by unfold Sz at *;rw[DH,Nat.pow_add];exact Nat.mul_lt_mul'' h h'
theorem Sz.add {i j:Int}(h:Sz n i)(h':Sz n j):Sz (n+1) (i+j):=by unfold Sz at *;rw[pD];lia
theorem Sz.sub {i j:Int}(h:Sz n i)(h':Sz n j):Sz (n+1) (i-j):=by unfold Sz at *;rw[pD];lia
def vC (i j:Int):Prop:=Ex i j\/(Sz 100000 i/\Sz 100000 j)
theorem vC.ok {i j:Int}(h:vC i j):IntMulOk i j:=by
 rcases h with h|h
 ·exact h.ok
 ·exact IntMulOk.of_bits (eD h.1.bits<|by decide) (eD h.2.bits<|by decide)
theorem zro:k9 X (ik .Mult) (rI vC λi j=>.int<|i*j):=FX λ_ _ _ _ _ _ _ hc q=>mul_int q hc.ok
theorem YJ:k9 X (ik .FloorDiv) (rI (λ_ j=>j≠0/\Sz 9000 j) λi j=>.int<|i.fdiv j) :=
 FX λ_ _ _ _ _ _ _ hc q=>floordiv_int hc.1 q (.inl<|PyProof.noPylong_of_log2<|hc.2.log<|by decide)
theorem Í.bool_iff {x:V}{v:b8}{b:Bool}(r:Í x v):(v==b8.bool b)=decide (x=.bl b):=by
 cases x with
 |bl c=>
  cases(show v=b8.bool c from r);by_cases h:c=b
  ·subst h;simp
  ·have h1:¬V.bl c=V.bl b:=λz=>h<|V.bl.inj z;rw[decide_eq_false h1];exact beq_eq_false_iff_ne.mpr λz=>h (by injection z)
 |non=>cases(show v=b8.none from r);rw[decide_eq_false<|λz=>nomatch z];exact beq_eq_false_iff_ne.mpr λz=>nomatch z
 |int i=>obtain⟨t,rfl⟩:=(show∃t,v=b8.int i t from r);rw[decide_eq_false<|λz=>nomatch z];exact beq_eq_false_iff_ne.mpr λz=>nomatch z
 |str i=>obtain⟨t,rfl⟩:=(show∃t,v=b8.str i t from r);rw[decide_eq_false<|λz=>nomatch z];exact beq_eq_false_iff_ne.mpr λz=>nomatch z
 |byt i=>obtain⟨t,rfl⟩:=(show∃t,v=b8.bytes i t from r);rw[decide_eq_false<|λz=>nomatch z];exact beq_eq_false_iff_ne.mpr λz=>nomatch z
 |flt i=>obtain⟨t,rfl⟩:=(show∃t,v=b8.float i t from r);rw[decide_eq_false<|λz=>nomatch z];exact beq_eq_false_iff_ne.mpr λz=>nomatch z
 |ref i=>cases(show v=b8.ref i from r);rw[decide_eq_false<|λz=>nomatch z];exact beq_eq_false_iff_ne.mpr λz=>nomatch z
 |ty i=>cases(show v=b8.type i from r);rw[decide_eq_false<|λz=>nomatch z];exact beq_eq_false_iff_ne.mpr λz=>nomatch z
theorem O8 {x:V}{v:b8}{b:Bool}(r:Í x v):plainIs v (.bool b)=Â:=by
 cases x with
 |bl c=>cases(show v=b8.bool c from r);rfl
 |non=>cases(show v=b8.none from r);rfl
 |int i=>obtain⟨t,rfl⟩:=(show∃t,v=b8.int i t from r);rfl
 |str i=>obtain⟨t,rfl⟩:=(show∃t,v=b8.str i t from r);rfl
 |byt i=>obtain⟨t,rfl⟩:=(show∃t,v=b8.bytes i t from r);rfl
 |flt i=>obtain⟨t,rfl⟩:=(show∃t,v=b8.float i t from r);rfl
 |ref i=>cases(show v=b8.ref i from r);rfl
 |ty i=>cases(show v=b8.type i from r);rfl
theorem ϓ:k9 X (d6 .Is) (λx y H Q=>∃b,y=.bl b/\Q (.bl<|decide<|x=.bl b) H):=by intro ce s U H x y v u Q I rx ry h;obtain⟨b,rfl,q⟩:=h;cases ry;exact wpAny_is_plain (O8 rx)<|JX I q (Í.bool_iff rx).symm
theorem Yi:k9 X (d6 .IsNot) (λx y H Q=>∃b,y=.bl b/\Q (.bl<|!decide (x=.bl b)) H):=by intro ce s U H x y v u Q I rx ry h;obtain⟨b,rfl,q⟩:=h;cases ry;exact wpAny_isNot_plain (O8 rx) (JX I q<|by rw[Í.bool_iff rx])
theorem YK:iL X (.builtin "isinstance") (λxs H Q=>∃x c t b,xs=[x,.ty c]/\qS X.K H x t/\iD X.K t (.type c)=Z b/\Q (.bl b) H):=by intro ce s U H xs us Q I r h;obtain⟨x,c,t,b,rfl,ty,e,q⟩:=h;obtain⟨u,w',rfl,ru,wB⟩:=ô r;cases(show w'=b8.type c from wB);exact PR I ru ty e λtk=>⟨.bl b,H,I.tok tk,rfl,q⟩
theorem Yj:iL X (.builtin "isinstance") (λxs H Q=>∃x V' t b,xs=[x,.ref V']/\qS X.K H x t/\iD X.K t (.ref V')=Z b/\Q (.bl b) H):=by intro ce s U H xs us Q I r h;obtain⟨x,c,t,b,rfl,ty,e,q⟩:=h;obtain⟨u,w',rfl,ru,wB⟩:=ô r;cases(show w'=b8.ref c from wB);exact PR I ru ty e λtk=>⟨.bl b,H,I.tok tk,rfl,q⟩
mutual
inductive Dt (K:b9)(H:Hp):V->df->Prop
 |non:Dt K H .non .none
 |bl (b:Bool):Dt K H (.bl b) (.bool b)
 |int (i:Int):Dt K H (.int i) (.int i)
 |str (x:Str):Dt K H (.str x) (.str x)
 |lst {a:cn} {xs:List V} {O:List df}:jJ K H a xs->ä K H xs O->Dt K H (.ref a) (.list O)
 |tup {a:cn} {xs:List V} {O:List df}:p9 K H a xs->ä K H xs O->Dt K H (.ref a) (.tuple O)
inductive ä (K:b9)(H:Hp):List V->List df->Prop
 |nil:ä K H [] []
 |cons {v:V} {d:df} {vs:List V} {O:List df}:Dt K H v d->ä K H vs O->ä K H (v::vs) (d::O)
end
mutual
theorem Dt.reads (I:Ê X ce U H s):∀{v:V} {d:df} {u:b8},Dt X.K H v d->Í v u->∃J,Reads s.heap u d J
 |_,_,_,.non,r=>by cases r;exact⟨_,.none⟩
 |_,_,_,.bl b,r=>by cases r;exact⟨_,.bool b⟩
 |_,_,_,.int i,r=>by obtain⟨t,rfl⟩:=r;exact⟨_,.int i t⟩
 |_,_,_,.str x,r=>by obtain⟨t,rfl⟩:=r;exact⟨_,.str x t⟩
 |_,_,_,.lst hq O,r=>by obtain⟨dP,rv,⟨o,n,e,c,_,dd⟩,_⟩:=I.list hq;obtain⟨J,ra⟩:=ä.reads I O rv;cases r;exact⟨_,.list e c dd<|by simpa using ra⟩
 |_,_,_,.tup hq O,r=>by obtain⟨dP,rv,⟨o,e,c,n,dd⟩,_⟩:=I.tuple hq;obtain⟨J,ra⟩:=ä.reads I O rv;cases r;exact⟨_,.tuple e c dd<|by simpa using ra⟩
theorem ä.reads (I:Ê X ce U H s):∀{vs:List V} {O:List df} {us:List b8},ä X.K H vs O->dR vs us->∃J,ReadsAll s.heap us O J
 |_,_,_,.nil,r=>by cases r;exact⟨_,.nil⟩
 |_,_,_,.cons h t,r=>by
  cases r with
  |cons p q=>obtain⟨J,ra⟩:=Dt.reads I h p;obtain⟨bs,rb⟩:=ä.reads I t q;exact⟨_,.cons ra rb⟩
end
def E7 (K:b9)(neg:Bool):R2:=λx y H Q=>∃d e,Dt K H x d/\Dt K H y e/\d.canLay0=Â/\e.canLay0=Â/\min d.depth e.depth<=60/\Q (.bl<|if neg then !df.eqv d e else df.eqv d e) H
theorem Nc (hu:X.A.units+64<lW):k9 X (d6 .Eq) (E7 X.K Ã):=by intro ce s U H x y v u Q I rx ry h;obtain⟨d,e,hd,he,c1,c2,dp,q⟩:=h;obtain⟨J,ra⟩:=hd.reads I rx;obtain⟨bs,rb⟩:=he.reads I ry;exact SeqAt.compareEq_reads ra rb c1 c2 (by lia) ⟨.bl _,H,I,rfl,q⟩
theorem JY (hu:X.A.units+64<lW):k9 X (d6 .NotEq) (E7 X.K Â):=by intro ce s U H x y v u Q I rx ry h;obtain⟨d,e,hd,he,c1,c2,dp,q⟩:=h;obtain⟨J,ra⟩:=hd.reads I rx;obtain⟨bs,rb⟩:=he.reads I ry;exact SeqAt.compareNe_reads ra rb c1 c2 (by lia) ⟨.bl _,H,I,rfl,q⟩
theorem vb {p:cn}(h:H p=C)(o:HO):dQ H (gK H p o):=λb u q=>by rw[zu<|zx q h];exact q
theorem fY.u64 {k:Nat}{A:d4}(r:fY k A):A.units+64<lW:=r.units
theorem ú (h:n<=1000):n<=sizeLine:=su<|AM h
section
open PySem
theorem jk:d5 "int"=Z (.type "int"):=by decide +kernel
theorem v6:d5 "str"=Z (.type "str"):=by decide +kernel
theorem zrp:d5 "bool"=Z (.type "bool"):=by decide +kernel
theorem Ih:d5 "list"=Z (.type "list"):=by decide +kernel
theorem ϒ:d5 "len"=Z (.builtin "len"):=by decide +kernel
theorem Si:d5 "abs"=Z (.builtin "abs"):=by decide +kernel
theorem Sm:d5 "max"=Z (.builtin "max"):=by decide +kernel
theorem Ip:d5 "sum"=Z (.builtin "sum"):=by decide +kernel
theorem jm:d5 "isinstance"=Z (.builtin "isinstance"):=by decide +kernel
theorem Yk:d5 "sorted"=Z (.builtin "sorted"):=by decide +kernel
theorem Gb:d5 "all"=Z (.builtin "all"):=by decide +kernel
end
variable {rh iter:Expr}{ifs:List Expr}{scope:rR}
section
variable {prog:eG}{w:dW}{A:d4}
theorem Ww {target:Expr}{it nq:b8}{env:Env}(I:Nat->cF->Prop)
  (zJ:∀n s,I n s->cW (c8 prog w) A (pyNext it) (λr s₁=>match r with
   |none=>R (.ok .next) s₁
   |some v=>cW (c8 prog w) A (nB target it v) (λ_ OP=>cW (c8 prog w) A (mG target env v) (λ_ s₂=>
     cW (c8 prog w) A (forIn ifs Â λc r=>if r=Â then do let ok ← xX c env (fB c env);pure (ForInStep.yield ok)else pure (ForInStep.yield r)) (λok s₃=>
      if ok=Â then cW (c8 prog w) A (fB rh env) (λx s₄=>cW (c8 prog w) A (call (.builtin "list.append") [nq,x]) (λ_ s₅=>∃m,m<n/\I m s₅) (λ_ _=>False) s₄) (λ_ _=>False) s₃
      else∃m,m<n/\I m s₃) (λ_ _=>False) s₂) (λ_ _=>False) OP) (λ_ _=>False) s₁) (λ_ _=>False) s)
  (n:Nat) (h:I n s) :
  n4 (c8 prog w) A (.compLoop (.ListComp rh [⟨target,iter,ifs,0⟩] scope pos) 0 it nq env) R s:=by
 have up:∀{α:Type} {m:DM α} {Q:α->cF->Prop} {E:b8->cF->Prop} {s:cF},cW (c8 prog w) A m Q (λ_ _=>False) s->cW (c8 prog w) A m Q E s:=λh=>gF h (λ_ _ q=>q) λ_ _ f=>f.elim;refine codeAny_loop rfl I (λn s hI=>?_) n h;show cW _ A ((compTurn (.ListComp rh [⟨target,iter,ifs,0⟩] scope pos) 0 it nq env).onRaise (λx=>do noteFrame x env;theTreesLotGoes x)) _ _ s;refine wpAny_noted ?_;rw[compTurn_list];refine cy<|pF<|cy<|gF (up<|zJ n s hI) (λr s₁ h₁=>?_) λ_ _ h'=>h';cases r with
 |none=>exact di h₁
 |some v=>
  refine cy<|gF (up h₁) (λ_ OP U1=>?_) λ_ _ h'=>h';refine cy<|gF (up U1) (λ_ s₂ h₂=>cy<|gF (up h₂) (λok s₃ h₃=>?_) λ_ _ h'=>h') λ_ _ h'=>h';cases ok with
  |false=>exact di ⟨rfl,h₃⟩
  |true=>exact cy<|cy<|gF (up h₃) (λx s₄ h₄=>cy<|gF (up h₄) (λ_ s₅ h₅=>di<|di ⟨rfl,h₅⟩) λ_ _ h'=>h') λ_ _ h'=>h'
end
theorem qd {env:Env}:∀(names:List<|Str×dA) (nq:List<|Str×cn),(∀x∈names,x.2=.free->∃c,env.cells.lookup x.1=Z c)->(∀y c,nq.lookup y=Z c->env.cells.lookup y=Z c) ->
  ∃cl,(forIn names nq λ(x:Str×dA) (cs:List<|Str×cn)=>if(x.2==dA.free)=Â then do let a ← cellOf env x.1;pure (ForInStep.yield ((x.1,a)::cs))else pure (ForInStep.yield cs):DM (List<|Str×cn))=pure cl /\
   (∀y c,cl.lookup y=Z c->env.cells.lookup y=Z c)/\(∀x∈names,x.2=.free->∃c,cl.lookup x.1=Z c)/\∀y c,nq.lookup y=Z c->∃c',cl.lookup y=Z c'
 |[],nq,_,ha=>⟨nq,rfl,ha,λ_ h=>(nomatch h),λy c h=>⟨c,h⟩⟩
 |(n,k)::r,nq,hn,ha=>by
  by_cases hk:k=.free
  ·subst hk;obtain⟨c,hc⟩:=hn (n,.free) b7 rfl;have e1:cellOf env n=pure c:=by unfold cellOf;rw[hc]
   have Us:∀y d,((n,c)::nq).lookup y=Z d->env.cells.lookup y=Z d:=λy d h=>by
    rw[dc]at h;cases hy:y==n with
    |true=>rw[hy]at h;have:y=n:=eq_of_beq hy;subst this;cases h;exact hc
    |false=>rw[hy]at h;exact ha y d h
   obtain⟨cl,h1,h2,h3,h4⟩:=qd r ((n,c)::nq) (λx hx=>hn x<|cj _ hx) Us;refine⟨cl,?_,h2,?_,?_⟩
   ·rw[tM];simp only[beq_self_eq_true,if_true,e1,pure_bind];exact h1
   ·intro x hx hf;rcases cu.mp hx with rfl|hx
    ·exact h4 n c (by rw[dc,beq_self_eq_true])
    ·exact h3 x hx hf
   ·intro y d hy;cases hb:y==n with
    |true=>exact h4 y c (by rw[dc,hb])
    |false=>exact h4 y d (by rw[dc,hb];exact hy)
  ·have hb:(k==dA.free)=Ã:=by simpa using hk
   obtain⟨cl,h1,h2,h3,h4⟩:=qd r nq (λx hx=>hn x<|cj _ hx) ha;refine⟨cl,?_,h2,?_,h4⟩
   ·rw[tM];simp only[hb,fX,if_false,pure_bind];exact h1
   ·intro x hx hf;rcases cu.mp hx with rfl|hx
    ·exact absurd hf hk
    ·exact h3 x hx hf
theorem JO (n:Nat)(a:Str)(r:List<|Str×dA)(nq:List<|Str×cn):cellsFrom n ((a,.cell)::r) nq=cellsFrom (n+1) r ((a,n)::nq):=rfl
theorem JZ {k:dA}(hk:k≠.cell)(n:Nat)(a:Str)(r:List<|Str×dA)(nq:List<|Str×cn):cellsFrom n ((a,k)::r) nq=cellsFrom n r nq:=by cases k<;>first|rfl|exact absurd rfl hk
noncomputable def pO (names:List<|Str×dA):Nat:=(names.filter λy=>y.2==dA.cell).length
theorem MR (a:Str)(r:List<|Str×dA):pO ((a,.cell)::r)=pO r+1:=by unfold pO;rw[wI<|by rfl,cz]
theorem Sn {k:dA}(hk:k≠.cell)(a:Str)(r:List<|Str×dA):pO ((a,k)::r)=pO r:=by unfold pO;rw[wH<|by simpa using hk]
theorem Gf:∀(names:List<|Str×dA) (n:Nat) (nq:List<|Str×cn) {x:Str} {c:Nat},(cellsFrom n names nq).lookup x=Z c->(n<=c/\c<n+pO names/\(x,dA.cell)∈names)\/(nq.lookup x=Z c/\(x,dA.cell)∉names)
 |[],_,_,_,_,h=>.inr ⟨h,by simp⟩
 |(a,k)::r,n,nq,x,c,h=>by
  by_cases hk:k=.cell
  ·subst hk;rw[JO]at h;rcases Gf r (n+1) _ h with⟨h1,h2,h3⟩|⟨h1,h2⟩
   ·refine .inl ⟨by lia,?_,cj _ h3⟩;rw[MR];lia
   ·rw[dc]at h1;cases hx:x==a with
    |true=>rw[hx]at h1;cases h1;refine .inl ⟨cK _,?_,by rw[eq_of_beq hx];exact b7⟩;rw[MR];lia
    |false=>
     rw[hx]at h1;refine .inr ⟨h1,λz=>?_⟩;rcases cu.mp z with z|z
     ·cases z;simp at hx
     ·exact h2 z
  ·rw[JZ hk]at h;have hf:=Sn hk a r;rw[hf];rcases Gf r n _ h with⟨h1,h2,h3⟩|⟨h1,h2⟩
   ·exact .inl ⟨h1,h2,cj _ h3⟩
   ·refine .inr ⟨h1,λz=>?_⟩;rcases cu.mp z with z|z
    ·cases z;exact hk rfl
    ·exact h2 z
theorem Nd:∀(names:List<|Str×dA) (n:Nat) (nq:List<|Str×cn) {x:Str},(x,dA.cell)∉names->(cellsFrom n names nq).lookup x=nq.lookup x
 |[],_,_,_,_=>rfl
 |(a,k)::r,n,nq,x,h=>by
  have hr:(x,dA.cell)∉r:=λz=>h<|cj _ z;by_cases hk:k=.cell
  ·subst hk;rw[JO,Nd r _ _ hr,dc];cases hx:x==a with
   |true=>exact absurd (by rw[eq_of_beq hx];exact b7) h
   |false=>rfl
  ·rw[JZ hk,Nd r _ _ hr]
theorem Nf:∀(names:List<|Str×dA) (n:Nat) (nq:List<|Str×cn),(∀x y c,nq.lookup x=Z c->nq.lookup y=Z c->x=y)->(∀x c,nq.lookup x=Z c->c<n)->∀x y c,(cellsFrom n names nq).lookup x=Z c->(cellsFrom n names nq).lookup y=Z c->x=y
 |[],_,_,h,_=>h
 |(a,k)::r,n,nq,h,hb=>by
  by_cases hk:k=.cell
  ·subst hk;rw[JO];refine Nf r (n+1) _ (λx y c e e'=>?_) λx c e=>?_
   ·rw[dc]at e e';cases hx:x==a with
    |true=>
     rw[hx]at e;cases e;cases hy:y==a with
     |true=>rw[eq_of_beq hx,eq_of_beq hy]
     |false=>rw[hy]at e';exact absurd (hb _ _ e')<|iC _
    |false=>
     rw[hx]at e;cases hy:y==a with
     |true=>rw[hy]at e';cases e';exact absurd (hb _ _ e)<|iC _
     |false=>rw[hy]at e';exact h x y c e e'
   ·rw[dc]at e;cases hx:x==a with
    |true=>rw[hx]at e;cases e;exact oZ _
    |false=>rw[hx]at e;exact oj<|hb _ _ e
  ·rw[JZ hk];exact Nf r n nq h hb
theorem qf {U':Model}{A:d4}{E:b8->cF->Prop}:∀(names:List<|Str×dA) (cells:List<|Str×cn) (s:cF) (Q:List (Str×cn)->cF->Prop),
    (∀h':cO,(∀b o,s.heap.get? b=Z o->h'.get? b=Z o)->(∀c,s.heap.objs.size<=c->c<s.heap.objs.size+pO names->h'.IsCell c C)->Q (cellsFrom s.heap.objs.size names cells) { s with heap:=h' }) ->
    cW U' A (forIn names cells λ(x:Str×dA) (cells:List<|Str×cn)=>if(x.2==dA.cell)=Â then do let a ← alloc { cls:=b8.type "cell",data:=qW.cell C };pure (ForInStep.yield ((x.1,a)::cells))else pure (ForInStep.yield cells)) Q E s
  |[],cells,s,Q,h=>by have:=h s.heap (λ_ _ e=>e) (λc h1 h2=>by rw[show pO []=0 from rfl]at h2;lia);rw[CM];exact di this
  |(a,k)::r,cells,s,Q,h=>by
    rw[tM];by_cases hk:k=.cell
    · subst hk;simp only[beq_self_eq_true,if_true,bind_assoc,pure_bind];refine cy<|wpAny_alloc ?_;have ih:=qf (U':=U') (A:=A) (E:=E) r ((a,s.heap.objs.size)::cells) { s with heap:=s.heap.push { cls:=b8.type "cell",data:=qW.cell C } } Q (λh' k1 k2=>by
        have hz:(s.heap.push { cls:=b8.type "cell",data:=qW.cell C }).objs.size=s.heap.objs.size+1:=gH _ _;have:=h h' (λb o e=>k1 b o<|cv _ e) (λc h1 h2=>by
          rw[MR]at h2;by_cases hc:c=s.heap.objs.size
          · subst hc;exact⟨_,k1 _ _<|cV _ rfl,rfl⟩
          · exact k2 c (by show(s.heap.push _).objs.size<=c;rw[hz];lia) (by show c<(s.heap.push _).objs.size+_;rw[hz];lia))
        rw[JO]at this;have e:(({ s with heap:=s.heap.push { cls:=b8.type "cell",data:=qW.cell C } }:cF)).heap.objs.size=s.heap.objs.size+1:=hz;rw[e];exact this)
      exact ih
    · have hb:(k==dA.cell)=Ã:=by simpa using hk
      simp only[hb,fX,if_false,pure_bind];refine qf r cells s Q λh' k1 k2=>?_;have hf:=Sn hk a r;have:=h h' k1 (by rw[hf];exact k2);rw[JZ hk]at this;exact this
variable {qual:Str}
theorem Wx {A:d4}{globals:cn}{closure:List (Str×cn)}{code:b8}{out:Env}{builtins:cn}{Q:Env->cF->Prop}
    (h:∀h':cO,(∀b o,s.heap.get? b=Z o->h'.get? b=Z o)->h'.Ns s.heap.objs.size (λ_=>C)->(∀c,s.heap.objs.size+1<=c->c<s.heap.objs.size+1+pO scope.names->h'.IsCell c C) ->
      Q (newEnv scope s.heap.objs.size globals (cellsFrom (s.heap.objs.size+1) scope.names closure) qual C code (Z out) builtins) { s with heap:=h' }) :
    cW U' A (xY scope globals closure [] qual C code (Z out) builtins) Q E s:=by
  unfold xY;refine cy<|wpAny_alloc ?_;have hz:(s.heap.push { cls:=b8.type "dict",data:=qW.dict #[] }).objs.size=s.heap.objs.size+1:=gH _ _;refine cy<|qf scope.names closure { s with heap:=s.heap.push { cls:=b8.type "dict",data:=qW.dict #[] } } _ λh' k1 k2=>?_;have Jk:(({ s with heap:=s.heap.push { cls:=b8.type "dict",data:=qW.dict #[] } }:cF)).heap.objs.size=s.heap.objs.size+1:=hz;rw[Jk]at k2 ⊢;dsimp only;rw[CM];refine cy<|di<|di ?_;exact h h' (λb o e=>k1 b o<|cv _ e) ((cO.Ns.new s.heap _).keeps k1) k2
def pw (X:Cx)(scope:rR)(cl:List<|Str×cn)(N:List Str)(V':cn)(fp:List cn)(s₀:cF)(H₀:Hp):Cx :=
 { X with N:=N,s₀:=s₀,H₀:=H₀,env:=compEnvC scope cl V' X.env,outer:=X.stack,stack:=X.stack,ex:=fp,fn:=λx=>scope.names.lookup x==Z .cell,pn:=[],xe:=λ_ _=>False }
structure qF (X:Cx)(scope:rR)(N:List Str)(own:Nat)(cap:List Nat):Prop where
 kind:scope.kind=.function
 cells:∀x∈scope.names,x.2=.cell->scope.names.lookup x.1=Z .cell
 locs:∀x∈scope.names,x.2=.local->scope.names.lookup x.1=Z .local
 free:∀x∈scope.names,x.2=.free->X.env.kindOf x.1=Z .cell\/X.env.kindOf x.1=Z .free
 len:N.length=own+cap.length
 caps:∀(j:Nat) (x:Str),N[own+j]?=Z x->∃i,cap[j]?=Z i/\X.N[i]?=Z x/\(scope.names.lookup x=Z .free)
variable {α β:Type}
theorem uq {α β:Type}[BEq α][LawfulBEq α]{x:α}{y:β}:∀{l:List (α×β)},l.lookup x=Z y->(x,y)∈l
 |[],h=>by simp at h
 |(a,b)::r,h=>by
  rw[dc]at h;cases hb:x==a with
  |true=>rw[hb]at h;cases h;rw[eq_of_beq hb];exact b7
  |false=>rw[hb]at h;exact cj _<|uq h
theorem O9 {env:Env}{x:Str}:∀{names:List (Str×dA)},names.lookup x=Z .free ->
  (names.map λ(n,k)=>if(k==dA.free&&env.scope.kind==.function&&env.kindOf n==Z .cell)then(n,dA.cell)else(n,k)).lookup x=Z .cell \/
  (names.map λ(n,k)=>if(k==dA.free&&env.scope.kind==.function&&env.kindOf n==Z .cell)then(n,dA.cell)else(n,k)).lookup x=Z .free
 |[],h=>by simp at h
 |(n,k)::r,h=>by
  rw[dc]at h;rw[cI];cases hx:x==n with
  |true=>
   rw[hx]at h;cases h;by_cases hc:(dA.free==dA.free&&env.scope.kind==.function&&env.kindOf n==Z .cell)=Â
   ·left;simp only[hc,if_true,dc,hx]
   ·right;simp only[hc,if_false,dc,hx,fX]
  |false=>
   rw[hx]at h;rcases O9 (env:=env) h with q|q
   ·left;by_cases hc:(k==dA.free&&env.scope.kind==.function&&env.kindOf n==Z .cell)=Â
    ·simp only[hc,if_true,dc,hx];exact q
    ·simp only[hc,if_false,dc,hx,fX];exact q
   ·right;by_cases hc:(k==dA.free&&env.scope.kind==.function&&env.kindOf n==Z .cell)=Â
    ·simp only[hc,if_true,dc,hx];exact q
    ·simp only[hc,if_false,dc,hx,fX];exact q
theorem jo {env:Env}{x:Str}:∀{names:List (Str×dA)},((names.map λ(n,k)=>if(k==dA.free&&env.scope.kind==.function&&env.kindOf n==Z .cell)then(n,dA.cell)else(n,k)).lookup x=Z .cell \/
  (names.map λ(n,k)=>if(k==dA.free&&env.scope.kind==.function&&env.kindOf n==Z .cell)then(n,dA.cell)else(n,k)).lookup x=Z .free)->(x,dA.free)∈names\/(x,dA.cell)∈names
 |[],h=>by simp at h
 |(n,k)::r,h=>by
  rw[cI]at h;cases hx:x==n with
  |true=>
   have e:x=n:=eq_of_beq hx;by_cases hc:(k==dA.free&&env.scope.kind==.function&&env.kindOf n==Z .cell)=Â
   ·have:k=.free:=by rw[c9,c9]at hc;exact eq_of_beq hc.1.1
    left;rw[e,this];exact b7
   ·simp only[hc,if_false,dc,hx,fX]at h;rcases h with h|h
    ·cases h;right;rw[e];exact b7
    ·cases h;left;rw[e];exact b7
  |false=>
   refine(jo (env:=env) (names:=r) ?_).imp (cj _)<|cj _;by_cases hc:(k==dA.free&&env.scope.kind==.function&&env.kindOf n==Z .cell)=Â
   ·simpa only[hc,if_true,dc,hx]using h
   ·simpa only[hc,if_false,dc,hx,fX]using h
def mQ (U:St)(cap:List Nat):St:=cap.map λi=>(U[i]?).join
variable {cap:List Nat}{j:Nat}
theorem Xp {i:Nat}(hj:cap[j]?=Z i)(h:(mQ U cap)[j]?=Z (Z v)):U[i]?=Z (Z v):=by
 unfold mQ at h;rw[cP,hj]at h;cases e:U[i]? with
 |none=>rw[A0,e]at h;cases h
 |some o=>
  rw[A0,e]at h;cases o with
  |none=>cases h
  |some u=>exact h
variable {fp:List cn}
theorem Yl {cl:List (Str×cn)}{N:List Str}{own:Nat}{h₁:cO}{m₀:Str->Option b8}(B:qF X scope N own cap)(I:Ê X ce U H s)
    (c1:∀y c,cl.lookup y=Z c->X.env.cells.lookup y=Z c) (c2:∀x∈scope.names,x.2=.free->∃c,cl.lookup x.1=Z c)
    (hf:∀b∈fp,sR X ce H b) (N9:∀b∈fp,b<s.heap.objs.size) (oA:h₁.Ns s.heap.objs.size m₀) (k:∀b o,s.heap.get? b=Z o->h₁.get? b=Z o)
    (wZ:∀c,s.heap.objs.size+1<=c->c<s.heap.objs.size+1+pO scope.names->h₁.IsCell c C) :
    Ê (pw X scope (cellsFrom (s.heap.objs.size+1) scope.names cl) N s.heap.objs.size fp s H) [] (cB own C++mQ U cap) H { s with heap:=h₁,toks:=t' } :=
  have low:∀x c,cl.lookup x=Z c->c<s.heap.objs.size:=λx c e=>by obtain⟨v,o,q,_⟩:=I.cell x c<|c1 x c e;exact cS q
  { ok:={
      mod:=I.mod
      kind:=B.kind
      glob:=I.ok.glob
      blt:=I.ok.blt
      above:=cK _
      inj:=Nf _ _ _ (λx y c e e'=>I.ok.inj x y c (c1 x c e)<|c1 y c e') λx c e=>oj<|low x c e
      has:=λx hx=>by
        refine uO.mp<|oH scope.names _ _ ?_;rcases jo hx with q|q
        · right;obtain⟨c,e⟩:=c2 _ q rfl
          rw[e];rfl
        · exact .inl<|B.cells _ q rfl
      cab:=λx c e e'=>by
        have hx:scope.names.lookup x=Z .cell:=eq_of_beq e;rcases Gf _ _ _ e' with⟨h1,_⟩|⟨_,h2⟩
        · exact sv h1
        · exact absurd (uq hx) h2
      hd:=I.ok.hd
      frames:=I.ok.frames
      stk:=.inl rfl
      exf:=λb hb=>⟨dG<|N9 b hb,λx c e=>by
        rcases Gf _ _ _ e with⟨h1,_⟩|⟨h1,_⟩
        · exactλz=>absurd (N9 b hb) (by rw[←z];exact Nat.not_lt.mpr<|sv h1)
        · exact(hf b hb).2.2.2.2.1 x c<|c1 x c h1⟩
      bs:=I.bs
      bsz:=eD I.ok.bsz I.sz
      noex:=λb o e hb=>by
        rcases(hf b hb).2.2.2.1 with q|q
        · exact I.ok.noex b o e q
        · exact absurd (dg (cS e) I.ok.bsz)<|Nat.not_lt.mpr q
      exfs:=λb hb hz=>by
        rcases cu.mp (I.stkSub b hz)with q|q
        · exact(hf b hb).2.1 q
        · exact(hf b hb).2.2.1 q
      funs:=I.stack
      frf:=I.stkFree }
    os:=rfl
    bare:=I.bare
    base:=Un.kept k
    loc:=by
      refine⟨m₀,oA,λi x v hN hσ hv=>?_⟩;by_cases hi:i<own
      · rw[fV<|by rw[gQ];exact hi,oM,if_pos hi]at hσ;cases hσ
      · obtain⟨j,rfl⟩:∃j,i=own+j:=⟨i-own,by lia⟩;obtain⟨i',e1,S,e3⟩:=B.caps j x hN;rw[fS<|by rw[gQ];lia,gQ,Nat.add_sub_cancel_left]at hσ;have CD:=Xp e1 hσ;have hk:=B.free (x,.free) (uq e3) rfl;obtain⟨m,hm,hl⟩:=I.loc;obtain⟨u,ru,hu⟩:=hl i' x v S CD<|.inr hk;refine⟨u,ru,?_⟩;rcases hu with⟨q,_⟩|⟨_,c,hc,ic⟩
        · rcases hk with hk|hk
          · rw[hk]at q;cases q
          · rw[hk]at q;cases q
        · obtain⟨c',DZ⟩:=c2 (x,.free) (uq e3) rfl;have ec:=c1 x c' DZ;rw[hc]at ec;cases ec;have hn:(x,dA.cell)∉scope.names:=λz=>by have:=B.cells _ z rfl;rw[e3]at this;cases this
          exact .inr ⟨O9 e3,c,by show(cellsFrom _ _ _).lookup x=_;rw[Nd _ _ _ hn];exact DZ,ic.keeps k⟩
    cell:=λx c e=>by
      rcases Gf _ _ _ e with⟨h1,h2,_⟩|⟨h1,_⟩
      · exact⟨C,wZ c h1 h2⟩
      · obtain⟨v,q⟩:=I.cell x c<|c1 x c h1;exact⟨v,q.keeps k⟩
    free:=I.hok.fresh<|cK _
    freeC:=λx c e=>by
      rcases Gf _ _ _ e with⟨h1,_⟩|⟨h1,_⟩
      · exact I.hok.fresh<|sv h1
      · exact I.freeC x c<|c1 x c h1
    pin:=λp hp=>(nomatch hp)
    hok:=I.hok.kept k
    len:=by show(cB own C++mQ U cap).length=N.length;rw[cM,gQ,B.len];unfold mQ;rw[ck] }
def Du:TT:=λ_ H Q=>Q Â H
def DS (X:Cx)(ifs:List Expr)(t:TT):Prop :=
 ∀(ce:List<|cn×iU) (s:cF) (U:St) (H:Hp) (Q:Bool->Hp->Prop),Ê X ce U H s->t U H Q ->
  cW (c8 X.prog X.w) X.A (forIn ifs Â λc r=>if r=Â then do let ok ← xX c X.env (fB c X.env);pure (ForInStep.yield ok)else pure (ForInStep.yield r)) (TP X ce U Q) X.xe s
theorem zrq:DS X [] Du:=λ_ _ _ H _ I h=>wpAny_tests_nil ⟨H,I,h⟩
variable {c:Expr}
theorem zrr {t:TT}(h:PT X c t):DS X [c] t:=λce s U H Q I q=>wpAny_tests_one<|h ce s U H Q I q
def Am (wi:TI)(own:Nat)(cap:List Nat)(g:TG)(tt:TT)(te:TE):TE:=λU H Q=>wi U H λJ' H1=>∀D,H1 D=C->∃W:Nat->Nat->List V->Hp->Prop,(∃m,W 0 m []<|gK H1 D<|.lst []) /\
 ∀i m ys H2,W i m ys H2->H2 D=Z (.lst ys)/\((J'.stop i H2/\Q (.ref D) H2)\/(J'.go i H2/\ys.length<sizeLine/\∀x H3,J'.yld i H2 x H3->g x (cB own C++mQ U cap) H3 λσ2 H4=>tt σ2 H4 λb H5=>if b=Â then te σ2 H5 λy H6=>H6 D=Z (.lst ys)/\∃m',m'<m/\W (i+1) m' (ys++[y]) (gK H6 D<|.lst<|ys++[y])else∃m',m'<m/\W (i+1) m' ys H5))
def lC (own:Nat)(g:TG):Prop:=∀v U H Q,g v U H Q->g v U H λσ' H'=>Q σ' H'/\σ'.length = U.length/\∀i,own<=i->σ'[i]? = U[i]?
theorem Xq (i own:Nat)(h:i<own):lC own (zZ i):=λv U H Q q=>⟨q,by rw[Cg],λj hj=>by rw[gq<|by lia]⟩
variable {g:TG}{tg:Expr}{tt:TT}{wi:TI}
theorem Qp {QV:VK}{use:Option (b8->DM Unit)}{Q0:b8->cF->Prop}{pz:qP}{N:List Str}{own:Nat}{c:Prop}(B:qF X scope N own cap)(hc:c)(hi:Gu X c tg iter wi)
    (kg:lC own g)
    (hg:∀cl V' fp s₀ H₀,PG (pw X scope cl N V' fp s₀ H₀) tg g) (ht:∀cl V' fp s₀ H₀,DS (pw X scope cl N V' fp s₀ H₀) ifs tt) (he:∀cl V' fp s₀ H₀,PE (pw X scope cl N V' fp s₀ H₀) rh te)
    (hs:Co X iter) (I:Ê X ce U H s) (h:Am wi own cap g tt te U H QV)
    (fin:∀(D V':cn) (H5:Hp) (s6:cF) (r:Flow),QV (.ref D) H5->Ê X ce U H5 s6->sR X ce H5 V'->(∃m,s6.heap.Ns V' m)->compPost (c8 X.prog X.w) X.A X.xe use Q0 (.ref D) V' (.ok r) s6) :
    cW (c8 X.prog X.w) X.A (comprehension (.ListComp rh [⟨tg,iter,ifs,0⟩] scope pos) scope X.env pz (newList []) Ã (fB iter X.env) use) Q0 X.xe s:=by
  obtain⟨cl,GO,c1,c2,_⟩:=qd (env:=X.env) scope.names [] (λx hx hf=>I.ok.has x.1<|B.free x hx hf) (λy c e=>by simp at e);have GP:closureFor scope X.env=pure cl:=by have e:closureFor scope X.env=(forIn scope.names ([]:List (Str×cn)) (λ(x:Str×dA) (cs:List<|Str×cn)=>if(x.2==dA.free)=Â then do let a ← cellOf X.env x.1;pure (ForInStep.yield ((x.1,a)::cs))else pure (ForInStep.yield cs)) >>= pure:DM (List<|Str×cn)):=rfl;rw[e,GO];rfl
  refine wpAny_comprehension_free (use:=use) rfl hs GP B.kind B.locs<|fU (hi ce s U H _ I h) λv s1 h1=>fU h1 λLq s2 h2=>?_;obtain⟨it,fp,tn,J',H2,e,I2,⟨Cs,T,hT⟩,CI,f2,W0⟩:=h2;subst e;obtain⟨W,⟨m0,w0⟩,zJ⟩:=W0 s2.heap.objs.size<|I2.hok.fresh<|cK _;refine pq ?_;have I3:Ê X ce U (gK H2 s2.heap.objs.size<|.lst []) { s2 with heap:=s2.heap.push { cls:=.type "list",data:=.seq ([]:List b8).toArray } }:=I2.lnew .nil<|fI _;generalize Ol:({ s2 with heap:=s2.heap.push { cls:=.type "list",data:=.seq ([]:List b8).toArray } }:cF)=s3 at I3;have k3:∀b o,s2.heap.get? b=Z o->s3.heap.get? b=Z o:=λb o e=>by rw[←Ol];exact cv _ e
  have z3:s3.heap.objs.size=s2.heap.objs.size+1:=by rw[←Ol];exact gH _ _
  have EJ:∀b∈fp,b<s2.heap.objs.size:=λb hb=>by obtain⟨o,e,_⟩:=T.obj _ _ CI b hb;exact cS e
  have pU:∀b∈fp,b≠s2.heap.objs.size:=λb hb=>dG<|EJ b hb;have f3:∀b∈fp,sR X ce (gK H2 s2.heap.objs.size<|.lst []) b:=λb hb=>⟨by rw[zu<|pU b hb];exact(f2 b hb).1,(f2 b hb).2⟩;have Vy:tn 0 s3.heap:=T.keep _ _ _ CI λb _ o e=>k3 b o e;show cW _ _ (xY scope X.env.globals cl [] X.env.qual C .none<|Z X.env) _ _ _;refine Wx λh₁ kk Ld KU=>?_;have IB:=Yl (t':=s3.toks) B I3 c1 c2 f3 (λb hb=>by rw[z3];exact oj<|EJ b hb) Ld kk KU;generalize cellsFrom (s3.heap.objs.size+1) scope.names cl=cl at IB ⊢;generalize UQ:({ s3 with heap:=h₁,toks:=s3.toks }:cF)=s4 at IB;have OR:tn 0 s4.heap:=T.keep _ _ _ Vy λb _ o e=>by rw[←UQ];exact kk b o e
  show n4 (c8 X.prog X.w) X.A (.compStart (.ListComp rh [⟨tg,iter,ifs,0⟩] scope pos) 0 (.ref it) (.ref s2.heap.objs.size)<|compEnvC scope cl s3.heap.objs.size X.env)
      (compPost (c8 X.prog X.w) X.A X.xe use Q0 (.ref s2.heap.objs.size) s3.heap.objs.size) s4
  have zA:∀{H':Hp},(∀b∈fp,H' b=C)->∀b∈fp,sR (pw X scope cl N s3.heap.objs.size fp s3<|gK H2 s2.heap.objs.size<|.lst []) [] H' b:=λhn b hb=>⟨hn b hb,dG (by show b<s3.heap.objs.size;rw[z3];exact oj<|EJ b hb),IB.ok.exfs b hb,.inl hb,λx c e=>(IB.ok.exf b hb).2 x c e,λp hp=>(nomatch hp)⟩;have loop:n4 (c8 X.prog X.w) X.A (.compLoop (.ListComp rh [⟨tg,iter,ifs,0⟩] scope pos) 0 (.ref it) (.ref s2.heap.objs.size)<|compEnvC scope cl s3.heap.objs.size X.env)
      (compPost (c8 X.prog X.w) X.A X.xe use Q0 (.ref s2.heap.objs.size) s3.heap.objs.size) s4:=by
    refine Ww (λn s'=>∃i ys H',Ê (pw X scope cl N s3.heap.objs.size fp s3<|gK H2 s2.heap.objs.size<|.lst []) [] (cB own C++mQ U cap) H' s'/\tn i s'.heap/\(∀b∈fp,H' b=C)/\W i n ys H') ?_ m0
      ⟨0,[],_,IB,OR,λb hb=>(f3 b hb).1,w0⟩
    rintro n s5 ⟨i,ys,H5,I5,FY,IR,w5⟩;obtain⟨hD,K5⟩:=zJ i n ys H5 w5;rcases K5 with⟨stop,qn⟩|⟨go,qH,step⟩
    · refine fU (T.done (pw X scope cl N s3.heap.objs.size fp s3<|gK H2 s2.heap.objs.size<|.lst []) rfl rfl rfl (hT hc _ rfl rfl) i [] s5 _ H5 (λ_ _=>False) I5 (zA IR) FY stop) λr s6 gx=>?_;obtain⟨hr,I6⟩:=gx;subst hr;obtain⟨m,hm,_⟩:=id I6.loc;refine fin s2.heap.objs.size s3.heap.objs.size H5 s6 _ qn ?_ (I3.fpOk (cK _) I6.free) ⟨m,hm⟩;have sb:f7 s3.heap.objs.size s6.heap s6.heap:=⟨rfl,λ_ _=>rfl⟩;have Z':=I6.base;have nC:∀b o,s3.heap.get? b=Z o->b≠s3.heap.objs.size:=λb o e=>dG<|cS e;have nT:∀b o,H5 b=Z o->b≠s3.heap.objs.size:=λb o e z=>by have q:H5 s3.heap.objs.size=C:=I6.free;rw[z,q]at e;cases e
      refine I3.call' (ch:=fp) I6.os ?_ (λa o e=>(I6.hok a o e).stay (λb u hb q=>sb.extBut b u ?_ q) (λ_ q=>q) λ_ _ q=>q) I6.bare<|λb hb=>⟨(f3 b hb).2.2.2.1,(f3 b hb).2.1,(f3 b hb).2.2.2.2.1,(f3 b hb).2.2.2.2.2⟩
      · exact{
          keep:=λb o e z hb he=>sb.extBut b o (nC b o e)<|Z'.keep b o e z hb he
          slot:=λb o e z hb he=>by obtain⟨sl,q⟩:=Z'.slot b o e z hb he;exact⟨sl,sb.extBut b _ (nC b o e) q⟩
          free:=Z'.free
          there:=λb o e he=>by obtain⟨o',q⟩:=Z'.there b o e he;exact⟨o',sb.extBut b o' (nC b o e) q⟩
          tups:=Z'.tups
          frzs:=Z'.frzs
          tbls:=Z'.tbls }
      · rcases hb with rfl|hb
        · exact nT _ _ e
        · exact nT _ _ hb
    · refine fU (T.item (pw X scope cl N s3.heap.objs.size fp s3<|gK H2 s2.heap.objs.size<|.lst []) rfl rfl rfl (hT hc _ rfl rfl) i [] s5 _ H5 (λ_ _=>False) I5 (zA IR) FY go) λr s6 gx=>?_;obtain⟨u,hr,h6⟩:=gx;subst hr;refine fU h6 λ_ s7 gx=>?_;obtain⟨x,H7,I7,r7,y7,LP,T9⟩:=gx;have To:=I7.pinned (zA T9)<|T.obj _ _ LP;refine fU (hg cl s3.heap.objs.size fp s3 _ _ s7 _ H7 x u _ To r7<|kg _ _ _ _<|step x H7 y7) λ_ s8 gx=>?_;obtain⟨σ8,H8,I8,q8,l8,p8⟩:=gx;have back:∀{H9:Hp} {s9:cF},Ê (pw X scope cl N s3.heap.objs.size fp s3<|gK H2 s2.heap.objs.size<|.lst []) ([]++tZ fp s7.heap) σ8 H9 s9 ->
          Ê (pw X scope cl N s3.heap.objs.size fp s3<|gK H2 s2.heap.objs.size<|.lst []) [] (cB own C++mQ U cap) H9 s9/\tn (i+1) s9.heap/\∀b∈fp,H9 b=C:=λ{H9 s9} I9=>by
        refine⟨(I9.unpinned).weak l8.symm<|λj v e=>?_,T.keep _ _ _ LP λb hb o e=>(I9.pin (b,o)<|cT _<|cT _<|um hb e).1,λb hb=>?_⟩
        · by_cases hj:j<own
          · rw[fV<|by rw[gQ];exact hj,oM,if_pos hj]at e;cases e
          · rw[p8 j<|by lia];exact e
        · obtain⟨o,e,d⟩:=T.obj _ _ LP b hb;exact(I9.pin (b,o)<|cT _<|cT _<|um hb e).2.1
      refine fU (ht cl s3.heap.objs.size fp s3 _ _ s8 σ8 H8 _ I8 q8) λok s9 gx=>?_;obtain⟨H9,I9,q9⟩:=gx;cases ok with
      |false=>rw[if_neg cJ];rw[if_neg cJ]at q9;obtain⟨m',GX,w'⟩:=q9;obtain⟨b1,b2,b3⟩:=back I9;exact⟨m',GX,i+1,ys,H9,b1,b2,b3,w'⟩
      |true=>rw[if_pos rfl];rw[if_pos rfl]at q9;refine fU (he cl s3.heap.objs.size fp s3 _ _ s9 σ8 H9 _ I9 q9) λuy Vo gx=>?_;obtain⟨y,NI,Tj,r10,KH,m',GX,w'⟩:=gx;refine fU (P3 _ Vo σ8 NI (.ref s2.heap.objs.size) [y] (.ref s2.heap.objs.size) [uy] (λ_ NJ=>NJ=gK NI s2.heap.objs.size (.lst<|ys++[y])) Tj rfl (.cons r10 .nil) ⟨_,ys,y,rfl,rfl,KH,qH,rfl⟩) λ_ s11 gx=>?_;obtain⟨_,NJ,Tl,_,Kq⟩:=gx;subst Kq;obtain⟨b1,b2,b3⟩:=back Tl;exact⟨m',GX,i+1,ys++[y],_,b1,b2,b3,w'⟩
  exact codeAny_compStart_list loop<|T.self X.A 0 s4 _ _ OR loop
theorem zrs {N:List Str}{own:Nat}{c:Prop}(B:qF X scope N own cap)(hc:c)(hi:Gu X c tg iter wi)
  (kg:lC own g)
  (hg:∀cl V' fp s₀ H₀,PG (pw X scope cl N V' fp s₀ H₀) tg g) (ht:∀cl V' fp s₀ H₀,DS (pw X scope cl N V' fp s₀ H₀) ifs tt) (he:∀cl V' fp s₀ H₀,PE (pw X scope cl N V' fp s₀ H₀) rh te)
  (hs:Co X iter:=by intro _;rfl):PE X (.ListComp rh [⟨tg,iter,ifs,0⟩] scope pos) (Am wi own cap g tt te):=by
 intro ce s U H Q I h;rw[eval_ListComp];refine Qp (use:=none) (Q0:=EP X ce U Q) B hc hi kg hg ht he hs I h λD V' H5 s6 r q I6 fo hm=>?_;obtain⟨m,hm⟩:=hm;obtain⟨f0,f1,f2,f3,f4,f5⟩:=fo;exact⟨m,hm,λh' sb=>⟨.ref D,H5,I6.turned (t':=s6.toks) (it:=V') (λb o hb e=>sb.extBut b o hb e) f0 f1 f3 f4 f5,rfl,q⟩⟩
variable {ch:List cn}
theorem Ê.turnLay {o:HO}(I:Ê X ce U H s)(rF:∀b∈ch,sR X ce H b)(k:∀b o,b∉ch->s.heap.get? b=Z o->h'.get? b=Z o)(hp:s.heap.objs.size<=a)
  (new:gY X.prog X.w (gK H a o) h' a o):Ê X ce U (gK H a o) { s with heap:=h',toks:=t' }:=by
 have hn:H a=C:=I.hok.fresh hp;have Ht:∀b u,H b=Z u->b∉ch:=λb u e z=>by rw[(rF b z).1]at e;cases e
 refine I.step (g':=s.gens) (d':=s.drawn) (ch:=ch) (λb hb=>⟨(rF b hb).2.2.2.1,(rF b hb).2.1,(rF b hb).2.2.2.2.1,(rF b hb).2.2.2.2.2⟩) (λb o _ _ hc e _=>k b o hc e) (λb o _ _ hc e _=>⟨o.slots,k b o hc e⟩)
  (λb o _ e n=>by rw[zu<|dG<|dg (cS e) hp];exact n) (λb o hc e=>⟨o,k b o hc e⟩) (λb xs q=>by rw[zu<|zx q hn];exact q) (λb u xs q=>by rw[zu<|zx q hn];exact q)
  (λb ps q=>⟨#[],by rw[zu<|zx q hn,q];simp⟩) (λm hm=>?_) (λb u e=>?_) I.bare
 ·obtain⟨o',es,ep,ho,r⟩:=hm;exact⟨o',es,ep,k _ o' (λz=>(rF _ z).2.1 rfl) ho,r⟩
 ·by_cases hb:b=a
  ·subst hb;rw[zw]at e;cases e;exact new
  ·rw[zu hb]at e;refine(I.hok b u e).stay (λc v hc q=>k c v ?_ q) (λc q=>by rw[zu<|zx q hn];exact q) λc xs q=>by rw[zu<|zx q hn];exact q
   rcases hc with z|z
   ·rw[z];exact Ht b u e
   ·exact Ht c _ z
theorem Ê.turnedL (I:Ê X ce U H s)(rF:∀b∈ch,sR X ce H b)(k:∀b o,b∉ch->s.heap.get? b=Z o->h'.get? b=Z o):Ê X ce U H { s with heap:=h',toks:=t' }:=by
 have Ht:∀b u,H b=Z u->b∉ch:=λb u e z=>by rw[(rF b z).1]at e;cases e
 refine I.step (g':=s.gens) (d':=s.drawn) (ch:=ch) (λb hb=>⟨(rF b hb).2.2.2.1,(rF b hb).2.1,(rF b hb).2.2.2.2.1,(rF b hb).2.2.2.2.2⟩) (λb o _ _ hc e _=>k b o hc e) (λb o _ _ hc e _=>⟨o.slots,k b o hc e⟩)
  (λ_ _ _ _ n=>n) (λb o hc e=>⟨o,k b o hc e⟩) (λ_ _ e=>e) (λ_ _ _ e=>e) (λb ps e=>⟨#[],by rw[e];simp⟩) (λm hm=>?_) (λb u e=>?_) I.bare
 ·obtain⟨o',es,ep,ho,r⟩:=hm;exact⟨o',es,ep,k _ o' (λz=>(rF _ z).2.1 rfl) ho,r⟩
 ·refine(I.hok b u e).stay (λc v hc q=>k c v ?_ q) (λ_ q=>q) λ_ _ q=>q;rcases hc with z|z
  ·rw[z];exact Ht b u e
  ·exact Ht c _ z
def Kg (K:b9)(a:cn):It :=
 ⟨λi H=>∃xs x,jJ K H a xs/\xs[i]?=Z x,λi H x H'=>∃p y,H p=C/\x=.ref p/\H'=gK H p (.tup [.int i,y])/\∀xs,jJ K H a xs->xs[i]?=Z y,λi H=>∃xs,jJ K H a xs/\xs.length<=i⟩
variable {uS:List Expr}{kt:Nat}
theorem Ym {w:dW}{K:b9}{pt:qP}(a e it:cn)(N7:e≠it) :
    ó P w K (.Tuple uS kt pt) (Kg K a) [e,it] e (λi h=>(∃old,IsEnum h e it i old)/\h.IsListIter it a i) where
  mem:=by simp
  obj:=λi h st b hb=>by
    obtain⟨⟨old,he⟩,o,e1,c,d⟩:=st;rcases cu.mp hb with rfl|hb
    · exact⟨_,he,λv z=>by cases z⟩
    · have S:b=it:=by simpa using hb
      subst S;exact⟨o,e1,λv z=>by rw[d]at z;cases z⟩
  keep:=λi h h' st k=>by obtain⟨⟨old,he⟩,hit⟩:=st;exact⟨⟨old,k e (by simp) _ he⟩,hit.at λo x=>k it (by simp) o x⟩
  item:=by
    intro X hP hw hK hc i ce s U H E I hf st hg;subst hP hw hK;obtain⟨xs,x,hq,hx⟩:=hg;obtain⟨dP,rv,p,hz⟩:=I.list hq;obtain⟨u,hu,ru⟩:=rv.get hx;obtain⟨⟨old,he⟩,hit⟩:=st;refine wpAny_pyNext_enum_item he hit p.isList (x:=u) (by simpa using hu) N7 λh1 ho K7 hT hsz hk=>?_;refine⟨_,rfl,wpAny_letOwnedTupleGo_enum (s:={ s with heap:=h1,toks:=s.toks+1 }) ho λh2 K0 Do=>?_⟩;have rh:e<s.heap.objs.size:=cS he;have U5:it<s.heap.objs.size:=by obtain⟨_,q,_⟩:=hit;exact cS q
    have KN:h2.get? s.heap.objs.size=Z { cls:=.type "tuple",data:=.seq #[.int i s.toks,u] }:=(Do.2 _<|pC rh).trans hT;have UD:H s.heap.objs.size=C:=I.hok.fresh<|cK _;have I1:Ê X ce U (gK H s.heap.objs.size<|.tup [.int i,x]) { s with heap:=h2,toks:=s.toks+1 }:=by refine I.turnLay (ch:=[e,it]) hf (λb o hb q=>?_) (cK _) ⟨by show 2<=sizeLine;decide,[.int i s.toks,u],.cons ⟨_,rfl⟩<|.cons ru .nil,_,KN,rfl,_,rfl⟩;have NS:b≠e:=λz=>hb (by simp[z]);have Uh:b≠it:=λz=>hb (by simp[z]);exact(Do.2 b NS).trans<|hk b o NS Uh q
    refine⟨.ref s.heap.objs.size,_,I1,rfl,⟨_,x,UD,rfl,rfl,λys hy=>by rw[I.list_inj hy hq];exact hx⟩,⟨⟨u,by simpa using K0⟩,K7.at λo q=>(Do.2 it N7.symm).trans q⟩,λb hb=>?_⟩;rw[zu ?_]
    · exact(hf b hb).1
    · rcases cu.mp hb with rfl|hb
      · exact dG rh
      · have S:b=it:=by simpa using hb
        rw[S];exact dG U5
  done:=by intro X hP hw hK hc i ce s U H E I hf st hg;subst hP hw hK;obtain⟨xs,hq,hx⟩:=hg;obtain⟨dP,rv,p,hz⟩:=I.list hq;obtain⟨⟨old,he⟩,hit⟩:=st;have hl:=rv.length;exact wpAny_pyNext_enum_end (I.ok.hd hc) he hit p.isList (by simp;lia) λh' eb=>⟨rfl,I.turnedL (ch:=[e,it]) (t':=s.toks) hf λb o hb q=>eb b o (λz=>hb<|by simp[z]) q⟩
  self:=λ_ _ _ _ _ st h=>wpAny_pyIter_enum st.1.choose_spec h
section
variable {pt:qP}
def He (K:b9)(ta:TA):TI:=λU H R=>ta U H λvs H1=>∃a,vs=[.ref a]/\(∃xs,jJ K H1 a xs)/\R (Kg K a) H1
theorem Rk {l:Expr}{ta:TA}(hg:Gl X "enumerate")(hm:X.mg "enumerate"=C)(ha:PA X [l] ta)(hs:SN X l:=by rfl) :
  PI X (.Tuple uS kt pt) (.Call (.Name "enumerate" p) [l] [] pos) (He X.K ta):=by
 intro ce s U H R I h;refine Call_<|uz I hg hm PyProof.Rows.boot_enumerate<|eh (fU (ha pos ce s U H _ I h) λus s1 hq=>?_) hs rfl;obtain⟨vs,H1,I1,r1,q1⟩:=hq;obtain⟨a,e,⟨xs,hq⟩,q⟩:=q1;subst e;cases r1 with
 |cons r rr=>
  cases rr;cases r;obtain⟨dP,rv,pl,hz⟩:=I1.list hq;refine call_enumerate_list pl.isList λh' he hit hsz hk=>?_;refine wpAny_pyIter_enum (s:={ s1 with heap:=h' }) he ?_;refine⟨s1.heap.objs.size+1,[s1.heap.objs.size+1,s1.heap.objs.size],_,_,H1,rfl,I1.kept (t':=s1.toks) hk,(Ym a _ _<|Nat.succ_ne_self _).ok,⟨⟨_,he⟩,hit⟩,λb hb=>?_,q⟩;rcases cu.mp hb with rfl|hb
  ·exact I1.fpOk (oh _)<|I1.hok.fresh<|oh _
  ·have e:b=s1.heap.objs.size:=by simpa using hb
   subst e;exact I1.fpOk (cK _)<|I1.hok.fresh<|cK _
end
section
open PySem
def Gk (K:b9)(a:cn)(xs:List V):Prop:=∃(o:iU) (dP:Array b8) (n:Nat),K.lookup a=Z o/\o.cls=.type "tuple"/\o.data=.seq dP n/\dP.size<=sizeLine/\dR xs dP.toList
theorem dQ.rd {u:HO}(e:dQ H H')(h:Rd H a u):Rd H' a u:=h.elim (λh=>.inl<|e _ _ h) λh=>.inr<|h.elim λo h=>⟨o,e _ _ h⟩
end
end L2
namespace PySem
variable {A:d4}{prog:eG}{w:dW}
end PySem
namespace L2
open PySem PyProof.Rows
variable {X:Cx}{cap:List Nat}{rh iter tg:Expr}{g:TG}{ifs:List Expr}{pos pos':qP}{scope:rR}{te:TE}{tt:TT}{wi:TI}{x:Str}
theorem Xy {i:Nat}{xI:qP}{N:List Str}{own:Nat}(B:qF X scope N own cap)(hc:X.calm=Â)(hi:PI X tg iter wi)
  (kg:lC own g)
  (hg:∀cl V' fp s₀ H₀,PG (pw X scope cl N V' fp s₀ H₀) tg g) (ht:∀cl V' fp s₀ H₀,DS (pw X scope cl N V' fp s₀ H₀) ifs tt) (he:∀cl V' fp s₀ H₀,PE (pw X scope cl N V' fp s₀ H₀) rh te)
  (hN:X.N.Nodup) (CA:X.N[i]?=Z x) (hx:ï X.env.scope x) (C5:iF (.ListComp rh [⟨tg,iter,ifs,0⟩] scope pos) (Z<|.Name x pos') xI.line X.env=pure Â)
  (hs:Co X iter:=by intro _;rfl) (hf:wW X x:=by walk_at "v2") :
  PS X (.Assign [.Name x pos'] (.ListComp rh [⟨tg,iter,ifs,0⟩] scope pos) xI) (Fd (Am wi own cap g tt te)<|zZ i):=by
 intro ce s U H D I h;rw[exec_Assign_Name_used _ _ _ _ C5];refine cy<|pF<|cy ?_;show cW _ X.A (do let _ ← comprehension (.ListComp rh [⟨tg,iter,ifs,0⟩] scope pos) scope X.env _ (newList []) Ã (fB iter X.env) (Z<|mG (.Name x pos') X.env)) _ _ s;refine cy<|gF (Qp (use:=some<|mG (.Name x pos') X.env) (Q0:=λ_ s'=>∃σ' H',Ê X ce σ' H' s'/\D.nx σ' H') B hc hi kg hg ht he hs I h λDa V' H5 s6 r q I6 fo hm=>?_) (λ_ s' hq=>di<|di hq) λ_ _ e=>e;show cW _ X.A (mG (.Name x pos') X.env<|.ref Da) _ _ _;refine wpAny_assign_Name<|PQ (v:=.ref Da) I6 hN CA hx rfl (λs7 I7 UR=>?_) hf;obtain⟨m,hm⟩:=hm;obtain⟨a,sb,ha⟩:=UR;obtain⟨f0,f1,f2,f3,f4,f5⟩:=fo;have pU:V'≠a:=by
  rcases ha with rfl|ha
  ·exact f1
  ·exactλz=>f4 x a ha z.symm
 refine⟨m,hm.sameBut sb pU,λh' Vq=>⟨_,H5,I7.turned (t':=s7.toks) (it:=V') (λb o hb e=>Vq.extBut b o hb e) f0 f1 f3 f4 f5,q⟩⟩
variable {uS:List Expr}{kt:Nat}
variable {e:Expr}{p2:qP}
section
open PySem PySem.Spec PyProof.Rows
theorem YL (dP:List b8):slicePick dP.toArray C C (Z<|-1)=dP.reverse.toArray:=by
 unfold slicePick ki sliceRange;congr 1;have h1:¬((-1:Int) > 0):=by decide
 simp only[rV,h1,if_false,cQ];have hc:((if((dP.length:Int)-1) > -1 then((dP.length:Int)-1 - -1 - -1-1) / - -1 else 0)).toNat=dP.length:=by rw[show(- -1:Int)=1 from rfl,Int.ediv_one];split<;>lia
 rw[hc,Ao];have e:∀k∈cE dP.length,(((λx=>dP.toArray[x]?) ∘ λ(k:Nat)=>((dP.length:Int)-1 + -1*(k:Int)).toNat) k)=dP.reverse[k]?:=λk hk=>by have hk:=dm.mp hk;show dP.toArray[((dP.length:Int)-1 + -1*(k:Int)).toNat]?=_;rw[show((dP.length:Int)-1 + -1*(k:Int)).toNat=dP.length-1-k by lia,xQ,xP hk]
 have fm:∀(F:Nat->Option b8) (l:List Nat),(∀k∈l,F k=dP.reverse[k]?/\k<dP.length)->l.filterMap F=l.map λk=>(dP.reverse[k]?).getD .none:=by
  intro F l;induction l with
  |nil=>exactλ_=>rfl
  |cons k l ih=>intro h;obtain⟨h2,h3⟩:=h k b7;have h4:dP.reverse[k]?=Z (dP.reverse[k]'(by rw[fT];exact h3)):=cC _;rw[jX,h2,h4,cI,ih λk hk=>h k (cj _ hk),h4];rfl
 rw[fm _ _ λk hk=>⟨e k hk,dm.mp hk⟩];apply oK
 ·simp
 ·intro i h2 h3;simp only[jS,rA];rw[cC h3];rfl
section
variable {sp:Expr}{tp:TO}
def LI (K:b9):V->Hp->VK->Prop:=λx H Q=>∃a xs,x=.ref a/\jJ K H a xs/\∀p,H p=C->Q (.ref p) (gK H p<|.lst xs.reverse)
def L9 (K:b9)(te:TE)(tp:TO):TE:=λU H Q=>te U H λx H1=>tp U H1 λo H2=>o=Z (-1)/\LI K x H2 Q
theorem ϑ (he:PE X e te)(hp:PO X (Z sp) tp):PE X (.Subscript e (.Slice C C (Z sp) p2) pos) (L9 X.K te tp):=by intro ce s U H Q I h;refine Subscript_<|fU (he ce s U H _ I h) λv s1 gx=>?_;obtain⟨x,H1,I1,r1,q1⟩:=gx;refine wpAny_Slice ?_;rw[sQ];refine di ?_;refine di ?_;refine fU (hp ce s1 U H1 _ I1 q1) λvp s3 gx=>?_;obtain⟨o,H3,I3,pp,q3⟩:=gx;obtain⟨rfl,a,xs,rfl,hx,q⟩:=q3;cases r1;have I4:Ê X ce U H3 { s3 with heap:=s3.heap.push { cls:=.type "slice",data:=.fields #[.none,.none,vp] } }:=I3.kept (t':=s3.toks) λb ob q=>cv _ q;obtain⟨dP,r,ht,hz⟩:=I4.list hx;have iI:=r.length;refine tail_any (ops:=[.ref a,.ref s3.heap.objs.size]) (s:={ s3 with heap:=s3.heap.push { cls:=.type "slice",data:=.fields #[.none,.none,vp] } }) (T:="list") ht.isList.typeIs pj.lookup ?_ (by with_unfolding_all rfl);refine pE ht.isList (uK.new ..) .none .none pp (by simp) ?_ (by rw[cQ]<;>lia);rw[YL];refine⟨.ref _,_,I4.laid (t':=s3.toks) (o:=.lst xs.reverse) (λb ob q=>cv _ q) (cK _) ?_,rfl,q _<|I4.hok.fresh<|cK _⟩;exact⟨by rw[fT];exact hz,_,0,r.reverse,cV _ rfl⟩
end
end
variable {es:List Expr}{n:Nat}
section
open PySem PySem.Spec
open PyProof.Rows hiding St
def Kw (K:b9)(n:Nat)(t:Cr):TG:=λv U H Q=>∃a xs,v=.ref a/\jJ K H a xs/\xs.length=n/\t xs U H Q
theorem ϐ {k:Nat}{t:Cr}(hc:X.calm=Â)(h:Ez X es t)
  (hn:(eE es X.env).length=n:=by rfl) (n8:(eE es X.env).findIdx? (·.1)=C:=by rfl):PG X (.Tuple es k pos) (Kw X.K n t):=by
 intro ce s U H v u Q I r hw;obtain⟨a,xs,e1,hq,hl,hw⟩:=hw;subst e1;cases r;obtain⟨dP,rv,ht,hz⟩:=I.list hq;have CC:(eE es X.env).length=dP.toArray.size:=by simp[hn,←hl,rv.length]
 rw[assign_Tuple];refine cy<|pF ?_;unfold unpack;rw[CC,n8];obtain⟨o,n1,e,c1,c2,c3⟩:=ht;refine cy (mM<|PySem.W.kun_itemsOf (I.ok.hd hc) ⟨o,e,c1,by first|exact c3|exact⟨_,c3⟩|(rw[c3])⟩ λh' hx=>?_);have I1:Ê X ce U H { s with heap:=h' }:=I.kept (t':=s.toks) λb o e=>hx b o (dG<|cS e) e;exact h ce _ U H xs _ Q I1 (by simpa using rv) hw
end
variable {V' f:cn}{CX:Cm}{iB p:qP}{fd:cD}{m:Str}{o:Expr}{ps:List Str}{sp:Sp}{ta:TE}
variable {L':List (Str×b8)}{P:eG}{h:cO}{ty:TE}
section
open PySem PySem.Spec PyProof.Rows
class inductive EL (w:dW):List DictEntry->List (Str×b8)->Prop
 |nil:EL w [] []
 |cons {k:Str} {t:Tok} {v:b8} {es:List DictEntry} {L':List (Str×b8)}:EL w es L'->EL w (⟨df.keyHash w.params k,.str k t,v⟩::es) ((k,v)::L')
structure KD (K:b9)(w:dW)(mg:Str->Option b8)(x:Str)(da:cn)(L':List<|Str×b8):Prop where
 mgx:mg x=Z (.ref da)
 sy:(da==iK)=Ã
 ob:∃(es:Array DictEntry) (ep:Nat),K.lookup da=Z ⟨.type "dict",C,.dict es ep,#[]⟩/\EL w es.toList L'
section
variable {w:dW}
theorem EL.keys {es:List DictEntry}(h:EL w es L'):∀e∈es,∃k,(strKind P w).is k e.key=Â/\e.hash=(strKind P w).hash k:=by
 induction h with
 |nil=>intro e h;cases h
 |@cons k t v es L' h ih=>
  intro e he;rcases cu.mp he with rfl|he
  ·exact⟨k,strKind_is P w k t,rfl⟩
  ·exact ih e he
theorem EL.find {es:List DictEntry}(h:EL w es L')(k:Str):(es.find? λe=>(strKind P w).is k e.key).map (·.val)=L'.lookup k:=by
 induction h with
 |nil=>rfl
 |@cons k' t v es L' h ih=>
  rw[eX,dc];have:(strKind P w).is k (.str k' t)=(k==k'):=by
   show b8.isStrOf k (.str k' t)=_;simp[b8.isStrOf]
   first|rfl|exact Bool.beq_comm|(rw[Cc];simp[eq_comm])
  dsimp only;rw[this];cases e:(k==k')with
  |true=>rfl
  |false=>exact ih
theorem KD.map {K:b9}{mg:Str->Option b8}{da:cn}(D:KD K w mg x da L')(X:K.In h):h.MapOf (strKind P w) da (λk=>L'.lookup k):=by obtain⟨es,ep,l,q⟩:=D.ob;refine⟨_,es,ep,X _ _ l,⟨rfl,rfl,rfl⟩,rfl,λe he=>q.keys e<|Array.mem_def.mp he,λk=>?_⟩;show findBy (PySem.strKind P w).is es k=L'.lookup k;rw[←q.find (P:=P) k];unfold findBy;rw[←zL]
end
section
variable {da:cn}{i:Expr}
def Vu (L':List<|Str×b8)(ty:TE):TE:=λU H Q=>ty U H λy H1=>∃k u v,y=.str k/\L'.lookup k=Z u/\Í v u/\Q v H1
theorem ī (D:KD X.K X.w X.mg x da L')(hg:Gl X x)(hi:PE X i ty)(hs:yN i)(hd:lH x):PE X (.Subscript (.Name x p) i pos) (Vu L' ty):=by intro ce s U H Q I h;refine MQ PySem.F.slot_dict_getitem.lookup hs<|vm I hg D.mgx (fU (hi ce s U H _ I h) λiv s2 hq=>?_) hd;obtain⟨y,H2,I2,ry,k,u,v,ey,l,rv,q2⟩:=hq;subst ey;obtain⟨t,rfl⟩:=ry;have U':=D.map (P:=X.prog) I2.kIn;exact⟨U'.typeIs,wpAny_getItem_of (strKind_is X.prog X.w k t) U' l ⟨v,H2,I2.tok _,rv,q2⟩⟩
def Ej (neg:Bool)(L':List<|Str×b8)(ty:TE):TE:=λU H Q=>ty U H λy H1=>∃k,y=.str k/\Q (.bl<|if neg then !(L'.lookup k).isSome else(L'.lookup k).isSome) H1
theorem zrt (D:KD X.K X.w X.mg x da L')(hg:Gl X x)(hi:PE X i ty)(hd:lH x):PC X .In i (.Name x p) (Ej Ã L' ty):=by intro ce s U H Q I h;refine fU (hi ce s U H _ I h) λiv s1 ⟨y,H1,I1,ry,k,ey,q1⟩=>vm I1 hg D.mgx ?_ hd;subst ey;obtain⟨t,rfl⟩:=ry;exact wpAny_in_of (strKind_is X.prog X.w k t) D.sy (D.map (P:=X.prog) I1.kIn) ⟨.bl _,H1,I1.tok _,rfl,q1⟩
theorem Xz (D:KD X.K X.w X.mg x da L')(hg:Gl X x)(hi:PE X i ty)(hd:lH x):PC X .NotIn i (.Name x p) (Ej Â L' ty):=by intro ce s U H Q I h;refine fU (hi ce s U H _ I h) λiv s1 ⟨y,H1,I1,ry,k,ey,q1⟩=>vm I1 hg D.mgx ?_ hd;subst ey;obtain⟨t,rfl⟩:=ry;exact wpAny_notIn_of (strKind_is X.prog X.w k t) D.sy (D.map (P:=X.prog) I1.kIn) ⟨.bl _,H1,I1.tok _,rfl,q1⟩
variable {E:XK}{t:TA}
def LV (L':List<|Str×b8)(F:Str->cn->Sp->Prop)(E:XK)(ty:TE)(t:TA):TE:=λU H Q=>ty U H λy H1=>∃k f sp,y=.str k/\L'.lookup k=Z (.ref f)/\F k f sp/\t U H1 λvs H2=>sp vs H2 Q E
theorem Ź {F:Str->cn->Sp->Prop}(D:KD X.K X.w X.mg x da L')(hF:∀k f sp,F k f sp->∃kk fd ps,dO X.prog X.w X.K X.mg X.base CX kk f fd ps sp/\fY kk X.A/\fu X.K (.ref f)=Â/\iA X.K fd ps [])(hx:nP CX X E)(hg:Gl X x)(hi:PE X i ty)(hs:yN i)(ha:PA X (e::es) t)
  (hd:lH x) (he:SE X e es) (mh:rc X pos es) :
  PE X (.Call (.Subscript (.Name x p) i p2) (e::es) [] pos) (LV L' F E ty t):=by
 intro ce s U H Q I h;show cW _ _ (fB (.Subscript (.Name x p) i p2) X.env >>= λfv=>nc pos fv [] (kh pos<|dE (e::es) X.env)<|lV pos<|iG [] X.env) _ _ s;refine cy<|MQ PySem.F.slot_dict_getitem.lookup hs<|vm I hg D.mgx (fU (hi ce s U H _ I h) λiv s2 hq=>?_) hd;obtain⟨y,H2,I2,ry,k,f,sp,ey,l,hf,q2⟩:=hq;subst ey;obtain⟨tk,rfl⟩:=ry;have U':=D.map (P:=X.prog) I2.kIn;refine⟨U'.typeIs,wpAny_getItem_of (strKind_is X.prog X.w k tk) U' l ?_⟩;obtain⟨kk,fd,ps,Fn,hr,hk,hb⟩:=hF k f sp hf;have I3:=I2.tok<|s2.toks+1;refine kj (h₀:=X.base) I.ok.mod.kin hk (fU (ha pos ce _ U H2 _ I3 q2) λus s4 ⟨vs,H4,I4,r,q⟩=>⟨I4.kIn,?_⟩) he mh;exact Ir (ou:=[]) (O:=[]) Fn hr hb .nil hx I4 r (by rw[dH];exact q)
end
end
variable {α β:Type}{E Q:b8->cF->Prop}{H:Hp}{h':cO}{j:Nat}{ce:List (cn×iU)}{s:cF}{us:List b8}{xs ys:List V}{U:St}
section
open PySem PySem.Spec PyProof.Rows
section
variable {prog:eG}{w:dW}{A:d4}{ys:Array b8}
theorem zru {it t:cn}{i:Nat}{x:b8}(hit:s.heap.IsTupleIter it t i)(ht:s.heap.IsTuple t ys)(hx:ys[i]?=Z x)
  (hQ:∀h',h'.IsTupleIter it t (i+1)->f7 it s.heap h'->Q x { s with heap:=h' }):cW (c8 prog w) A (Builtin.SmallTypes.nextOf<|.ref it) Q E s:=by
 obtain⟨o,ho,hc,hd⟩:=id hit;obtain⟨ol,Lh,_,nl,CZ⟩:=ht;unfold Builtin.SmallTypes.nextOf;refine cy<|wpAny_callSpecial?_slot (name:=Str.ofString "__next__") hit.typeIs F.slot_tuple_iterator_next (wpAny_call_entry F.slot_tuple_iterator_next hit.typeIs F.entry_tuple_iterator_next ?_<|F.args_tuple_iterator_next_1 _);show cW _ _ (field (.ref it) 0 >>= _) _ _ s;refine cy<|wpAny_field ho hd (x:=.ref t) rfl ?_;show cW _ _ (if(b8.ref t==b8.none)=Â then _ else _) _ _ s;rw[if_neg<|show¬((b8.ref t==b8.none)=Â)from cJ];show cW _ _ (field (.ref it) 1 >>= _) _ _ s;refine cy<|wpAny_field ho hd (x:=.int i 0) rfl ?_;show cW _ _ (seqItems? (.ref t) >>= _) _ _ s;refine cy<|wpAny_seqItems Lh CZ ?_;simp only[i8,hx];refine cy (wpAny_setField ho hd (by simp)<|di ⟨x,rfl,di<|hQ _ ?_<|f7.update ..⟩);exact⟨_,lF _ ho<|iU.isFreed_of_fields<|iU.data_mapFields hd _,(iU.cls_mapFields ..).trans hc,by rw[iU.data_mapFields hd];simp[rawInt]⟩
theorem Ÿ {it t:cn}{i:Nat}(hh:A.handled=C)(hit:s.heap.IsTupleIter it t i)(ht:s.heap.IsTuple t ys)(hx:ys[i]?=C)
  (hE:∀h' e,cO.ExtBut it s.heap h'->(∃o,h'.get? e=Z o/\o.cls=.type "StopIteration")->E (.ref e) { s with heap:=h' }):cW (c8 prog w) A (Builtin.SmallTypes.nextOf<|.ref it) Q E s:=by
 obtain⟨o,ho,hc,hd⟩:=id hit;obtain⟨ol,Lh,_,nl,CZ⟩:=ht;unfold Builtin.SmallTypes.nextOf;refine cy<|wpAny_callSpecial?_slot (name:=Str.ofString "__next__") hit.typeIs F.slot_tuple_iterator_next (wpAny_call_entry F.slot_tuple_iterator_next hit.typeIs F.entry_tuple_iterator_next ?_<|F.args_tuple_iterator_next_1 _);show cW _ _ (field (.ref it) 0 >>= _) _ _ s;refine cy<|wpAny_field ho hd (x:=.ref t) rfl ?_;show cW _ _ (if(b8.ref t==b8.none)=Â then _ else _) _ _ s;rw[if_neg<|show¬((b8.ref t==b8.none)=Â)from cJ];show cW _ _ (field (.ref it) 1 >>= _) _ _ s;refine cy<|wpAny_field ho hd (x:=.int i 0) rfl ?_;show cW _ _ (seqItems? (.ref t) >>= _) _ _ s;refine cy<|wpAny_seqItems Lh CZ ?_;simp only[i8,hx];refine cy (wpAny_rule<|cy<|wpAny_setField ho hd (by simp) ?_);show cW _ _ (newExc (.type "StopIteration") [] >>= _) _ _ _;refine cy ?_;simp only[newExc,newTuple];refine cy (pq ?_<|by size_fits);refine cy (m:=firstArgMember _ _) (wpAny_of_eq (a:=b8.none) (by first|rfl|(simp only[firstArgMember];rfl)) ?_);refine pq ?_ (by size_fits);simp only[raiseNew];refine cy<|wpAny_handled ?_
 first|rw[show A.in1.handled=C from hh]|rw[hh]
 exact cy<|di<|wpAny_throw<|hE _ _ (((f7.update ..).extBut.push _).push _) ⟨_,cV _ rfl,rfl⟩
end
structure Pt where
 i:cn
 l:cn
 tp:Bool
def Pt.it (p:Pt)(h:cO)(k:Nat):Prop:=match p.tp with|true=>h.IsTupleIter p.i p.l k|false=>h.IsListIter p.i p.l k
def Pt.src (p:Pt)(h:cO)(xs:Array b8):Prop:=match p.tp with|true=>h.IsTuple p.l xs|false=>h.IsList p.l xs
abbrev rD (h:cO)(T:cn)(vs:List b8):Prop:=h.get? T=Z { cls:=.type "tuple",data:=.seq vs.toArray }
noncomputable abbrev gN (X:Pt->Array b8)(k:Nat)(c:Pt):b8:=(X c)[k]?.getD .none
abbrev Kp (h h':cO)(bs:List cn):Prop:=∀a o,a∉bs->h.get? a=Z o->h'.get? a=Z o
abbrev Up (h h':cO):Prop:=∀a o,h.get? a=Z o->h'.get? a=Z o
structure Zp (z TI TO:cn)(cs:List Pt):Prop where
 nd:(z::TI::TO::cs.map Pt.i).Nodup
 ls:∀c∈cs,c.l∉z::TO::cs.map Pt.i
section
variable {prog:eG}{w:dW}{A:d4}{z TI TO:cn}{c:Pt}{cs:List Pt}{k:Nat}{xs:Array b8}
theorem Pt.it.to (x:c.it h k)(e:∀o,h.get? c.i=Z o->h'.get? c.i=Z o):c.it h' k:=by
 obtain⟨i,l,tp⟩:=c;cases tp
 ·exact cO.IsListIter.at x e
 ·exact cO.IsTupleIter.at x e
theorem Pt.src.to (x:c.src h xs)(e:∀o,h.get? c.l=Z o->h'.get? c.l=Z o):c.src h' xs:=by
 obtain⟨i,l,tp⟩:=c;cases tp
 ·exact cO.IsList.at x e
 ·exact cO.IsTuple.at x e
theorem zrv {v:b8}(x:c.it s.heap k)(y:c.src s.heap xs)(hx:xs[k]?=Z v)
  (hQ:∀h',c.it h' (k+1)->f7 c.i s.heap h'->Q v { s with heap:=h' }):cW (c8 prog w) A (Builtin.SmallTypes.nextOf<|.ref c.i) Q E s:=by
 obtain⟨i,l,tp⟩:=c;cases tp
 ·exact wpAny_nextOf_list_item x y hx hQ
 ·exact zru x y hx hQ
theorem ŷ (hh:A.handled=C)(x:c.it s.heap k)(y:c.src s.heap xs)(hx:xs[k]?=C)
  (hE:∀h' e,cO.ExtBut c.i s.heap h'->(∃o,h'.get? e=Z o/\o.cls=.type "StopIteration")->E (.ref e) { s with heap:=h' }):cW (c8 prog w) A (Builtin.SmallTypes.nextOf<|.ref c.i) Q E s:=by
 obtain⟨i,l,tp⟩:=c;cases tp
 ·exact wpAny_nextOf_list_end hh x y hx hE
 ·exact Ÿ hh x y hx hE
theorem Mg {T:cn}{vs:List b8}{x:b8}{Q:Unit->cF->Prop}(hz:vs.length<=100)(hT:rD s.heap T vs)
  (h:∀h',rD h' T (vs.set j x)->f7 T s.heap h'->Q () { s with heap:=h' }) :
  cW (c8 prog w) A (updateSeq T (·.setIfInBounds j x)) Q E s:=by
 refine wpAny_updateSeq hT rfl (h _ ?_<|f7.update ..) (by show vs.toArray.size<=16777216;simp;lia) (by show _<=16777216+1;simp;lia);unfold rD;rw[lF _ hT rfl];simp[iU.mapSeq]
theorem D9 {X:Pt->Array b8}{Q:Option b8->cF->Prop}(hh:A.handled=C)(ne:cs≠[])(D:Zp z TI TO cs)(yS:cs.length<=100)(hz:IsZip s.heap z TI TO .none)
    (IU:rD s.heap TI<|cs.map λc=>.ref c.i) (IV:rD s.heap TO us) (hu:us.length=cs.length) (hc:∀c∈cs,c.it s.heap k) (hX:∀c∈cs,c.src s.heap<|X c)
    (hQ:∀h',(∀c∈cs,(X c)[k]?=Z (gN X k c))->IsZip h' z TI TO (rawInt s.heap.objs.size)->rD h' TO (cs.map<|gN X k)->rD h' s.heap.objs.size (cs.map<|gN X k)->(∀c∈cs,c.it h'<|k+1)->Kp s.heap h' (z::TO::cs.map Pt.i)->Q (Z<|.ref s.heap.objs.size) { s with heap:=h' })
    (hN:∀h',(∃c∈cs,(X c)[k]?=C)->Kp s.heap h' (z::TO::cs.map Pt.i)->Q C { s with heap:=h' }):cW (c8 prog w) A (pyNext<|.ref z) Q E s:=by
  have hT:s.TypeIs (.ref z) "zip":=⟨_,hz,rfl⟩;unfold pyNext;refine cy<|wpAny_attempt<|wpAny_callSpecial?_slot (name:=Str.ofString "__next__") hT F.slot_zip_next (wpAny_call_entry F.slot_zip_next hT F.entry_zip_next ?_<|F.args_zip_next_1 _);show cW _ _ (field (.ref z) 2 >>= _) _ _ _;refine cy<|wpAny_field hz rfl (x:=.bool Ã) rfl ?_;show cW _ _ (field (.ref z) 3 >>= _) _ _ _;refine cy<|wpAny_field hz rfl (x:=.ref TI) rfl ?_;refine cy<|wpAny_seqItems IU rfl ?_;have ie:(cs.map λc=>b8.ref c.i).toArray.isEmpty=Ã:=by cases cs with|nil=>exact absurd rfl ne|cons a l=>rfl
  dsimp only;rw[ie];show cW _ _ (Builtin.SmallTypes.ownedTupleIsFree (.ref z) >>= _) _ _ _;refine cy ?_;unfold Builtin.SmallTypes.ownedTupleIsFree;refine cy<|wpAny_field hz rfl (x:=.none) rfl<|di ?_;simp only[if_true];refine cy<|wpAny_rule ?_;refine cy<|wpAny_field hz rfl (x:=.ref TO) rfl ?_;refine cy (wpAny_setField_rec hz (by simp) λh₁ Lm Jf=>?_);replace Lm:IsZip h₁ z TI TO .ellipsis:=Lm;have nd:=D.nd;simp only[dz,cu,not_or]at nd;obtain⟨⟨zI,zO,zi⟩,⟨IO,Ii⟩,Oi,ni⟩:=nd;refine cy ?_;refine wpAny_forIn_list _ (λl b s'=>b=⟨C,()⟩/\∃pre Î h,cs=pre++Î/\l=(Î.map λc=>b8.ref c.i).zipIdx pre.length/\(∀c∈pre,(X c)[k]?=Z (gN X k c))/\s' = { s with heap:=h } /\
    IsZip h z TI TO .ellipsis/\rD h TO (pre.map (gN X k)++us.drop pre.length)/\(∀c∈pre,c.it h<|k+1)/\(∀c∈Î,c.it h k)/\h.objs.size=s.heap.objs.size/\Kp s.heap h (z::TO::cs.map Pt.i)) _ ?_ ?_ _ _ ?_
  · rintro x l b s' ⟨rfl,pre,Î,h,ec,el,ev,rfl,hz,hO,hp,hr,hn,hf⟩;cases Î with
    |nil=>cases el
    |cons c Î=>
      rw[cI,Bo]at el;cases el;have cm:c∈cs:=by rw[ec];simp
      have mi:∀c'∈cs,c'.i∈cs.map Pt.i:=λc' h=>eQ h;have cl:=D.ls c cm;simp only[cu,not_or]at cl;have ca:=hr c b7;have cx:c.src h (X c):=(hX c cm).to λo=>hf _ o<|D.ls c cm;have ci:∀c'∈pre++Î,c'.i≠c.i:=λc' h' e=>by
        rw[ec,dI,cI,dh]at ni;obtain⟨_,n2,n3⟩:=ni;rcases cH.mp h' with h'|h'
        · exact n3 _ (eQ h') _ b7 e
        · exact(dz.mp n2).1<|e▸eQ h'
      have sub:∀c'∈pre++Î,c'∈cs:=λc' h'=>by rw[ec];rcases cH.mp h' with h'|h'<;>simp[h']
      refine cy<|wpAny_onRaise ?_;show cW _ _ (Builtin.SmallTypes.nextOf (.ref c.i) >>= _) _ _ _;cases hx:(X c)[k]? with
      |none=>
        refine cy<|ŷ hh ca cx hx λh₂ e ES he=>?_;obtain⟨oe,Lf,N5⟩:=he;have Ou:IsZip h₂ z TI TO .ellipsis:=ES _ _ (λe=>zi<|e▸mi c cm) hz;have UA:e≠z:=λx=>by subst x;rw[Ou]at Lf;cases Lf;simp at N5
        exact wpAny_setField_rec Ou (by simp) λh₃ _ ET=>cy (wpAny_isInstance (T:="StopIteration") (b:=true) ⟨oe,ET.extBut _ _ UA Lf,N5⟩ isSubtype_stop<|di<|hN h₃ ⟨c,cm,hx⟩ λa o na x=>ET.extBut _ _ (λe=>na<|e▸b7) (ES _ _ (λe=>na<|by rw[e];simp[mi c cm])<|hf a o na x))
      |some v=>
        refine cy<|zrv ca cx hx λh₂ a₂ ES=>di ?_;have NX:rD h₂ TO (pre.map (gN X k)++us.drop pre.length):=ES.extBut _ _ (λe=>Oi<|e▸mi c cm) hO;refine cy<|wpAny_seqItems NX rfl ?_;have lu:pre.length<us.length:=by rw[hu,ec];simp
        refine cy (Mg (by rw[ec]at yS hu;simp at yS hu ⊢;lia) NX λh₃ NY ET=>?_);refine cy<|wpAny_letGo<|di ?_;have T:∀a o,a≠TO->a≠c.i->h.get? a=Z o->h₃.get? a=Z o:=λa o x y e=>ET.extBut _ _ x<|ES.extBut _ _ y e;have kp:∀c'∈pre++Î,∀j,c'.it h j->c'.it h₃ j:=λc' h' j q=>q.to λo=>T _ o (λe=>Oi<|e▸mi c' (sub c' h'))<|ci c' h';refine⟨rfl,pre++[c],Î,h₃,by simp[ec],by simp,λc' h'=>?_,rfl,ET.extBut _ _ zO<|ES.extBut _ _ (λe=>zi<|e▸mi c cm) hz,?_,λc' h'=>?_,λc' h'=>kp c' (by simp[h']) _<|hr c'<|by simp[h'],ET.1.trans<|ES.1.trans hn,λa o na e=>T a o (λe=>na<|by simp[e]) (λe=>na<|by rw[e];simp[mi c cm])<|hf a o na e⟩
        · rcases cH.mp h' with h'|h'
          · exact ev c' h'
          · cases cw.mp h';rw[gN,hx];rfl
        · rw[List.set_append_right _ _<|by simp,ck,Nat.sub_self,gX lu,List.set_cons_zero]at NY;simpa[gN,hx]using NY
        · rcases cH.mp h' with h'|h'
          · exact kp c' (by simp[h']) _<|hp c' h'
          · cases cw.mp h';exact a₂.to λo=>ET.extBut _ _ λe=>Oi<|e▸mi c cm
  · rintro b s' ⟨rfl,pre,Î,h,ec,el,ev,rfl,hz,hO,hp,hr,hn,hf⟩;have er:Î=[]:=by cases Î with|nil=>rfl|cons=>rw[cI,Bo]at el;cases el
    subst er;rw[dH]at ec;subst ec;rw[←hu,List.drop_length,dH]at hO;have BC:(cs.map<|gN X k).length<=100:=by simpa using yS
    generalize (cs.map<|gN X k)=vs at hO hQ BC;refine cy<|wpAny_seqItems hO rfl ?_;refine cy (wpAny_newTuple ?_<|by show vs.toArray.toList.length<=16777216;simp;lia);have hl:z<h.objs.size:=cS hz;show cW _ _ (Builtin.SmallTypes.ownedTupleHandOut (.ref z) (.ref h.objs.size) >>= _) _ _ _;refine cy ?_;unfold Builtin.SmallTypes.ownedTupleHandOut;have U0:IsZip (h.push { cls:=.type "tuple",data:=.seq vs.toArray }) z TI TO .ellipsis:=cv _ hz;refine cy (wpAny_setField_rec U0 (by simp) λh₉ Ln On=>?_);replace Ln:IsZip h₉ z TI TO (rawInt h.objs.size):=Ln;refine wpAny_setField_rec Ln (by simp) λha Jl Om=>?_;replace Jl:IsZip ha z TI TO (rawInt h.objs.size):=Jl;have up:∀c o,c≠z->h.get? c=Z o->ha.get? c=Z o:=λc o c1 e=>Om.extBut _ _ c1<|On.extBut _ _ c1<|cv _ e;have N1:rD ha h.objs.size vs:=Om.extBut _ _ (pC hl)<|On.extBut _ _ (pC hl)<|cV _ rfl;rw[hn]at Jl N1;refine di ⟨_,rfl,di ?_⟩;show Q (Z<|.ref h.objs.size) _;rw[hn];exact hQ ha ev Jl (up _ _ (Ne.symm zO) hO) N1 (λc h'=>(hp c h').to λo=>up _ o λe=>zi<|e▸eQ h') λa o na e=>up _ _ (λe=>na<|by simp[e])<|hf a o na e
  · exact⟨rfl,[],cs,h₁,rfl,rfl,nofun,rfl,Lm,Jf.extBut _ _ (Ne.symm zO) IV,nofun,λc h'=>(hc c h').to λo=>Jf.extBut _ _ λe=>zi (e▸eQ h'),Jf.1,λa o na=>Jf.extBut _ _ λe=>na (by simp[e])⟩
end
noncomputable abbrev Pt.q (p:Pt):cn×Bool:=(p.l,p.tp)
def Sq (K:b9)(H:Hp)(q:cn×Bool)(xs:List V):Prop:=match q.2 with|true=>p9 K H q.1 xs|false=>jJ K H q.1 xs
def Kf (K:b9)(qs:List<|cn×Bool):It :=
 ⟨λi H=>∀q∈qs,∃xs,Sq K H q xs/\∃v,xs[i]?=Z v,
  λi H x H'=>∃(p:cn) (g:cn×Bool->V),H p=C/\x=.ref p/\H'=gK H p (.tup<|qs.map g)/\∀q∈qs,∀xs,Sq K H q xs->xs[i]?=Z (g q),
  λi H=>(∀q∈qs,∃xs,Sq K H q xs)/\∃q∈qs,∃xs,Sq K H q xs/\xs.length<=i⟩
theorem ÿ [Nonempty β]{qs:List α}{P:α->β->Prop}(h:∀q∈qs,∃y,P q y):∃f:α->β,∀q∈qs,P q (f q) :=
 ⟨λq=>Classical.epsilon<|P q,λq hq=>Classical.epsilon_spec<|h q hq⟩
theorem Ê.sq (I:Ê X ce U H s){f:cn×Bool->List V}(ps:List Pt)(h:∀q∈ps.map Pt.q,Sq X.K H q<|f q) :
  ∃c:cn×Bool->List b8,∀p∈ps,dR (f p.q) (c p.q)/\p.src s.heap (c p.q).toArray:=by
 have:=Classical.skolem.mp λq=>show∃y:List b8,∀p∈ps,p.q=q->dR (f q) y/\p.src s.heap y.toArray from by
  by_cases hq:q∈ps.map Pt.q
  ·have hs:=h q hq;obtain⟨l,tp⟩:=q;cases tp with
   |false=>obtain⟨dP,rv,p,_⟩:=I.list hs;refine⟨dP,λp' _ e=>⟨rv,?_⟩⟩;obtain⟨i,l',tp⟩:=p';cases e;exact p.isList
   |true=>obtain⟨dP,rv,p,_⟩:=I.tuple hs;refine⟨dP,λp' _ e=>⟨rv,?_⟩⟩;obtain⟨i,l',tp⟩:=p';cases e;exact p
  ·exact⟨[],λp hp e=>absurd (e▸eQ hp) hq⟩
 obtain⟨c,hc⟩:=this;exact⟨c,λp hp=>hc _ p hp rfl⟩
theorem Sq.inj (I:Ê X ce U H s){q:cn×Bool}(a:Sq X.K H q xs)(b:Sq X.K H q ys):xs=ys:=by
 obtain⟨l,tp⟩:=q;cases tp
 ·exact I.list_inj a b
 ·exact I.tuple_inj a b
theorem Qq {g:Pt->V}{u:Pt->b8}:∀ps:List Pt,(∀p∈ps,Í (g p)<|u p)->dR (ps.map g) (ps.map u)
 |[],_=>.nil
 |p::ps,h=>.cons (h p b7)<|Qq ps λq hq=>h q<|cj _ hq
theorem HZ {w:dW}{K:b9}{pt:qP}{z TI TO:cn}{ps:List Pt}(ap:Zp z TI TO ps)(ne:ps≠[])(yS:ps.length<=100) :
  ó P w K (.Tuple uS kt pt) (Kf K<|ps.map Pt.q) (z::TI::TO::ps.map Pt.i) z (λi h=>IsZip h z TI TO .none/\rD h TI (ps.map λc=>.ref c.i)/\(∃us,rD h TO us/\us.length=ps.length)/\∀c∈ps,c.it h i) where
 mem:=by simp
 obj:=λi h st b hb=>by
  obtain⟨q1,q2,⟨us,q3,_⟩,q4⟩:=st;simp only[cu]at hb;rcases hb with rfl|rfl|rfl|hb
  ·exact⟨_,q1,λv y=>by cases y⟩
  ·exact⟨_,q2,λv y=>by cases y⟩
  ·exact⟨_,q3,λv y=>by cases y⟩
  ·obtain⟨c,hc,rfl⟩:=cX.mp hb;have:=q4 c hc;obtain⟨ci,l,tp⟩:=c;cases tp<;>obtain⟨o,e,_,d⟩:=this<;>exact⟨o,e,λv y=>by rw[d]at y;cases y⟩
 keep:=λi h h' st k=>by obtain⟨q1,q2,⟨us,q3,l⟩,q4⟩:=st;exact⟨k z (by simp) _ q1,k TI (by simp) _ q2,⟨us,k TO (by simp) _ q3,l⟩,λc hc=>(q4 c hc).to λo=>k c.i (by simp only[cu];exact .inr<|.inr<|.inr<|eQ hc) o⟩
 item:=by
  intro X hP hw hK hc i ce s U H E I hf st hg;subst hP hw hK;obtain⟨f,N8⟩:=ÿ hg;obtain⟨g,UE⟩:=@ÿ _ V ⟨.non⟩ _ _ λq hq=>(N8 q hq).2;have IZ:∀q∈ps.map Pt.q,Sq X.K H q (f q)/\(f q)[i]?=Z (g q):=λq hq=>⟨(N8 q hq).1,UE q hq⟩;obtain⟨c,GQ⟩:=I.sq ps λq hq=>(IZ q hq).1;obtain⟨q1,q2,⟨us,q3,l⟩,q4⟩:=st;have val:∀p∈ps,∃u,(c p.q).toArray[i]?=Z u/\Í (g p.q) u:=λp hp=>by obtain⟨u,hu,ru⟩:=(GQ p hp).1.get (IZ p.q<|eQ hp).2;exact⟨u,by simpa using hu,ru⟩
  refine D9 (X:=λp=>(c p.q).toArray) (I.ok.hd hc) ne ap yS q1 q2 q3 l q4 (λp hp=>(GQ p hp).2) (λh1 _ r1 r2 r5 r4 hk=>?_) λh' hx=>?_
  ·refine⟨_,rfl,wpAny_letOwnedTupleGo_zip (s:={ s with heap:=h1 }) r1 λh2 K0 Do=>?_⟩;have nd:=ap.nd;simp only[dz,cu,not_or]at nd;obtain⟨⟨zI,zO,zi⟩,⟨IO,Ii⟩,_⟩:=nd;have lt:∀b∈z::TI::TO::ps.map Pt.i,b<s.heap.objs.size:=λb hb=>by
    simp only[cu]at hb;rcases hb with rfl|rfl|rfl|hb
    ·exact cS q1
    ·exact cS q2
    ·exact cS q3
    ·obtain⟨c,hc,rfl⟩:=cX.mp hb;have:=q4 c hc;obtain⟨ci,l,tp⟩:=c;cases tp<;>obtain⟨o,e,_⟩:=this<;>exact cS e
   have KN:=(Do.2 _<|pC<|lt z b7).trans r5;have I1:Ê X ce U (gK H s.heap.objs.size<|.tup<|(ps.map Pt.q).map g) { s with heap:=h2,toks:=s.toks }:=by
    refine I.turnLay hf (λb o hb q=>?_) (cK _) ⟨by show _<=16777216;simp;lia,_,?_,_,KN,rfl,_,rfl⟩
    ·simp only[cu,not_or]at hb;exact(Do.2 b hb.1).trans (hk b o (by simp only[cu,not_or];exact⟨hb.1,hb.2.2⟩) q)
    ·rw[c7];exact Qq ps λp hp=>by obtain⟨u,hu,ru⟩:=val p hp;rw[gN,hu];exact ru
   refine⟨.ref s.heap.objs.size,_,I1,rfl,⟨_,g,I.hok.fresh<|cK _,rfl,rfl,λq hq xs hs=>by rw[Sq.inj I hs (IZ q hq).1];exact(IZ q hq).2⟩,
    ⟨K0,(Do.2 TI<|Ne.symm zI).trans<|hk TI _ (by simp only[cu,not_or];exact⟨Ne.symm zI,IO,Ii⟩) q2,⟨_,(Do.2 TO<|Ne.symm zO).trans r2,by simp⟩,λc hc=>(r4 c hc).to λo q=>(Do.2 c.i λe=>zi<|e▸eQ hc).trans q⟩,λb hb=>?_⟩
   rw[zu<|dG<|lt b hb];exact(hf b hb).1
  ·obtain⟨p,hp,e⟩:=hx;obtain⟨u,hu,_⟩:=val p hp;rw[hu]at e;cases e
 done:=by
  intro X hP hw hK hc i ce s U H E I hf st hg;subst hP hw hK;obtain⟨I0,q,hq,xs,hx,hl⟩:=hg;obtain⟨f,I0⟩:=ÿ I0;rw[←Sq.inj I (I0 q hq) hx]at hl;obtain⟨c,GQ⟩:=I.sq ps I0;obtain⟨q1,q2,⟨us,q3,l⟩,q4⟩:=st;obtain⟨p,hp,rfl⟩:=cX.mp hq;refine D9 (X:=λp=>(c p.q).toArray) (I.ok.hd hc) ne ap yS q1 q2 q3 l q4 (λp hp=>(GQ p hp).2) (λh1 r0 _ _ _ _ _=>?_) λh' _ eb=>⟨rfl,I.turnedL (t':=s.toks) hf λb o hb q=>eb b o (λe=>hb ?_) q⟩
  ·have:=(GQ p hp).1.length;have:=r0 p hp;rw[show(c p.q).toArray[i]?=C by simp;lia]at this;cases this
  ·simp only[cu]at e ⊢;rcases e with e|e|e
   ·exact .inl e
   ·exact .inr<|.inr<|.inl e
   ·exact .inr<|.inr<|.inr e
 self:=λ_ _ _ _ _ st h=>wpAny_pyIter_zip st.1 h
section
variable {prog:eG}{w:dW}{A:d4}{qs:List (cn×Bool)}{Y':cn×Bool->Array b8}
theorem Hk {q:cn×Bool}{xs:Array b8}(hs:(⟨0,q.1,q.2⟩:Pt).src s.heap xs)
  (hQ:∀h',(⟨s.heap.objs.size,q.1,q.2⟩:Pt).it h' 0->h'.objs.size=s.heap.objs.size+1->Up s.heap h'->Q (.ref s.heap.objs.size) { s with heap:=h' }):cW (c8 prog w) A (pyIter<|.ref q.1) Q E s:=by
 obtain⟨l,tp⟩:=q;cases tp
 ·exact uI hs<|hQ _ ⟨_,cV _ rfl,rfl,rfl⟩ (gH ..) λa o=>cv _
 ·exact wpAny_pyIter_tuple hs<|hQ _ ⟨_,cV _ rfl,rfl,rfl⟩ (gH ..) λa o=>cv _
theorem BK {Q:List b8->cF->Prop}(hs:∀q∈qs,(⟨0,q.1,q.2⟩:Pt).src s.heap<|Y' q)
  (hQ:∀h' (ps:List Pt),ps.map Pt.q=qs->ps.map Pt.i=jI s.heap.objs.size qs.length->(∀p∈ps,p.it h' 0)->h'.objs.size=s.heap.objs.size+qs.length->Up s.heap h'->Q (ps.map λp=>.ref p.i) { s with heap:=h' }) :
  cW (c8 prog w) A (Builtin.SmallTypes.iterAll<|qs.map λq=>.ref q.1) Q E s:=by
 unfold Builtin.SmallTypes.iterAll;refine cy<|wpAny_forIn_list _ (λl b s'=>∃(Î:List<|cn×Bool) (ps:List Pt) (h:cO),qs=ps.map Pt.q++Î/\l=Î.map (λq=>b8.ref q.1)/\b=(ps.map λp=>b8.ref p.i).toArray/\s' = { s with heap:=h } /\
  ps.map Pt.i=jI s.heap.objs.size ps.length/\(∀p∈ps,p.it h 0)/\h.objs.size=s.heap.objs.size+ps.length/\Up s.heap h) _ ?_ ?_ _ _ ⟨qs,[],s.heap,rfl,rfl,rfl,rfl,rfl,nofun,rfl,λ_ _ e=>e⟩
 ·rintro x l b s' ⟨Î,ps,h,ec,el,rfl,rfl,ei,hp,hn,hf⟩;cases Î with
  |nil=>cases el
  |cons q Î=>
   cases el;refine cy (mM<|Hk (xs:=Y' q) ((hs q<|by rw[ec];simp).to λo=>hf _ o) λh' a b c=>di ?_);refine⟨Î,ps++[⟨h.objs.size,q.1,q.2⟩],h',by rw[ec];simp,rfl,by simp,rfl,?_,λp yV=>?_,?_,λa o e=>c _ _<|hf a o e⟩
   ·simp[ei,hn,List.range'_concat]
   ·rcases cH.mp yV with yV|yV
    ·exact(hp p yV).to λo=>c _ o
    ·cases cw.mp yV;exact a
   ·rw[b];show h.objs.size+1=_;rw[hn];simp;lia
 ·rintro b s' ⟨Î,ps,h,ec,el,rfl,rfl,ei,hp,hn,hf⟩;cases Î with
  |cons=>cases el
  |nil=>
   rw[dH]at ec;have el:qs.length=ps.length:=by rw[ec];simp
   exact di (hQ h ps ec.symm (by rw[ei,el]) hp (by rw[hn,el]) hf)
end
theorem E5 (qs:List<|cn×Bool)(Y':cn×Bool->Array b8)(yS:qs.length<=100) :
    Meets (Builtin.«zip.__new__» ⟨.type "zip"::qs.map (λq=>.ref q.1),[]⟩) (λ_ R s=>(∀q∈qs,(⟨0,q.1,q.2⟩:Pt).src s.heap<|Y' q) /\
      ∀h' (ps:List Pt),ps.map Pt.q=qs->ps.map Pt.i=jI s.heap.objs.size qs.length->(∀p∈ps,p.it h' 0)->IsZip h' (s.heap.objs.size+qs.length+2) (s.heap.objs.size+qs.length) (s.heap.objs.size+qs.length+1) .none ->
        rD h' (s.heap.objs.size+qs.length) (ps.map λp=>.ref p.i)->rD h' (s.heap.objs.size+qs.length+1) (ps.map λ_=>.none)->Up s.heap h' ->
        R (.ok<|.ret<|.ref<|s.heap.objs.size+qs.length+2) { s with heap:=h' }) :=
  .of_wp λprog w A R s h=>by
    obtain⟨h1,h2⟩:=h;have UT:=sub_zip;unfold Builtin.«zip.__new__»
    wp_walk using BK h1
    intro h' ps eq ei hp hn hf;have hl:ps.length=qs.length:=by rw[←eq];simp
    rw[c7];refine cy (wpAny_newTuple ?_<|by show _<=16777216;simp;lia);refine cy (wpAny_newTuple ?_<|by show _<=16777216;simp;lia)
    wp_walk
    refine⟨_,rfl,?_⟩;generalize eT:({ cls:=.type "tuple",data:=.seq (ps.map λp=>b8.ref p.i).toArray }:iU)=oT;generalize eO:({ cls:=.type "tuple",data:=.seq (ps.map<|(λ_=>b8.none) ∘ λp=>b8.ref p.i).toArray }:iU)=oO;have n1:(h'.push oT).objs.size=s.heap.objs.size+qs.length+1:=by rw[gH,hn]
    have n2:((h'.push oT).push oO).objs.size=s.heap.objs.size+qs.length+2:=by rw[gH,n1]
    show R (.ok<|.ret<|.ref ((h'.push oT).push oO).objs.size) { s with heap:=((h'.push oT).push oO).push { cls:=.type "zip",data:=.fields #[.none,.bool Ã,.bool Ã,.ref h'.objs.size,.ref (h'.push oT).objs.size] } };have up:∀o a b,h'.get? a=Z b->(((h'.push oT).push oO).push o).get? a=Z b:=λo a b e=>cv _<|cv _<|cv _ e;have gT:∀o,(((h'.push oT).push oO).push o).get? h'.objs.size=Z oT:=λo=>cv _ (cv _<|cV _<|by rw[←eT];rfl);have gO:∀o,(((h'.push oT).push oO).push o).get? (h'.push oT).objs.size=Z oO:=λo=>cv _ (cV _<|by rw[←eO];rfl);have gZ:∀o:iU,o.isFreed=Ã->(((h'.push oT).push oO).push o).get? ((h'.push oT).push oO).objs.size=Z o:=λo e=>cV _ e;rw[n2]at gZ ⊢;rw[n1]at gO ⊢;rw[hn]at gT ⊢;exact h2 _ ps eq ei (λp yV=>(hp p yV).to λo=>up _ _ o) (gZ _ rfl) ((gT _).trans<|by rw[←eT]) ((gO _).trans<|by rw[←eO];rfl) λa o e=>up _ _ _<|hf a o e
theorem Qr:∀{qs:List (cn×Bool)} {us:List b8},dR (qs.map λq=>.ref q.1) us->us=qs.map λq=>.ref q.1
 |[],_,.nil=>rfl
 |q::qs,_,.cons r t=>by rw[Qr t];cases r;rfl
theorem Zp.new {ps:List Pt}(ei:ps.map Pt.i=jI n ps.length)(hl:∀p∈ps,p.l<n):Zp (n+ps.length+2) (n+ps.length) (n+ps.length+1) ps where
 nd:=by rw[ei];simp only[dz,cu,not_or,rS];exact⟨⟨by simp only[cn]at *;lia,by simp only[cn]at *;lia,by simp only[cn]at *;lia⟩,⟨by simp only[cn]at *;lia,by simp only[cn]at *;lia⟩,by simp only[cn]at *;lia,List.nodup_range'⟩
 ls:=λc hc=>by have:=hl c hc;rw[ei];simp only[cu,not_or,rS];exact⟨by simp only[cn]at *;lia,by simp only[cn]at *;lia,by simp only[cn]at *;lia⟩
section
variable {pt:qP}
def Hh (K:b9)(m:Nat)(ta:TA):TI:=λU H R=>ta U H λvs H1=>∃qs:List (cn×Bool),qs.length=m/\vs=qs.map (λq=>.ref q.1)/\(∀q∈qs,∃xs,Sq K H1 q xs)/\R (Kf K qs) H1
theorem OH {ta:TA}{m:Nat}(m0:m≠0)(m1:m<=100)
  (ok:∀us:List b8,us.length=m->checkTypeCall "zip" ⟨us,[]⟩=pure ()/\checkBuiltinCall "zip.__new__" ⟨.type "zip"::us,[]⟩=pure ()/\∀obj,argsOk "object.__init__" ⟨obj::us,[]⟩)
  (hg:Gl X "zip") (hm:X.mg "zip"=C) (ha:PA X (e::es) ta) (he:SE X e es) (hp:rc X pos es) :
  PI X (.Tuple uS kt pt) (.Call (.Name "zip" p) (e::es) [] pos) (Hh X.K m ta):=by
 intro ce s U H R I h;refine Call_<|uz I hg hm PyProof.Rows.boot_zip<|eh (fU (ha pos ce s U H _ I h) λus s1 hq=>?_) he hp;obtain⟨vs,H1,I1,r1,qs,hl,rfl,hf,q⟩:=hq;obtain⟨f,hf⟩:=ÿ hf;have eu:=Qr r1;subst eu;obtain⟨o1,o2,o3⟩:=ok (qs.map λq=>.ref q.1) (by simpa using hl);have mm:(qs.map λq=>(⟨0,q.1,q.2⟩:Pt)).map Pt.q=qs:=by rw[c7];exact List.map_id _
 obtain⟨c,hc⟩:=I1.sq (qs.map λq=>(⟨0,q.1,q.2⟩:Pt)) (f:=f) (by rw[mm];exact hf);have hs:∀q∈qs,(⟨0,q.1,q.2⟩:Pt).src s1.heap (c q).toArray:=λq hq=>(hc ⟨0,q.1,q.2⟩<|cX.mpr ⟨q,hq,rfl⟩).2;refine callType_new F.called_zip (by decide) o1 o2 o3 F.entry_zip_new (E5 qs (λq=>(c q).toArray)<|by lia) ⟨hs,λh' ps eq ei hp hz IU IV hk=>?_⟩;have pl:ps.length=qs.length:=by rw[←eq];simp
 show _/\_;refine⟨⟨_,hz,rfl⟩,wpAny_pyIter_zip (s:={ s1 with heap:=h' }) hz ?_⟩;rw[←pl]at hz IU IV ei ⊢;have lt:∀p∈ps,p.l<s1.heap.objs.size:=λp hp=>by have:=hs p.q<|eq▸eQ hp;obtain⟨i,l,tp⟩:=p;cases tp<;>obtain⟨_,q,_⟩:=this<;>exact cS q
 refine⟨_,_,_,_,H1,rfl,I1.kept (t':=s1.toks) hk,(HZ (Zp.new ei lt) (λe=>m0<|by rw[←hl,←pl,e];rfl)<|by lia).ok,⟨hz,IU,⟨_,IV,by simp⟩,hp⟩,λb hb=>?_,eq▸q⟩;have:s1.heap.objs.size<=b:=by rw[ei]at hb;simp only[cu,rS]at hb;simp only[cn]at *;lia
 exact I1.fpOk this<|I1.hok.fresh this
end
end
section
open PySem PySem.Spec PyProof.Rows
theorem Ws (a b c:b8):checkTypeCall "zip" ⟨[a,b,c],[]⟩=pure ():=by kernel_rfl
theorem Wy (a b c:b8):checkBuiltinCall "zip.__new__" ⟨[.type "zip",a,b,c],[]⟩=pure ():=by kernel_rfl
theorem X6 (a b c d:b8):argsOk "object.__init__" ⟨[a,b,c,d],[]⟩:=by unfold argsOk;rw[signature?_of (id:="object.__init__") (n:=['_','_','t','i','n','i','_','_']) (o:=['t','c','e','j','b','o']) (by kernel_rfl) F.owner_object];kernel_rfl
theorem zrw (us:List b8)(h:us.length=3):checkTypeCall "zip" ⟨us,[]⟩=pure ()/\checkBuiltinCall "zip.__new__" ⟨.type "zip"::us,[]⟩=pure ()/\∀obj,argsOk "object.__init__" ⟨obj::us,[]⟩:=by
 match us,h with
 |[a,b,c],_=>exact⟨Ws _ _ _,Wy _ _ _,λobj=>X6 obj _ _ _⟩
end
variable {O:List b8}{ou:List V}
end L2
namespace PySem
variable {A:d4}{prog:eG}{w:dW}
end PySem
namespace L2
open PySem PySem.Spec PyProof.Rows
variable {α:Type}
noncomputable def every2 {α:Type}:List α->List α
 |[]=>[]
 |[x]=>[x]
 |x::_::r=>x::every2 r
variable {β:Type}
theorem qh {α β:Type}(f:α->β):∀xs:List α,every2 (xs.map f)=(every2 xs).map f
 |[]=>rfl
 |[_]=>rfl
 |x::y::r=>congrArg (f x::·)<|qh f r
theorem Pq {α:Type}:∀(xs:List α) (k:Nat),(every2 xs)[k]?=xs[2*k]?
 |[],k=>by simp[every2]
 |[x],0=>rfl
 |[x],k+1=>by simp[every2]
 |x::y::r,0=>rfl
 |x::y::r,k+1=>by show(every2 r)[k]?=_;rw[Pq r k,show 2*(k+1)=2*k+1+1 by lia];rfl
theorem ur {α:Type}:∀(xs:List α),(every2 xs).length=(xs.length+1)/2
 |[]=>by simp[every2]
 |[x]=>by simp[every2]
 |x::y::r=>by show(every2 r).length+1=(r.length+1+1+1)/2;rw[ur r];lia
theorem YM (dP:List b8)(i:Nat):slicePick dP.toArray (Z (i:Int)) C (Z 2)=(every2<|dP.drop i).toArray:=by
 unfold slicePick ki sliceRange;congr 1;have h1:(2:Int) > 0:=by decide
 have h2:¬((i:Int)<0):=by lia
 simp only[rV,h1,h2,if_true,if_false,cQ];have hm:max 0 (min (i:Int) (dP.length:Int))=((min i dP.length:Nat):Int):=by lia
 rw[hm];have hc:((if((min i dP.length:Nat):Int)<(dP.length:Int)then((dP.length:Int)-((min i dP.length:Nat):Int)+2-1)/2 else 0)).toNat=(every2<|dP.drop i).length:=by rw[ur,eM];split<;>lia
 rw[hc,Ao];have e:∀k∈cE (every2<|dP.drop i).length,(((λx=>dP.toArray[x]?) ∘ λ(k:Nat)=>(((min i dP.length:Nat):Int)+2*(k:Int)).toNat) k)=(every2<|dP.drop i)[k]?:=λk hk=>by have hk:=dm.mp hk;rw[ur,eM]at hk;show dP.toArray[(((min i dP.length:Nat):Int)+2*(k:Int)).toNat]?=_;rw[show(((min i dP.length:Nat):Int)+2*(k:Int)).toNat=i+2*k by lia,xQ,Pq,rq]
 have fm:∀(F:Nat->Option b8) (ys:List b8) (l:List Nat),(∀k∈l,F k=ys[k]?/\k<ys.length)->l.filterMap F=l.map λk=>(ys[k]?).getD .none:=by
  intro F ys l;induction l with
  |nil=>exactλ_=>rfl
  |cons k l ih=>intro h;obtain⟨h2,h3⟩:=h k b7;have h4:ys[k]?=Z ys[k]:=cC h3;rw[jX,h2,h4,cI,ih λk hk=>h k (cj _ hk),h4];rfl
 rw[fm _ (every2<|dP.drop i) _ λk hk=>⟨e k hk,dm.mp hk⟩];apply oK
 ·simp
 ·intro j h2 h3;simp only[jS,rA];rw[cC h3];rfl
variable {us:List b8}{xs:List V}
theorem dR.every2 (r:dR xs us):dR (every2 xs) (every2 us):=by
 have:∀(n:Nat) (xs:List V) (us:List b8),xs.length<=n->dR xs us->dR (L2.every2 xs) (L2.every2 us):=by
  intro n;induction n with
  |zero=>
   intro xs us hl r;cases r with
   |nil=>exact .nil
   |cons _ _=>simp at hl
  |succ n ih=>
   intro xs us hl r;cases r with
   |nil=>exact .nil
   |cons h t=>
    cases t with
    |nil=>exact .cons h .nil
    |cons h2 t2=>exact .cons h (ih _ _ (by simp at hl;lia) t2)
 exact this _ _ _ (cK _) r
theorem dR.dropN (r:dR xs us):∀n,dR (xs.drop n) (us.drop n):=by
 induction r with
 |nil=>intro n;cases n<;>exact .nil
 |cons h t ih=>intro n;cases n with
  |zero=>exact .cons h t
  |succ n=>exact ih n
variable {E Q:b8->cF->Prop}{X:Cx}{e:Expr}{p2 pos:qP}{s:cF}{te:TE}{x:Str}
section
variable {sl sp:Expr}{tl tp:TO}
def HX (K:b9)(te:TE)(tl tp:TO):TE:=λU H Q=>te U H λx H1=>tl U H1 λol H2=>tp U H2 λo H3=>∃(i:Nat) (a:cn) (xs:List V),ol=Z (i:Int)/\o=Z 2/\x=.ref a/\jJ K H3 a xs/\∀p,H3 p=C->Q (.ref p) (gK H3 p<|.lst<|every2<|xs.drop i)
theorem zrx (he:PE X e te)(hl:PO X (Z sl) tl)(hp:PO X (Z sp) tp):PE X (.Subscript e (.Slice (Z sl) C (Z sp) p2) pos) (HX X.K te tl tp):=by intro ce s U H Q I h;refine Subscript_<|fU (he ce s U H _ I h) λv s1 gx=>?_;obtain⟨x,H1,I1,r1,q1⟩:=gx;refine wpAny_Slice ?_;refine fU (hl ce s1 U H1 _ I1 q1) λvl s2 gx=>?_;obtain⟨ol,H2,I2,pl,q2⟩:=gx;rw[sQ];refine di ?_;refine fU (hp ce s2 U H2 _ I2 q2) λvp s3 gx=>?_;obtain⟨o,H3,I3,pp,q3⟩:=gx;obtain⟨i,a,xs,rfl,rfl,rfl,hx,q⟩:=q3;cases r1;have I4:Ê X ce U H3 { s3 with heap:=s3.heap.push { cls:=.type "slice",data:=.fields #[vl,.none,vp] } }:=I3.kept (t':=s3.toks) λb ob q=>cv _ q;obtain⟨dP,r,ht,hz⟩:=I4.list hx;have iI:=r.length;refine tail_any (ops:=[.ref a,.ref s3.heap.objs.size]) (s:={ s3 with heap:=s3.heap.push { cls:=.type "slice",data:=.fields #[vl,.none,vp] } }) (T:="list") ht.isList.typeIs pj.lookup ?_ (by with_unfolding_all rfl);refine pE ht.isList (uK.new ..) pl .none pp (by simp) ?_ (by rw[cQ]<;>lia);rw[YM];refine⟨.ref _,_,I4.laid (t':=s3.toks) (o:=.lst<|every2<|xs.drop i) (λb ob q=>cv _ q) (cK _) ?_,rfl,q _<|I4.hok.fresh<|cK _⟩;exact⟨by rw[ur,eM];lia,_,0,(r.dropN i).every2,cV _ rfl⟩
theorem XB {prog:eG}{w:dW}{A:d4}{y:Str}{t u:Tok}(hy:(y.length==0)=Ã)(hx:x.length<=sizeLine)(hn:(Txt.split x y).length<=sizeLine)
    (h:∀(l:List<|Str×Tok) k,l.map (·.1)=Txt.split x y->Q (.ref s.heap.objs.size) { s with heap:=s.heap.push { cls:=.type "list",data:=.seq (strValues l).toArray },toks:=k }):cW (c8 prog w) A (call (.builtin "str.split") [.str x t,.str y u]) Q E s:=by
  cases h1:(decide (x.length<y.length) || decide (PySem.Builtin.Str.strKind x<PySem.Builtin.Str.strKind y))with
  |true=>exact mH F.slot_str_split (typeIs_str _ _ _) F.entry_str_split (F.args_str_split_2 _ _) (meets_str_split_cannot_occur x y t u h1) (h [(x,t)] s.toks<|by unfold Txt.split;rw[if_pos h1];rfl)
  |false=>
    cases hf:(Builtin.Str.occurrences x y 0 x.length<|x.length+1).isEmpty with
    |true=>exact mH F.slot_str_split (typeIs_str _ _ _) F.entry_str_split (F.args_str_split_2 _ _) (meets_str_split_not_found x y t u h1 hy hf) (h [(x,t)] s.toks<|by unfold Txt.split;rw[h1,if_neg cJ,if_pos hf];rfl)
    |false=>
      have e:Txt.split x y=Builtin.Str.partsBetween x (Builtin.Str.occurrences x y 0 x.length<|x.length+1) y.length:=by unfold Txt.split;rw[h1,if_neg cJ,hf,if_neg cJ]
      rw[e]at hn;refine mH F.slot_str_split (typeIs_str _ _ _) F.entry_str_split (F.args_str_split_2 _ _) (meets_str_split_sep x y t u h1 hy hf hx hn) ?_;have:=h (numbered s.toks<|Builtin.Str.partsBetween x (Builtin.Str.occurrences x y 0 x.length<|x.length+1) y.length) (s.toks+(Builtin.Str.partsBetween x (Builtin.Str.occurrences x y 0 x.length<|x.length+1) y.length).length)<|(numbered_texts _ _).trans e.symm;rw[←strsFrom_eq]at this;exact this
theorem oE:∀l:List (Str×Tok),dR ((l.map (·.1)).map V.str) (strValues l)
 |[]=>.nil
 |(x,t)::l=>.cons ⟨t,rfl⟩<|oE l
def Fa:V->List V->Hp->VK->Prop:=λx vs H Q=>∃y z,x=.str y/\vs=[.str z]/\(z.length==0)=Ã/\y.length<=sizeLine/\(Txt.split y z).length<=sizeLine/\∀p,H p=C->Q (.ref p) (gK H p<|.lst<|(Txt.split y z).map V.str)
theorem YN:Gm X "str.split" Fa:=by intro ce s U H x vs v us Q I rx rv h;obtain⟨y,z,rfl,rfl,hz,hy,hn,q⟩:=h;obtain⟨tk,rfl⟩:=rx;obtain⟨u,rfl,ru⟩:=rv.one;obtain⟨tu,rfl⟩:=ru;refine XB hz hy hn λl k e=>?_;rw[←e]at hn q;refine⟨.ref _,_,I.laid (t':=k) (o:=.lst<|(l.map (·.1)).map V.str) (λb ob q=>cv _ q) (cK _) ?_,rfl,q _<|I.hok.fresh<|cK _⟩;exact⟨by rw[ck];exact hn,_,0,oE l,cV _ rfl⟩
theorem we:iL X (.type "int") (λxs H Q=>∃y i,xs=[.str y]/\PySem.intText? y=Z i/\y.length<=640/\Q (.int i) H):=by intro ce s U H xs us Q I r h;obtain⟨y,i,rfl,hi,hl,q⟩:=h;obtain⟨u,rfl,rx⟩:=sN r;obtain⟨tk,rfl⟩:=rx;exact PySem.W.KIN.call_text hi hl ⟨.int i,H,I.tok _,⟨_,rfl⟩,q⟩
end
variable {tg:Expr}
variable {f:cn}{fd:cD}{p:qP}{ps:List Str}{sp:Sp}
def HJ:V->List V->Hp->VK->Prop:=λx vs H Q=>∃y z,x=.str y/\vs=[.str z]/\(z.length==0)=Ã/\y.length<=sizeLine/\∀p,H p=C->Q (.ref p) (gK H p<|.tup [.str (Txt.partition y z).1,.str (Txt.partition y z).2.1,.str (Txt.partition y z).2.2])
theorem zry:Gm X "str.partition" HJ:=by
 intro ce s U H x vs v us Q I rx rv h;obtain⟨y,z,rfl,rfl,hz,hy,q⟩:=h;obtain⟨tk,rfl⟩:=rx;obtain⟨u,rfl,ru⟩:=rv.one;obtain⟨tu,rfl⟩:=ru;refine mH F.slot_str_partition (typeIs_str _ _ _) F.entry_str_partition (F.args_str_partition_2 _ _) (meets_str_partition y z tk tu hz hy) ?_;unfold Txt.partition at q
 revert q
 cases Builtin.Str.occurrences y z 0 y.length 1 with
 |nil=>exactλq=>⟨.ref _,_,I.laid (t':=_) (o:=.tup [.str _,.str _,.str _]) (λb ob q=>cv _ q) (cK _) ⟨by show 3<=sizeLine;decide,_,.cons ⟨_,rfl⟩<|.cons ⟨_,rfl⟩<|.cons ⟨_,rfl⟩ .nil,⟨_,cV _ rfl,rfl,_,rfl⟩⟩,rfl,q _<|I.hok.fresh<|cK _⟩
 |cons i r=>exactλq=>⟨.ref _,_,I.laid (t':=_) (o:=.tup [.str _,.str _,.str _]) (λb ob q=>cv _ q) (cK _) ⟨by show 3<=sizeLine;decide,_,.cons ⟨_,rfl⟩<|.cons ⟨_,rfl⟩<|.cons ⟨_,rfl⟩ .nil,⟨_,cV _ rfl,rfl,_,rfl⟩⟩,rfl,q _<|I.hok.fresh<|cK _⟩
end L2
namespace Fq
theorem gcd_step (a b:Int):iz b (a.fmod b)=iz a b:=by rw[Int.fmod_def,Int.gcd_sub_mul_left_right,Int.gcd_comm]
variable {b:Int}
theorem fmod_less (a:Int)(hb:b≠0):(a.fmod b).natAbs<b.natAbs:=by
 rcases Int.lt_or_gt_of_ne hb with h|h
 ·have h1:=AR (-a) (b:=-b) (by lia);have h2:=xK (-a) (b:=-b) (by lia);have e:(-a).fmod (-b) = -(a.fmod b):=Int.neg_fmod_neg ..;lia
 ·have h1:=AR a h;have h2:=xK a h;lia
theorem gcd_end (a:Int):(if a<0 then -a else a)=((iz a 0:Nat):Int):=by rw[Int.gcd_zero_right];split<;>lia
noncomputable def dv (t b:Int):Int:=if b<0 then -((iz t b:Nat):Int)else((iz t b:Nat):Int)
def mk (t b:Int):Int×Int:=(t.fdiv<|dv t b,b.fdiv<|dv t b)
structure Low (q:Int×Int):Prop where
 pos:1<=q.2
 cop:iz q.1 q.2=1
variable {t:Int}
theorem gcd_pos (hb:b≠0):0<iz t b:=Int.gcd_pos_of_ne_zero_right t hb
theorem NG (hb:b≠0):dv t b≠0:=by have:=gcd_pos (t:=t) hb;unfold dv;split<;>lia
theorem So (t b:Int):(dv t b).natAbs=iz t b:=by unfold dv;split<;>lia
theorem dv_le (hb:b≠0):(dv t b).natAbs<=b.natAbs:=by rw[So];exact Nat.le_of_dvd (by lia) (Int.natAbs_dvd_natAbs.mpr (sj t b)|> λh=>by simpa using h)
theorem Ph (t b:Int):dv t b ∣ t:=by
 unfold dv;split
 ·exact Int.neg_dvd.mpr<|Cd t b
 ·exact Cd t b
theorem Pa (t b:Int):dv t b ∣ b:=by
 unfold dv;split
 ·exact Int.neg_dvd.mpr<|sj t b
 ·exact sj t b
theorem M7 (t b:Int):t=dv t b*(mk t b).1:=by show t=dv t b*t.fdiv (dv t b);rw[wR<|Ph t b,zN<|Ph t b]
theorem M8 (t b:Int):b=dv t b*(mk t b).2:=by show b=dv t b*b.fdiv (dv t b);rw[wR<|Pa t b,zN<|Pa t b]
theorem mk_low (hb:b≠0):Low (mk t b):=by
 have e1:=M7 t b;have S:=M8 t b;have hd:=NG (t:=t) hb;have hg:=gcd_pos (t:=t) hb;constructor
 ·have hs:(b<0/\dv t b<0)\/(0<b/\0<dv t b):=by unfold dv;split<;>lia
  rcases hs with⟨h1,h2⟩|⟨h1,h2⟩
  ·rcases Int.lt_or_le (mk t b).2 1 with h|h
   ·have:0<=dv t b*(mk t b).2:=rP (by lia) (by lia);lia
   ·exact h
  ·rcases Int.lt_or_le (mk t b).2 1 with h|h
   ·have:dv t b*(mk t b).2<=0:=Int.mul_nonpos_of_nonneg_of_nonpos (by lia) (by lia);lia
   ·exact h
 ·have h:iz (dv t b*(mk t b).1) (dv t b*(mk t b).2)=iz t b:=by rw[←e1,←S]
  rw[Int.gcd_mul_left,So]at h;exact Nat.eq_of_mul_eq_mul_left hg (by rw[h,zS])
theorem mk_cross (t b:Int):(mk t b).1*b=t*(mk t b).2:=by
 have e1:=M7 t b;have S:=M8 t b;generalize (mk t b).1=x,(mk t b).2=y,dv t b=d at *;subst e1;rw[S]
 grind
theorem Ps {d x:Int}(hd:d≠0):x.natAbs<=(d*x).natAbs:=by rw[DH];exact Nat.le_mul_of_pos_left _ (by lia)
theorem mk_le_one (hb:b≠0):(mk t b).1.natAbs<=t.natAbs:=by have h:=Ps (x:=(mk t b).1)<|NG (t:=t) hb;rwa[←M7]at h
theorem mk_le_two (hb:b≠0):(mk t b).2.natAbs<=b.natAbs:=by have h:=Ps (x:=(mk t b).2)<|NG (t:=t) hb;rwa[←M8]at h
def plus (p q:Int×Int):Int×Int:=mk (p.1*q.2+q.1*p.2)<|p.2*q.2
def scaled (p:Int×Int)(n:Int):Int×Int:=mk (p.1*n) p.2
def minus (p q:Int×Int):Int×Int:=plus p<|scaled q<|-1
noncomputable def under (p q:Int×Int):Bool:=decide<|p.1*q.2<q.1*p.2
variable {q:Int×Int}
theorem Low.ne (h:Low q):q.2≠0:=by have:=h.pos;lia
variable {p:Int×Int}
theorem Low.mul_ne (h:Low p)(h':Low q):p.2*q.2≠0:=Int.mul_ne_zero h.ne h'.ne
theorem plus_low (h:Low p)(h':Low q):Low (plus p q):=mk_low<|h.mul_ne h'
theorem scaled_low (h:Low p)(n:Int):Low (scaled p n):=mk_low h.ne
theorem minus_low (h:Low p)(h':Low q):Low (minus p q):=plus_low h<|scaled_low h' _
theorem plus_v (p q:Int×Int):(plus p q).1*(p.2*q.2)=(p.1*q.2+q.1*p.2)*(plus p q).2:=mk_cross _ _
theorem YO (p:Int×Int)(n:Int):(scaled p n).1*p.2=(p.1*n)*(scaled p n).2:=mk_cross _ _
theorem minus_v (h':Low q):(minus p q).1*(p.2*q.2)=(p.1*q.2-q.1*p.2)*(minus p q).2:=by
 have e1:=plus_v p<|scaled q<|-1;have S:=YO q<|-1;have hs:=(scaled_low h'<|-1).ne;show(plus p<|scaled q<|-1).1*(p.2*q.2)=(p.1*q.2-q.1*p.2)*(plus p<|scaled q<|-1).2;have k:(scaled q<|-1).2*((plus p<|scaled q<|-1).1*(p.2*q.2))=(scaled q<|-1).2*((p.1*q.2-q.1*p.2)*(plus p<|scaled q<|-1).2):=by grind
 exact Int.eq_of_mul_eq_mul_left hs k
theorem lt_congr {n d m e n' d' m' e':Int}(hd:0<d)(he:0<e)(GR:0<d')(Uz:0<e')(h:n*e=m*d)(h':n' * e'=m' * d'):(n*d'<n' * d↔m*e'<m' * e):=by
 have p1:0<e*e':=gr he Uz;have p2:0<d*d':=gr hd GR;have k:(e*e')*(n' * d-n*d')=(d*d')*(m' * e-m*e'):=by grind
 constructor
 ·intro q;have:0<(d*d')*(m' * e-m*e'):=by rw[←k];exact gr p1 (by lia)
  have:=wG this (by lia);lia
 ·intro q;have:0<(e*e')*(n' * d-n*d'):=by rw[k];exact gr p2 (by lia)
  have:=wG this (by lia);lia
theorem Low.gt (h:Low q):0<q.2:=by have:=h.pos;lia
end Fq
namespace L3
open PySem PySem.Spec L2
open PyProof.Rows hiding St
inductive D where
 |non|bl (b:Bool)|int (i:Int)|str (x:Str)
 |lst (xs:List D)|tup (xs:List D)|dK (ks:List jU) (O:List D)|dT (ks:List<|List jU) (O:List D)
 |obj (c:Nat) (ns:List Str) (O:List D)
 |exc (c:Nat) (ns:List Str) (O:List D)
 |kt (xs:List D)
 deriving Inhabited
class inductive Pr (R:D->V->Prop):List D->List V->Prop
 |nil:Pr R [] []
 |cons {d:D} {v:V} {O:List D} {vs:List V}:R d v->Pr R O vs->Pr R (d::O) (v::vs)
variable {R:D->V->Prop}{O:List D}
theorem Pr.mono {R':D->V->Prop}(f:∀d v,R d v->R' d v){vs:List V}(h:Pr R O vs):Pr R' O vs:=by
 induction h with
 |nil=>exact .nil
 |cons h t ih=>exact .cons (f _ _ h) ih
theorem Pr.length {vs:List V}(h:Pr R O vs):O.length=vs.length:=by
 induction h with
 |nil=>rfl
 |cons h t ih=>rw[cz,cz,ih]
variable {d:D}{i:Nat}
theorem Pr.get' {vs:List V}(h:Pr R O vs)(e:O[i]?=Z d):∃v,vs[i]?=Z v/\R d v:=by
 induction h generalizing i with
 |nil=>cases e
 |cons h t ih=>
  cases i with
  |zero=>cases e;exact⟨_,rfl,h⟩
  |succ i=>exact ih e
variable {us:List V}
theorem Pr.append {es:List D}{vs:List V}(h:Pr R O vs)(s:Pr R es us):Pr R (O++es) (vs++us):=by
 induction h with
 |nil=>exact s
 |cons h t ih=>exact .cons h ih
theorem Pr.take {vs:List V}(n:Nat)(h:Pr R O vs):Pr R (O.take n) (vs.take n):=by
 induction h generalizing n with
 |nil=>cases n<;>exact .nil
 |cons h t ih=>cases n with
  |zero=>exact .nil
  |succ n=>exact .cons h<|ih n
theorem Pr.drop {vs:List V}(n:Nat)(h:Pr R O vs):Pr R (O.drop n) (vs.drop n):=by
 induction h generalizing n with
 |nil=>cases n<;>exact .nil
 |cons h t ih=>cases n with
  |zero=>exact .cons h t
  |succ n=>exact ih n
theorem Pr.reverse {vs:List V}(h:Pr R O vs):Pr R O.reverse vs.reverse:=by
 induction h with
 |nil=>exact .nil
 |cons h t ih=>rw[kZ,kZ];exact ih.append<|.cons h .nil
theorem Pr.rep {vs:List V}(h:Pr R O vs)(k:Nat):Pr R (cB k O).flatten (cB k vs).flatten:=by
 induction k with
 |zero=>exact .nil
 |succ k ih=>rw[eZ,ip,eZ,ip];exact h.append ih
mutual
inductive Dt (K:b9)(M:Nat->cn)(F:Hp):D->V->Prop
 |non:Dt K M F .non .non
 |bl (b:Bool):Dt K M F (.bl b) (.bl b)
 |int (i:Int):Dt K M F (.int i) (.int i)
 |str (x:Str):Dt K M F (.str x) (.str x)
 |lst {a:cn} {vs:List V} {O:List D}:jJ K F a vs->ä K M F O vs->Dt K M F (.lst O) (.ref a)
 |tup {a:cn} {vs:List V} {O:List D}:F a=Z (.tup vs)->ä K M F O vs->Dt K M F (.tup O) (.ref a)
 |dK {a:cn} {ks:List jU} {vs:List V} {O:List D}:F a=Z (.dK<|ks.zip vs)->ks.length=vs.length->ä K M F O vs->Dt K M F (.dK ks O) (.ref a)
 |dT {a:cn} {ks:List (List jU)} {vs:List V} {O:List D}:Rd F a (.dT<|ks.zip vs)->ks.length=vs.length->ä K M F O vs->Dt K M F (.dT ks O) (.ref a)
 |obj {a dx:cn} {c:Nat} {ns:List Str} {vs:List V} {O:List D}:F a=Z (.ins (M c) dx<|ns.zip vs)->ns.length=vs.length->ä K M F O vs->Dt K M F (.obj c ns O) (.ref a)
 |exc0 {a:cn} {c:Nat} {tb:Option cn}:F a=Z (O2 a (M c) C tb)->Dt K M F (.exc c [] []) (.ref a)
 |exc {a dx:cn} {c:Nat} {tb:Option cn} {ns:List Str} {vs:List V} {O:List D}:F a=Z (O2 a (M c) (Z dx) tb)->F dx=Z (.xd<|ns.zip vs)->ns.length=vs.length->ä K M F O vs->Dt K M F (.exc c ns O) (.ref a)
 |kt {a:cn} {vs:List V} {O:List D}:Gk K a vs->ä K M F O vs->Dt K M F (.kt O) (.ref a)
inductive ä (K:b9)(M:Nat->cn)(F:Hp):List D->List V->Prop
 |nil:ä K M F [] []
 |cons {d:D} {v:V} {O:List D} {vs:List V}:Dt K M F d v->ä K M F O vs->ä K M F (d::O) (v::vs)
end
variable {B B' F F' W' G' H H':Hp}{K:b9}{M:Nat->cn}
theorem ä.pr {vs:List V}(h:ä K M F O vs):Pr (Dt K M F) O vs:=by
 induction O generalizing vs with
 |nil=>cases h;exact .nil
 |cons d O ih=>cases h with|cons h t=>exact .cons h<|ih t
theorem ä.of {vs:List V}(h:Pr (Dt K M F) O vs):ä K M F O vs:=by
 induction h with
 |nil=>exact .nil
 |cons h t ih=>exact .cons h ih
theorem Dt.mono (s:dQ F F'){v:V}(h:Dt K M F d v):Dt K M F' d v :=
 Dt.rec (motive_1:=λd v _=>Dt K M F' d v) (motive_2:=λd v _=>ä K M F' d v) .non .bl .int .str (λh _ t=>.lst (s.seq h) t) (λh _ t=>.tup (s _ _ h) t) (λh l _ t=>.dK (s _ _ h) l t) (λh l _ t=>.dT (s.rd h) l t) (λh l _ t=>.obj (s _ _ h) l t) (λh=>.exc0<|s _ _ h) (λh h' l _ t=>.exc (s _ _ h) (s _ _ h') l t) (λh _ t=>.kt h t) .nil (λ_ _ h t=>.cons h t) h
def D.sc:D->Bool
 |.non=>Â|.bl _=>Â|.int _=>Â|.str _=>Â|_=>Ã
class inductive Fy (K:b9)(M:Nat->cn)(F W':Hp)(R:D->V->Prop):D->V->Prop
 |lst {a:cn} {vs:List V} {O:List D}:W' a=Z (.lst vs)->Pr R O vs->Fy K M F W' R (.lst O) (.ref a)
 |tup {a:cn} {vs:List V} {O:List D}:F a=Z (.tup vs)->Pr R O vs->Fy K M F W' R (.tup O) (.ref a)
 |dK {a:cn} {ks:List jU} {vs:List V} {O:List D}:W' a=Z (.dK<|ks.zip vs)->ks.length=vs.length->Pr R O vs->Fy K M F W' R (.dK ks O) (.ref a)
 |dT {a:cn} {ks:List (List jU)} {vs:List V} {O:List D}:Rd W' a (.dT<|ks.zip vs)->ks.length=vs.length->Pr R O vs->Fy K M F W' R (.dT ks O) (.ref a)
 |obj {a dx:cn} {c:Nat} {ns:List Str} {vs:List V} {O:List D}:W' a=Z (.ins (M c) dx<|ns.zip vs)->ns.length=vs.length->Pr R O vs->Fy K M F W' R (.obj c ns O) (.ref a)
def Al (K:b9)(M:Nat->cn)(F W':Hp):Nat->D->V->Prop
 |0,d,v=>Dt K M F d v
 |n+1,d,v=>Dt K M F d v\/Fy K M F W' (Al K M F W' n) d v
class inductive jY (R:D->V->List cn->Prop):List D->List V->List cn->Prop
 |nil:jY R [] [] []
 |cons {d:D} {v:V} {O:List D} {vs:List V} {f g:List cn}:R d v f->jY R O vs g->jY R (d::O) (v::vs) (f++g)
class inductive Cq (K:b9)(M:Nat->cn)(F H:Hp)(R:D->V->List cn->Prop):D->V->List cn->Prop
 |lst {a:cn} {vs:List V} {O:List D} {fp:List cn}:F a=C->H a=Z (.lst vs)->jY R O vs fp->Cq K M F H R (.lst O) (.ref a) (a::fp)
 |tup {a:cn} {vs:List V} {O:List D} {fp:List cn}:F a=Z (.tup vs)->jY R O vs fp->Cq K M F H R (.tup O) (.ref a) fp
 |dK {a:cn} {ks:List jU} {vs:List V} {O:List D} {fp:List cn}:F a=C->H a=Z (.dK<|ks.zip vs)->ks.length=vs.length->jY R O vs fp->Cq K M F H R (.dK ks O) (.ref a) (a::fp)
 |dT {a:cn} {ks:List (List jU)} {vs:List V} {O:List D} {fp:List cn}:F a=C->H a=Z (.dT<|ks.zip vs)->ks.length=vs.length->jY R O vs fp->Cq K M F H R (.dT ks O) (.ref a) (a::fp)
 |obj {a dx:cn} {c:Nat} {ns:List Str} {vs:List V} {O:List D} {fp:List cn}:F a=C->H a=Z (.ins (M c) dx<|ns.zip vs)->ns.length=vs.length->jY R O vs fp->Cq K M F H R (.obj c ns O) (.ref a) (a::fp)
def Ow (K:b9)(M:Nat->cn)(F H:Hp):Nat->D->V->List cn->Prop
 |0,d,v,fp=>Dt K M F d v/\fp=[]
 |n+1,d,v,fp=>(d.sc=Â/\Dt K M F d v/\fp=[])\/Cq K M F H (Ow K M F H n) d v fp
def ot (o:HO):Prop:=∀xs,o≠.tup xs
structure kL (F H F' H':Hp):Prop where
 ff:dQ F F'
 hh:dQ H H'
 fh:dQ F' H'
 nf:∀a o,H a=Z o->ot o->F a=C->F' a=C
theorem kL.refl (h:dQ F H):kL F H F H:=⟨.refl _,.refl _,h,λ_ _ _ _ h=>h⟩
theorem kL.trans {F1 H1 F2 H2:Hp}(a:kL F H F1 H1)(b:kL F1 H1 F2 H2):kL F H F2 H2 :=
 ⟨a.ff.trans b.ff,a.hh.trans b.hh,b.fh,λc o h t n=>b.nf c o (a.hh _ _ h) t<|a.nf c o h t n⟩
theorem kL.newO {p:cn}(s:dQ F H)(h:H p=C)(o:HO):kL F H F (gK H p o) :=
 ⟨.refl _,vb h o,s.trans<|vb h o,λ_ _ _ _ h=>h⟩
theorem kL.newS {p:cn}(s:dQ F H)(h:H p=C)(o:HO):kL F H (gK F p o) (gK H p o) :=
  ⟨vb (s.free h) o,vb h o,λb u q=>by
    by_cases e:b=p
    · subst e;rw[zw]at q ⊢;exact q
    · rw[zu e]at q ⊢;exact s _ _ q,
   λb u q _ n=>by rw[zu<|zx q h];exact n⟩
variable {F0:Hp}{fp:List cn}{ks:List jU}{n:Nat}{x:Str}
theorem Al.mono (sF:dQ F F')(sG:dQ W' G'):∀{d:D} {v:V},Al K M F W' n d v->Al K M F' G' n d v:=by
 induction n with
 |zero=>exactλh=>Dt.mono sF h
 |succ n ih=>
  intro d v h;rcases h with h|h
  ·exact .inl<|Dt.mono sF h
  ·cases h with
   |lst h p=>exact .inr<|.lst (sG _ _ h)<|p.mono λ_ _ q=>ih q
   |tup h p=>exact .inr<|.tup (sF _ _ h)<|p.mono λ_ _ q=>ih q
   |dK h l p=>exact .inr<|.dK (sG _ _ h) l<|p.mono λ_ _ q=>ih q
   |dT h l p=>exact .inr<|.dT (sG.rd h) l<|p.mono λ_ _ q=>ih q
   |obj h l p=>exact .inr<|.obj (sG _ _ h) l<|p.mono λ_ _ q=>ih q
theorem Al.of:∀{n:Nat} {d:D} {v:V},Dt K M F d v->Al K M F W' n d v
 |0,_,_,h=>h
 |_+1,_,_,h=>.inl h
theorem Dt.scal {v:V}(h:Dt K M F d v)(hs:d.sc=Â):Dt K M F' d v:=by
 cases h with
 |non=>exact .non
 |bl b=>exact .bl b
 |int i=>exact .int i
 |str x=>exact .str x
 |lst _ _=>cases hs
 |tup _ _=>cases hs
 |dK _ _ _=>cases hs
 |dT _ _ _=>cases hs
 |obj _ _ _=>cases hs
 |exc0 _=>cases hs
 |exc _ _ _ _=>cases hs
 |kt _ _=>cases hs
theorem Al.scal {v:V}(h:Al K M F W' n d v)(hs:d.sc=Â):Dt K M F' d v:=by
 cases n with
 |zero=>exact Dt.scal h hs
 |succ n=>
  rcases h with h|h
  ·exact h.scal hs
  ·cases h<;>cases hs
theorem Al.int {i:Int}{v:V}(h:Al K M F W' n (.int i) v):v=.int i:=by have q:=Al.scal (F':=F) h rfl;cases q;rfl
theorem Al.bl {b:Bool}{v:V}(h:Al K M F W' n (.bl b) v):v=.bl b:=by have q:=Al.scal (F':=F) h rfl;cases q;rfl
theorem Al.str {v:V}(h:Al K M F W' n (.str x) v):v=.str x:=by have q:=Al.scal (F':=F) h rfl;cases q;rfl
theorem Al.non {v:V}(h:Al K M F W' n .non v):v=.non:=by have q:=Al.scal (F':=F) h rfl;cases q;rfl
theorem Al.lst {v:V}(h:Al K M F W' n (.lst O) v)(s:dQ F W'):∃a vs,v=.ref a/\jJ K W' a vs/\Pr (Al K M F W'<|n-1) O vs:=by
 cases n with
 |zero=>
  have h:Dt K M F (.lst O) v:=h;cases h with
  |lst q t=>exact⟨_,_,rfl,s.seq q,t.pr⟩
 |succ n=>
  rcases h with h|h
  ·cases h with
   |lst q t=>exact⟨_,_,rfl,s.seq q,t.pr.mono λ_ _=>Al.of⟩
  ·cases h with
   |lst q t=>exact⟨_,_,rfl,jJ.of q,t⟩
theorem Al.tup {v:V}(h:Al K M F W' n (.tup O) v)(s:dQ F W'):∃a vs,v=.ref a/\W' a=Z (.tup vs)/\Pr (Al K M F W'<|n-1) O vs:=by
 cases n with
 |zero=>
  have h:Dt K M F (.tup O) v:=h;cases h with
  |tup q t=>exact⟨_,_,rfl,s _ _ q,t.pr⟩
 |succ n=>
  rcases h with h|h
  ·cases h with
   |tup q t=>exact⟨_,_,rfl,s _ _ q,t.pr.mono λ_ _=>Al.of⟩
  ·cases h with
   |tup q t=>exact⟨_,_,rfl,s _ _ q,t⟩
theorem Al.dK {v:V}(h:Al K M F W' n (.dK ks O) v)(s:dQ F W'):∃a vs,v=.ref a/\W' a=Z (.dK<|ks.zip vs)/\ks.length=vs.length/\Pr (Al K M F W'<|n-1) O vs:=by
 cases n with
 |zero=>
  have h:Dt K M F (.dK ks O) v:=h;cases h with
  |dK q l t=>exact⟨_,_,rfl,s _ _ q,l,t.pr⟩
 |succ n=>
  rcases h with h|h
  ·cases h with
   |dK q l t=>exact⟨_,_,rfl,s _ _ q,l,t.pr.mono λ_ _=>Al.of⟩
  ·cases h with
   |dK q l t=>exact⟨_,_,rfl,q,l,t⟩
theorem Al.dT {ks:List (List jU)}{v:V}(h:Al K M F W' n (.dT ks O) v)(s:dQ F W'):∃a vs,v=.ref a/\Rd W' a (.dT<|ks.zip vs)/\ks.length=vs.length/\Pr (Al K M F W'<|n-1) O vs:=by
 cases n with
 |zero=>
  have h:Dt K M F (.dT ks O) v:=h;cases h with
  |dT q l t=>exact⟨_,_,rfl,s.rd q,l,t.pr⟩
 |succ n=>
  rcases h with h|h
  ·cases h with
   |dT q l t=>exact⟨_,_,rfl,s.rd q,l,t.pr.mono λ_ _=>Al.of⟩
  ·cases h with
   |dT q l t=>exact⟨_,_,rfl,q,l,t⟩
theorem Al.obj {c:Nat}{ns:List Str}{v:V}(h:Al K M F W' n (.obj c ns O) v)(s:dQ F W'):∃a dx vs,v=.ref a/\W' a=Z (.ins (M c) dx<|ns.zip vs)/\ns.length=vs.length/\Pr (Al K M F W'<|n-1) O vs:=by
 cases n with
 |zero=>
  have h:Dt K M F (.obj c ns O) v:=h;cases h with
  |obj q l t=>exact⟨_,_,_,rfl,s _ _ q,l,t.pr⟩
 |succ n=>
  rcases h with h|h
  ·cases h with
   |obj q l t=>exact⟨_,_,_,rfl,s _ _ q,l,t.pr.mono λ_ _=>Al.of⟩
  ·cases h with
   |obj q l t=>exact⟨_,_,_,rfl,q,l,t⟩
theorem Al.kt {v:V}(h:Al K M F W' n (.kt O) v):∃a vs,v=.ref a/\Gk K a vs/\Pr (Dt K M F) O vs:=by
 have h:Dt K M F (.kt O) v:=by
  cases n with
  |zero=>exact h
  |succ n=>
   rcases h with h|h
   ·exact h
   ·cases h
 cases h with
 |kt q t=>exact⟨_,_,rfl,q,t.pr⟩
theorem jY.mono {R R':D->V->List cn->Prop}{vs:List V}(h:jY R O vs fp):(∀d v f,(∀a∈f,a∈fp)->R d v f->R' d v f)->jY R' O vs fp:=by
 induction h with
 |nil=>exactλ_=>.nil
 |cons h t ih=>exactλq=>.cons (q _ _ _ (λa z=>dF _ z) h)<|ih λd v f i r=>q d v f (λa z=>cT _<|i a z) r
theorem jY.pr {R:D->V->List cn->Prop}{R':D->V->Prop}{vs:List V}(h:jY R O vs fp):(∀d v f,(∀a∈f,a∈fp)->R d v f->R' d v)->Pr R' O vs:=by
 induction h with
 |nil=>exactλ_=>.nil
 |cons h t ih=>exactλq=>.cons (q _ _ _ (λa z=>dF _ z) h)<|ih λd v f i r=>q d v f (λa z=>cT _<|i a z) r
theorem jY.ofPr {R:D->V->List cn->Prop}{vs:List V}(h:Pr (λd v=>R d v []) O vs):jY R O vs []:=by
 induction h with
 |nil=>exact .nil
 |cons h t ih=>exact jY.cons (f:=[]) (g:=[]) h ih
theorem jY.append {R:D->V->List cn->Prop}{es:List D}{vs:List V}{f g:List cn}(h:jY R O vs f)(s:jY R es us g):jY R (O++es) (vs++us) (f++g):=by
 induction h with
 |nil=>exact s
 |cons h t ih=>rw[dN];exact .cons h ih
theorem jY.length {R:D->V->List cn->Prop}{vs:List V}(h:jY R O vs fp):O.length=vs.length:=by
 induction h with
 |nil=>rfl
 |cons _ t ih=>simp[ih]
theorem Ow.frame (sF:dQ F F'):∀{d:D} {v:V} {fp:List cn},Ow K M F H n d v fp->(∀a∈fp,H' a=H a/\F' a=C)->Ow K M F' H' n d v fp:=by
 induction n with
 |zero=>exactλh _=>⟨h.1.mono sF,h.2⟩
 |succ n ih=>
  intro d v fp h k;rcases h with h|h
  ·exact .inl ⟨h.1,h.2.1.mono sF,h.2.2⟩
  ·cases h with
   |lst hn h p=>exact .inr<|.lst (k _ b7).2 ((k _ b7).1.trans h)<|p.mono λ_ _ _ i q=>ih q λa z=>k a<|cj _<|i a z
   |tup h p=>exact .inr<|.tup (sF _ _ h)<|p.mono λ_ _ _ i q=>ih q λa z=>k a<|i a z
   |dK hn h l p=>exact .inr<|.dK (k _ b7).2 ((k _ b7).1.trans h) l<|p.mono λ_ _ _ i q=>ih q λa z=>k a<|cj _<|i a z
   |dT hn h l p=>exact .inr<|.dT (k _ b7).2 ((k _ b7).1.trans h) l<|p.mono λ_ _ _ i q=>ih q λa z=>k a<|cj _<|i a z
   |obj hn h l p=>exact .inr<|.obj (k _ b7).2 ((k _ b7).1.trans h) l<|p.mono λ_ _ _ i q=>ih q λa z=>k a<|cj _<|i a z
theorem jY.cells0 {R:D->V->List cn->Prop}(k:∀d v f,R d v f->∀a∈f,F a=C/\∃o,H a=Z o/\ot o){vs:List V}(h:jY R O vs fp):∀a∈fp,F a=C/\∃o,H a=Z o/\ot o:=by
 induction h with
 |nil=>exactλa z=>by cases z
 |cons h t ih=>exactλa z=>(cH.mp z).elim (λz=>k _ _ _ h a z)<|ih a
theorem Ow.cells:∀{d:D} {v:V} {fp:List cn},Ow K M F H n d v fp->∀a∈fp,F a=C/\∃o,H a=Z o/\ot o:=by
 induction n with
 |zero=>exactλh a z=>by rw[h.2]at z;cases z
 |succ n ih=>
  intro d v fp h a z;rcases h with h|h
  ·rw[h.2.2]at z;cases z
  ·cases h with
   |lst hn h p=>exact(cu.mp z).elim (λe=>by rw[e];exact⟨hn,_,h,nofun⟩)<|jY.cells0 (λd v f q=>ih q) p a
   |tup h p=>exact jY.cells0 (λd v f q=>ih q) p a z
   |dK hn h l p=>exact(cu.mp z).elim (λe=>by rw[e];exact⟨hn,_,h,nofun⟩)<|jY.cells0 (λd v f q=>ih q) p a
   |dT hn h l p=>exact(cu.mp z).elim (λe=>by rw[e];exact⟨hn,_,h,nofun⟩)<|jY.cells0 (λd v f q=>ih q) p a
   |obj hn h l p=>exact(cu.mp z).elim (λe=>by rw[e];exact⟨hn,_,h,nofun⟩)<|jY.cells0 (λd v f q=>ih q) p a
theorem Ow.ext {v:V}(h:Ow K M F H n d v fp)(e:kL F H F' H'):Ow K M F' H' n d v fp :=
 h.frame e.ff λa z=>by obtain⟨hn,o,ho,nt⟩:=h.cells a z;exact⟨(e.hh _ _ ho).trans ho.symm,e.nf a o ho nt hn⟩
theorem Ow.al (s:dQ F H):∀{d:D} {v:V} {fp:List cn},Ow K M F H n d v fp->Al K M F H n d v:=by
 induction n with
 |zero=>exactλh=>h.1
 |succ n ih=>
  intro d v fp h;rcases h with h|h
  ·exact .inl h.2.1
  ·cases h with
   |lst hn h p=>exact .inr<|.lst h<|p.pr λ_ _ _ _ q=>ih q
   |tup h p=>exact .inr<|.tup h<|p.pr λ_ _ _ _ q=>ih q
   |dK hn h l p=>exact .inr<|.dK h l<|p.pr λ_ _ _ _ q=>ih q
   |dT hn h l p=>exact .inr<|.dT (.inl h) l<|p.pr λ_ _ _ _ q=>ih q
   |obj hn h l p=>exact .inr<|.obj h l<|p.pr λ_ _ _ _ q=>ih q
theorem Ow.dt (sF:dQ F F'):∀{d:D} {v:V} {fp:List cn},Ow K M F H n d v fp->(∀a∈fp,F' a=H a)->Dt K M F' d v:=by
 induction n with
 |zero=>exactλh _=>h.1.mono sF
 |succ n ih=>
  intro d v fp h k;rcases h with h|h
  ·exact h.2.1.mono sF
  ·cases h with
   |lst hn h p=>exact .lst (jJ.of<|(k _ b7).trans h)<|.of<|p.pr λ_ _ _ i q=>ih q λa z=>k a<|cj _<|i a z
   |tup h p=>exact .tup (sF _ _ h)<|.of<|p.pr λ_ _ _ i q=>ih q λa z=>k a<|i a z
   |dK hn h l p=>exact .dK ((k _ b7).trans h) l<|.of<|p.pr λ_ _ _ i q=>ih q λa z=>k a<|cj _<|i a z
   |dT hn h l p=>exact .dT (.inl<|(k _ b7).trans h) l<|.of<|p.pr λ_ _ _ i q=>ih q λa z=>k a<|cj _<|i a z
   |obj hn h l p=>exact .obj ((k _ b7).trans h) l<|.of<|p.pr λ_ _ _ i q=>ih q λa z=>k a<|cj _<|i a z
def nO (F H:Hp)(fp:List cn):Hp:=λa=>if a∈fp then H a else F a
theorem wf (s:dQ F H)(hf:∀a∈fp,F a=C):dQ F (nO F H fp)/\dQ (nO F H fp) H/\∀a∈fp,nO F H fp a=H a:=by
 refine⟨λa o h=>?_,λa o h=>?_,λa z=>if_pos z⟩
 ·have:¬a∈fp:=λz=>by rw[hf a z]at h;cases h
  unfold nO;rw[if_neg this];exact h
 ·unfold nO at h;by_cases z:a∈fp
  ·rw[if_pos z]at h;exact h
  ·rw[if_neg z]at h;exact s _ _ h
theorem Ow.freeze {v:V}{H0:Hp}(h:Ow K M F H n d v fp)(e:kL F0 H0 F H)(hf:∀a∈fp,H0 a=C):∃F',kL F0 H0 F' H/\Dt K M F' d v:=by
 obtain⟨w1,w2,w3⟩:=wf (fp:=fp) e.fh<|λa z=>(h.cells a z).1;refine⟨nO F H fp,⟨e.ff.trans w1,e.hh,w2,λa o ho nt hn=>?_⟩,h.dt w1 w3⟩;have:¬a∈fp:=λz=>by rw[hf a z]at ho;cases ho
 unfold nO;rw[if_neg this];exact e.nf a o ho nt hn
theorem Ow.zero {v:V}(h:Dt K M F d v):Ow K M F H 0 d v []:=⟨h,rfl⟩
theorem Ow.scal {v:V}(h:Dt K M F d v)(hs:d.sc=Â):Ow K M F H n d v []:=by
 cases n with
 |zero=>exact⟨h,rfl⟩
 |succ n=>exact .inl ⟨hs,h,rfl⟩
noncomputable abbrev Env:=List<|Option D
inductive Mo where
 |al (n:Nat)|ow (n:Nat)|px (v:V)|so (x:cn)
noncomputable def Mo.lv:Mo->Nat
 |.al n=>n
 |.ow n=>n
 |.px _=>1
 |.so _=>1
section
variable (K:b9)(M:Nat->cn)
class inductive SL (F B H:Hp):List Mo->Env->St->List cn->Prop
 |nil:SL F B H [] [] [] []
 |no {m:Mo} {o:Option V} {G:List Mo} {Y:Env} {U:St} {fp:List cn}:SL F B H G Y U fp->SL F B H (m::G) (C::Y) (o::U) fp
 |al {n:Nat} {d:D} {v:V} {G:List Mo} {Y:Env} {U:St} {fp:List cn}:Al K M F B n d v->SL F B H G Y U fp->SL F B H (.al n::G) (Z d::Y) (Z v::U) fp
 |px {d:D} {v:V} {G:List Mo} {Y:Env} {U:St} {fp:List cn}:Al K M F B 1 d v->SL F B H G Y U fp->SL F B H (.px v::G) (Z d::Y) (Z v::U) fp
 |so {d:D} {x:cn} {G:List Mo} {Y:Env} {U:St} {fp:List cn}:Ow K M F H 1 d (.ref x) [x]->SL F B H G Y U fp->SL F B H (.so x::G) (Z d::Y) (Z (.ref x)::U) (x::fp)
 |ow {n:Nat} {d:D} {v:V} {G:List Mo} {Y:Env} {U:St} {f fp:List cn}:Ow K M F H n d v f->SL F B H G Y U fp->SL F B H (.ow n::G) (Z d::Y) (Z v::U) (f++fp)
structure RS (F0 B:Hp)(G:List Mo)(F H:Hp)(Y:Env)(U:St):Prop where
 f0:dQ F0 F
 bh:dQ B H
 fh:dQ F H
 nf:∀a o,B a=Z o->ot o->F0 a=C->F a=C
 sl:∃fp,SL K M F B H G Y U fp/\fp.Nodup/\∀a∈fp,B a=C
end
variable {k:Nat}{G:List Mo}{Y:Env}{U:St}
theorem SL.cells (h:SL K M F B H G Y U fp):∀a∈fp,F a=C/\∃o,H a=Z o/\ot o:=by
 induction h with
 |nil=>intro a z;cases z
 |no t ih=>exact ih
 |al _ t ih=>exact ih
 |px _ t ih=>exact ih
 |so h t ih=>exactλa z=>(cu.mp z).elim (λz=>h.cells a<|by rw[z];exact b7)<|ih a
 |ow h t ih=>exactλa z=>(cH.mp z).elim (h.cells a)<|ih a
theorem SL.frame (sF:dQ F F')(h:SL K M F B H G Y U fp):(∀a∈fp,H' a=H a/\F' a=C)->SL K M F' B H' G Y U fp:=by
 induction h with
 |nil=>exactλ_=>.nil
 |no t ih=>exactλk=>.no<|ih k
 |al h t ih=>exactλk=>.al (h.mono sF<|.refl _)<|ih k
 |px h t ih=>exactλk=>.px (h.mono sF<|.refl _)<|ih k
 |so h t ih=>exactλk=>.so (h.frame sF λa z=>k a (by rw[cw]at z;rw[z];exact b7))<|ih λa z=>k a<|cj _ z
 |ow h t ih=>exactλk=>.ow (h.frame sF λa z=>k a<|dF _ z)<|ih λa z=>k a<|cT _ z
theorem RS.ext (r:RS K M F0 B G F H Y U)(e:kL F H F' H'):RS K M F0 B G F' H' Y U:=by obtain⟨fp,s,nd,hb⟩:=r.sl;refine⟨r.f0.trans e.ff,r.bh.trans e.hh,e.fh,λa o h t n=>e.nf a o (r.bh _ _ h) t<|r.nf a o h t n,fp,s.frame e.ff λa z=>?_,nd,hb⟩;obtain⟨hn,o,ho,nt⟩:=s.cells a z;exact⟨(e.hh _ _ ho).trans ho.symm,e.nf a o ho nt hn⟩
theorem SL.get {m:Mo}(h:SL K M F B H G Y U fp)(s:dQ F H)(s':dQ B H):G[i]?=Z m->Y[i]?=Z (Z d)->∃v,U[i]?=Z (Z v)/\Al K M F H m.lv d v:=by
 induction h generalizing i with
 |nil=>intro e;simp at e
 |no t ih=>
  intro e e';cases i with
  |zero=>simp at e'
  |succ i=>simpa using ih (by simpa using e) (by simpa using e')
 |al h t ih=>
  intro e e';cases i with
  |zero=>simp at e e';subst e;subst e';exact⟨_,rfl,h.mono (.refl _) s'⟩
  |succ i=>simpa using ih (by simpa using e) (by simpa using e')
 |px h t ih=>
  intro e e';cases i with
  |zero=>simp at e e';subst e;subst e';exact⟨_,rfl,h.mono (.refl _) s'⟩
  |succ i=>simpa using ih (by simpa using e) (by simpa using e')
 |so h t ih=>
  intro e e';cases i with
  |zero=>simp at e e';subst e;subst e';exact⟨_,rfl,h.al s⟩
  |succ i=>simpa using ih (by simpa using e) (by simpa using e')
 |ow h t ih=>
  intro e e';cases i with
  |zero=>simp at e e';subst e;subst e';exact⟨_,rfl,h.al s⟩
  |succ i=>simpa using ih (by simpa using e) (by simpa using e')
theorem RS.get (r:RS K M F0 B G F H Y U){m:Mo}(hm:G[i]?=Z m)(e:Y[i]?=Z (Z d)):∃v,U[i]?=Z (Z v)/\Al K M F H m.lv d v:=by obtain⟨fp,s,_,_⟩:=r.sl;exact s.get r.fh r.bh hm e
theorem SL.put (h0:SL K M F B H G Y U fp):G[i]?=Z (.ow k) ->
  ∃f1 fr:List cn,(∀a∈f1,a∈fp)/\(∀a∈fr,a∈fp)/\(fp.Nodup->f1.Nodup/\fr.Nodup/\∀a∈f1,a∉fr)/\(∀d,Y[i]?=Z (Z d)->∃v,U[i]?=Z (Z v)/\Ow K M F H k d v f1) /\
   ∀(F' H':Hp) (d':D) (v':V) (f':List cn),dQ F F'->(∀a∈fr,H' a=H a/\F' a=C)->Ow K M F' H' k d' v' f' ->
    ∃nE,SL K M F' B H' G (Y.set i<|Z d') (U.set i<|Z v') nE/\(∀a∈nE,a∈f'\/a∈fr)/\(f'.Nodup->fr.Nodup->(∀a∈f',a∉fr)->nE.Nodup):=by
 induction h0 generalizing i with
 |nil=>intro e;simp at e
 |@no m0 o0 G Y U fp t ih=>
  intro e;cases i with
  |zero=>simp at e;subst e;refine⟨[],fp,λa z=>(by cases z),λa z=>z,λn=>⟨dC,n,λa z=>(by cases z)⟩,λd q=>(by simp at q),λF' H' d' v' f' s kf h=>⟨f'++fp,.ow h<|t.frame s kf,λa z=>cH.mp z,λn1 n2 dj=>?_⟩⟩;exact dh.mpr ⟨n1,n2,λa z b zb e=>dj a z<|e▸zb⟩
  |succ i=>obtain⟨f1,fr,h1,h2,h3,h4,h5⟩:=ih (i:=i) (by simpa using e);refine⟨f1,fr,h1,h2,h3,λd q=>by simpa using h4 d (by simpa using q),λF' H' d' v' f' s kf h=>?_⟩;obtain⟨nE,q1,q2,q3⟩:=h5 F' H' d' v' f' s kf h;exact⟨nE,.no q1,q2,q3⟩
 |@al n0 d0 v0 G Y U fp h t ih=>
  intro e;cases i with
  |zero=>simp at e
  |succ i=>obtain⟨f1,fr,h1,h2,h3,h4,h5⟩:=ih (i:=i) (by simpa using e);refine⟨f1,fr,h1,h2,h3,λd q=>by simpa using h4 d (by simpa using q),λF' H' d' v' f' s kf h'=>?_⟩;obtain⟨nE,q1,q2,q3⟩:=h5 F' H' d' v' f' s kf h';exact⟨nE,.al (h.mono s<|.refl _) q1,q2,q3⟩
 |@px d0 v0 G Y U fp h t ih=>
  intro e;cases i with
  |zero=>simp at e
  |succ i=>obtain⟨f1,fr,h1,h2,h3,h4,h5⟩:=ih (i:=i) (by simpa using e);refine⟨f1,fr,h1,h2,h3,λd q=>by simpa using h4 d (by simpa using q),λF' H' d' v' f' s kf h'=>?_⟩;obtain⟨nE,q1,q2,q3⟩:=h5 F' H' d' v' f' s kf h';exact⟨nE,.px (h.mono s<|.refl _) q1,q2,q3⟩
 |@so d0 x G Y U fp h t ih=>
  intro e;cases i with
  |zero=>simp at e
  |succ i=>
   obtain⟨f1,fr,h1,h2,h3,h4,h5⟩:=ih (i:=i) (by simpa using e);refine⟨f1,x::fr,λa z=>cj _<|h1 a z,λa z=>(cu.mp z).elim (λz=>by rw[z];exact b7) λz=>cj _ (h2 a z),λn=>?_,λd q=>by simpa using h4 d (by simpa using q),λF' H' d' v' f' s kf h'=>?_⟩
   ·obtain⟨n1,n2⟩:=dz.mp n;obtain⟨m1,m2,m3⟩:=h3 n2;refine⟨m1,dz.mpr ⟨λz=>n1<|h2 x z,m2⟩,λa z zb=>?_⟩;rcases cu.mp zb with zb|zb
    ·rw[zb]at z;exact n1<|h1 x z
    ·exact m3 a z zb
   ·obtain⟨nE,q1,q2,q3⟩:=h5 F' H' d' v' f' s (λa z=>kf a<|cj _ z) h';refine⟨x::nE,.so (h.frame s λa z=>kf a (by rw[cw]at z;rw[z];exact b7)) q1,λa z=>?_,λn1 n2 dj=>?_⟩
    ·rcases cu.mp z with z|z
     ·exact .inr (by rw[z];exact b7)
     ·exact(q2 a z).imp id λz=>cj _ z
    ·obtain⟨m1,m2⟩:=dz.mp n2;refine dz.mpr ⟨λz=>?_,q3 n1 m2 λa z zb=>dj a z<|cj _ zb⟩;rcases q2 x z with z|z
     ·exact dj x z b7
     ·exact m1 z
 |@ow n0 d0 v0 G Y U f fp h t ih=>
  intro e;cases i with
  |zero=>
   simp at e;subst e;refine⟨f,fp,λa z=>dF _ z,λa z=>cT _ z,λn=>?_,λd q=>?_,λF' H' d' v' f' s kf h=>⟨f'++fp,.ow h<|t.frame s kf,λa z=>cH.mp z,λn1 n2 dj=>?_⟩⟩
   ·obtain⟨n1,n2,n3⟩:=dh.mp n;exact⟨n1,n2,λa z zb=>n3 a z a zb rfl⟩
   ·simp at q;subst q;exact⟨_,rfl,h⟩
   ·exact dh.mpr ⟨n1,n2,λa z b zb e=>dj a z<|e▸zb⟩
  |succ i=>
   obtain⟨f1,fr,h1,h2,h3,h4,h5⟩:=ih (i:=i) (by simpa using e);refine⟨f1,f++fr,λa z=>cT _<|h1 a z,λa z=>(cH.mp z).elim (λz=>dF _ z) λz=>cT _ (h2 a z),λn=>?_,λd q=>by simpa using h4 d (by simpa using q),λF' H' d' v' f' s kf h'=>?_⟩
   ·obtain⟨n1,n2,n3⟩:=dh.mp n;obtain⟨m1,m2,m3⟩:=h3 n2;refine⟨m1,dh.mpr ⟨n1,m2,λa z b zb=>n3 a z b<|h2 b zb⟩,λa z zb=>?_⟩;rcases cH.mp zb with zb|zb
    ·exact n3 a zb a (h1 a z) rfl
    ·exact m3 a z zb
   ·obtain⟨nE,q1,q2,q3⟩:=h5 F' H' d' v' f' s (λa z=>kf a<|cT _ z) h';refine⟨f++nE,.ow (h.frame s λa z=>kf a<|dF _ z) q1,λa z=>?_,λn1 n2 dj=>?_⟩
    ·rcases cH.mp z with z|z
     ·exact .inr<|dF _ z
     ·exact(q2 a z).imp id λz=>cT _ z
    ·obtain⟨m1,m2,m3⟩:=dh.mp n2;refine dh.mpr ⟨m1,q3 n1 m2 λa z zb=>dj a z (cT _ zb),λa z b zb e=>?_⟩;subst e;rcases q2 a zb with zb|zb
     ·exact dj a zb<|dF _ z
     ·exact m3 a z a zb rfl
abbrev EF:=Env->Option D
class inductive pH (K:b9)(M:Nat->cn)(F W':Hp):List Nat->List D->List V->Prop
 |nil:pH K M F W' [] [] []
 |cons {n:Nat} {d:D} {v:V} {ns:List Nat} {O:List D} {vs:List V}:Al K M F W' n d v->pH K M F W' ns O vs->pH K M F W' (n::ns) (d::O) (v::vs)
variable {ns:List Nat}
theorem pH.mono (sF:dQ F F')(sG:dQ W' G'){vs:List V}(h:pH K M F W' ns O vs):pH K M F' G' ns O vs:=by
 induction h with
 |nil=>exact .nil
 |cons h t ih=>exact .cons (h.mono sF sG) ih
theorem pH.length {vs:List V}(h:pH K M F W' ns O vs):vs.length=ns.length:=by
 induction h with
 |nil=>rfl
 |cons h t ih=>rw[cz,cz,ih]
theorem pH.length' {vs:List V}(h:pH K M F W' ns O vs):O.length=vs.length:=by
 induction h with
 |nil=>rfl
 |cons h t ih=>rw[cz,cz,ih]
theorem pH.append {wQ:List Nat}{vH:List D}{Mh:List V}(q:pH K M F W' wQ vH Mh){vs:List V}(h:pH K M F W' ns O vs):pH K M F W' (ns++wQ) (O++vH) (vs++Mh):=by
 induction h with
 |nil=>exact q
 |cons h t ih=>exact .cons h ih
section
variable (X:Cx)(M:Nat->cn)(G:List Mo)
def XE (n:Nat)(e:Expr)(f:EF):Prop:=∃t,PE X e t/\∀(F0 B F H:Hp) (Y:Env) (U:St) (d:D) (Q:VK),RS X.K M F0 B G F H Y U->f Y=Z d ->
 (∀v F' H',kL F H F' H'->Al X.K M F' H' n d v->Q v H')->t U H Q
def XO (k:Nat)(e:Expr)(f:EF):Prop:=∃t,PE X e t/\∀(F0 B F H:Hp) (Y:Env) (U:St) (d:D) (Q:VK),RS X.K M F0 B G F H Y U->f Y=Z d ->
 (∀v F' H' fp,kL F H F' H'->Ow X.K M F' H' k d v fp->fp.Nodup->(∀a∈fp,H a=C)->Q v H')->t U H Q
def XT (e:Expr)(f:Env->Option Bool):Prop:=∃t,PT X e t/\∀(F0 B F H:Hp) (Y:Env) (U:St) (b:Bool) (Q:Bool->Hp->Prop),RS X.K M F0 B G F H Y U->f Y=Z b ->
 (∀F' H',kL F H F' H'->Q b H')->t U H Q
def XW (e:Expr)(f:Env->Option Bool):Prop:=∃t,PW X e t/\∀(F0 B F H:Hp) (Y:Env) (U:St) (b:Bool) (Q:Bool->Hp->Prop),RS X.K M F0 B G F H Y U->f Y=Z b ->
 (∀F' H',kL F H F' H'->Q b H')->t U H Q
def XA (es:List Expr)(ns:List Nat)(f:Env->Option (List D)):Prop:=∃t,PA X es t/\(∀Y O,f Y=Z O->O.length=es.length)/\∀(F0 B F H:Hp) (Y:Env) (U:St) (O:List D) (Q:List V->Hp->Prop),RS X.K M F0 B G F H Y U->f Y=Z O ->
 (∀vs F' H',kL F H F' H'->pH X.K M F' H' ns O vs->Q vs H')->t U H Q
end
def S (op:D->D->Option D)(f g:EF):EF:=λY=>(f Y).bind λx=>(g Y).bind λy=>op x y
def e1 (op:D->Option D)(f:EF):EF:=λY=>(f Y).bind op
def eN (op:List D->Option D)(f:Env->Option (List D)):EF:=λY=>(f Y).bind op
def eC (d:D):EF:=λ_=>Z d
def L (i:Nat):EF:=λY=>(Y[i]?).join
def Å:Env->Option (List D):=λ_=>Z []
def Ä (f:EF)(g:Env->Option (List D)):Env->Option (List D):=λY=>(f Y).bind λx=>(g Y).bind λxs=>Z (x::xs)
variable {α β:Type}
theorem fD {γ:Type}{o:Option α}{p:Option β}{op:α->β->Option γ}{r:γ}(h:(o.bind λx=>p.bind λy=>op x y)=Z r):∃x y,o=Z x/\p=Z y/\op x y=Z r:=by
 cases o with
 |none=>cases h
 |some x=>
  cases p with
  |none=>cases h
  |some y=>exact⟨x,y,rfl,rfl,h⟩
theorem cL {o:Option α}{op:α->Option β}{r:β}(h:o.bind op=Z r):∃x,o=Z x/\op x=Z r:=by
 cases o with
 |none=>cases h
 |some x=>exact⟨x,rfl,h⟩
theorem zo {o:Option (Option α)}{x:α}(h:o.join=Z x):o=Z (Z x):=by
 cases o with
 |none=>cases h
 |some y=>exact congrArg Z h
def qR (K:b9)(M:Nat->cn)(n m k:Nat)(r:R2)(op:D->D->Option D):Prop :=
 ∀(F H:Hp) (x y:V) (d1 d2 d:D) (Q:VK),dQ F H->Al K M F H n d1 x->Al K M F H m d2 y->op d1 d2=Z d->(∀v F' H',kL F H F' H'->Al K M F' H' k d v->Q v H')->r x y H Q
def Gq (K:b9)(M:Nat->cn)(n m k:Nat)(r:R2)(op:D->D->Option D):Prop :=
 ∀(F H:Hp) (x y:V) (d1 d2 d:D) (Q:VK),dQ F H->Al K M F H n d1 x->Al K M F H m d2 y->op d1 d2=Z d ->
  (∀v F' H' fp,kL F H F' H'->Ow K M F' H' k d v fp->fp.Nodup->(∀a∈fp,H a=C)->Q v H')->r x y H Q
def Bs (K:b9)(M:Nat->cn)(ns:List Nat)(k:Nat)(r:List V->Hp->VK->Prop)(op:List D->Option D):Prop :=
 ∀(F H:Hp) (vs:List V) (O:List D) (d:D) (Q:VK),dQ F H->pH K M F H ns O vs->op O=Z d->(∀v F' H',kL F H F' H'->Al K M F' H' k d v->Q v H')->r vs H Q
def Bt (K:b9)(M:Nat->cn)(ns:List Nat)(k:Nat)(r:List V->Hp->VK->Prop)(op:List D->Option D):Prop :=
 ∀(F H:Hp) (vs:List V) (O:List D) (d:D) (Q:VK),dQ F H->pH K M F H ns O vs->op O=Z d ->
  (∀v F' H' fp,kL F H F' H'->Ow K M F' H' k d v fp->fp.Nodup->(∀a∈fp,H a=C)->Q v H')->r vs H Q
variable {X:Cx}{a b c e:Expr}{es:List Expr}{f g h:EF}{fs:Env->Option (List D)}{m:Nat}{op:Ck}{pos:qP}{r:R2}
theorem XO.sh (he:XO X M G k e f):XE X M G n e f:=by obtain⟨t,p,q⟩:=he;refine⟨t,p,λF0 B F H Y U d Q r e w=>q F0 B F H Y U d Q r e λv F' H' fp x o nd hf=>?_⟩;obtain⟨F2,x2,h2⟩:=o.freeze x hf;exact w v F2 H' x2<|Al.of h2
theorem XE.ow (he:XE X M G 0 e f):XO X M G 0 e f:=by obtain⟨t,p,q⟩:=he;exact⟨t,p,λF0 B F H Y U d Q r e w=>q F0 B F H Y U d Q r e λv F' H' x l=>w v F' H' [] x ⟨l,rfl⟩ dC λa z=>(by cases z)⟩
theorem Fs (i n:Nat){m:Mo}(hm:G[i]?=Z m:=by rfl)(hl:m.lv=n:=by rfl)(hN:X.N[i]?=Z x:=by rfl)(hv:uQ X.env.scope x:=by walk_at "v1")(hd:lH x:=by decide)
  (mR:vR x:=by decide):XE X M G n (.Name x pos) (L i):=by
 subst hl;refine⟨_,wc hN hv hd mR,λF0 B F H Y U d Q r e w=>?_⟩;obtain⟨v,hv,l⟩:=r.get hm<|zo e;exact⟨v,hv,w v F H (.refl r.fh) l⟩
theorem Ŷ {i:Int}{j}:XE X M G n (.Constant (.int i) j pos) (eC<|.int i):=⟨_,Χ,λF0 B F H Y U d Q r e w=>by cases e;exact w _ F H (.refl r.fh)<|Al.of<|.int i⟩
theorem wj {i:Bool}{j}:XE X M G n (.Constant (.bool i) j pos) (eC<|.bl i):=⟨_,ķ,λF0 B F H Y U d Q r e w=>by cases e;exact w _ F H (.refl r.fh)<|Al.of<|.bl i⟩
theorem zn {i:Str}{j}:XE X M G n (.Constant (.str i) j pos) (eC<|.str i):=⟨_,Υ,λF0 B F H Y U d Q r e w=>by cases e;exact w _ F H (.refl r.fh)<|Al.of<|.str i⟩
theorem ŵ {j}:XE X M G n (.Constant .none j pos) (eC .non):=⟨_,Φ,λF0 B F H Y U d Q r e w=>by cases e;exact w _ F H (.refl r.fh)<|Al.of .non⟩
theorem XE.bin (ha:XE X M G n a f)(hb:XE X M G m b g):∃ta tb,PE X a ta/\PE X b tb/\∀(F0 B F H:Hp) (Y:Env) (U:St) (d1 d2:D) (R:V->V->Hp->Prop),RS X.K M F0 B G F H Y U->f Y=Z d1->g Y=Z d2 ->
  (∀x y F' H',kL F H F' H'->Al X.K M F' H' n d1 x->Al X.K M F' H' m d2 y->R x y H')->ta U H λx H1=>tb U H1 λy H2=>R x y H2:=by
 obtain⟨ta,pa,qa⟩:=ha;obtain⟨tb,pb,qb⟩:=hb;refine⟨ta,tb,pa,pb,λF0 B F H Y U d1 d2 R r e1 S w=>qa F0 B F H Y U d1 _ r e1 λx F1 H1 x1 l1=>?_⟩;exact qb F0 B F1 H1 Y U d2 _ (r.ext x1) S λy F2 H2 x2 l2=>w x y F2 H2 (x1.trans x2) (l1.mono x2.ff x2.hh) l2
theorem Ew {op:m9}{o:D->D->Option D}(ho:k9 X (ik op) r)(hs:qR X.K M n m k r o)(ha:XE X M G n a f)(hb:XE X M G m b g):XE X M G k (.BinOp a op b pos) (S o f g):=by obtain⟨ta,tb,pa,pb,q⟩:=ha.bin hb;refine⟨_,ND ho pa pb,λF0 B F H Y U d Q rs e w=>?_⟩;obtain⟨d1,d2,h1,h2,h3⟩:=fD e;exact q F0 B F H Y U d1 d2 _ rs h1 h2 λx y F' H' x1 l1 l2=>hs F' H' x y d1 d2 d Q x1.fh l1 l2 h3 λv F2 H2 x2 l=>w v F2 H2 (x1.trans x2) l
theorem Ī {op:m9}{o:D->D->Option D}(ho:k9 X (ik op) r)(hs:Gq X.K M n m k r o)(ha:XE X M G n a f)(hb:XE X M G m b g):XO X M G k (.BinOp a op b pos) (S o f g):=by obtain⟨ta,tb,pa,pb,q⟩:=ha.bin hb;refine⟨_,ND ho pa pb,λF0 B F H Y U d Q rs e w=>?_⟩;obtain⟨d1,d2,h1,h2,h3⟩:=fD e;exact q F0 B F H Y U d1 d2 _ rs h1 h2 λx y F' H' x1 l1 l2=>hs F' H' x y d1 d2 d Q x1.fh l1 l2 h3 λv F2 H2 fp x2 l nd hf=>w v F2 H2 fp (x1.trans x2) l nd λz hz=>x1.hh.free<|hf z hz
theorem Ep {o:D->D->Option D}(ho:k9 X (d6 op) r)(hs:qR X.K M n m k r o)(ha:XE X M G n a f)(hb:XE X M G m b g)(hm:fH op b=Ã):XE X M G k (.Compare a [op] [b] pos) (S o f g):=by obtain⟨ta,tb,pa,pb,q⟩:=ha.bin hb;refine⟨_,Q7 ho pa pb hm,λF0 B F H Y U d Q rs e w=>?_⟩;obtain⟨d1,d2,h1,h2,h3⟩:=fD e;exact q F0 B F H Y U d1 d2 _ rs h1 h2 λx y F' H' x1 l1 l2=>hs F' H' x y d1 d2 d Q x1.fh l1 l2 h3 λv F2 H2 x2 l=>w v F2 H2 (x1.trans x2) l
theorem S4 {o:D->D->Option D}(hr:Cp X r)(hs:qR X.K M n m k r o)(ha:XE X M G n a f)(hb:XE X M G m b g)(hp:tF b):XE X M G k (.Subscript a b pos) (S o f g):=by obtain⟨ta,tb,pa,pb,q⟩:=ha.bin hb;refine⟨_,į hr pa pb hp,λF0 B F H Y U d Q rs e w=>?_⟩;obtain⟨d1,d2,h1,h2,h3⟩:=fD e;exact q F0 B F H Y U d1 d2 _ rs h1 h2 λx y F' H' x1 l1 l2=>hs F' H' x y d1 d2 d Q x1.fh l1 l2 h3 λv F2 H2 x2 l=>w v F2 H2 (x1.trans x2) l
theorem ĩ {op:UnaryOp}{r:V->Hp->VK->Prop}{o:D->Option D}(ho:II X (unaryOp op) r)
  (hs:∀(F H:Hp) (x:V) (d1 d:D) (Q:VK),dQ F H->Al X.K M F H n d1 x->o d1=Z d->(∀v F' H',kL F H F' H'->Al X.K M F' H' k d v->Q v H')->r x H Q) (ha:XE X M G n a f):XE X M G k (.UnaryOp op a pos) (e1 o f):=by
 obtain⟨ta,pa,qa⟩:=ha;refine⟨_,Ĵ ho pa,λF0 B F H Y U d Q rs e w=>?_⟩;obtain⟨d1,h1,h2⟩:=cL e;exact qa F0 B F H Y U d1 _ rs h1 λx F' H' x1 l1=>hs F' H' x d1 d Q x1.fh l1 h2 λv F2 H2 x2 l=>w v F2 H2 (x1.trans x2) l
theorem zh:XA X M G [] [] Å:=⟨_,v5,λY O e=>(by cases e;rfl),λF0 B F H Y U O Q r e w=>by cases e;exact w [] F H (.refl r.fh) .nil⟩
theorem za (ha:XE X M G n a f)(hr:XA X M G es ns fs)(hs:SE X a es:=by rfl):XA X M G (a::es) (n::ns) (Ä f fs):=by obtain⟨ta,pa,qa⟩:=ha;obtain⟨tb,pb,lb,qb⟩:=hr;refine⟨_,yw pa pb hs,λY O e=>(by obtain⟨x,xs,h1,h2,h3⟩:=fD e;cases h3;rw[cz,cz,lb _ _ h2]),λF0 B F H Y U O Q r e w=>?_⟩;obtain⟨x,xs,h1,h2,h3⟩:=fD e;cases h3;refine qa F0 B F H Y U x _ r h1 λv F1 H1 x1 l1=>?_;exact qb F0 B F1 H1 Y U xs _ (r.ext x1) h2 λvs F2 H2 x2 l2=>w (v::vs) F2 H2 (x1.trans x2)<|.cons (l1.mono x2.ff x2.hh) l2
def Gw (X:Cx)(M:Nat->cn)(G:List Mo)(k:Nat)(es:List Expr)(f:Env->Option (List D)):Prop:=∃t,PA X es t/\(∀Y O,f Y=Z O->O.length=es.length)/\∀(F0 B F H:Hp) (Y:Env) (U:St) (O:List D) (Q:List V->Hp->Prop),RS X.K M F0 B G F H Y U->f Y=Z O ->
 (∀vs F' H' fp,kL F H F' H'->jY (Ow X.K M F' H' k) O vs fp->fp.Nodup->(∀a∈fp,H a=C)->Q vs H')->t U H Q
theorem zt:Gw X M G k [] Å:=⟨_,v5,λY O e=>(by cases e;rfl),λF0 B F H Y U O Q r e w=>by cases e;exact w [] F H [] (.refl r.fh) .nil dC λa z=>(by cases z)⟩
theorem zj (ha:XO X M G k a f)(hr:Gw X M G k es fs)(hs:SE X a es:=by rfl):Gw X M G k (a::es) (Ä f fs):=by
 obtain⟨ta,pa,qa⟩:=ha;obtain⟨tb,pb,lb,qb⟩:=hr;refine⟨_,yw pa pb hs,λY O e=>(by obtain⟨x,xs,h1,h2,h3⟩:=fD e;cases h3;rw[cz,cz,lb _ _ h2]),λF0 B F H Y U O Q r e w=>?_⟩;obtain⟨x,xs,h1,h2,h3⟩:=fD e;cases h3;refine qa F0 B F H Y U x _ r h1 λv F1 H1 f1 x1 l1 n1 a1=>?_;refine qb F0 B F1 H1 Y U xs _ (r.ext x1) h2 λvs F2 H2 f2 x2 l2 n2 a2=>w (v::vs) F2 H2 (f1++f2) (x1.trans x2) (.cons (l1.ext x2) l2) (dh.mpr ⟨n1,n2,λz hz y hy e=>?_⟩) λz hz=>?_
 ·subst e;obtain⟨_,o,ho,_⟩:=l1.cells z hz;rw[a2 z hy]at ho;cases ho
 ·rcases cH.mp hz with hz|hz
  ·exact a1 z hz
  ·exact x1.hh.free<|a2 z hz
def CT:D->Option Bool
 |.bl b=>Z b
 |_=>C
theorem xz {b:Bool}(h:CT d=Z b):d=.bl b:=by cases d<;>simp[CT]at h;subst h;rfl
abbrev BF:=Env->Option Bool
def tb (f:EF):BF:=λY=>(f Y).bind CT
def Ú (f:BF):BF:=λY=>(f Y).bind λb=>Z<|!b
def Ø (f g:BF):BF:=λY=>(f Y).bind λb=>if b=Â then g Y else Z Ã
def ã (f g:BF):BF:=λY=>(f Y).bind λb=>if b=Â then Z Â else g Y
def eB (f:BF):EF:=λY=>(f Y).bind λb=>Z<|.bl b
def ù (c:BF)(f g:EF):EF:=λY=>(c Y).bind λb=>if b=Â then f Y else g Y
variable {iB pp:qP}{c0 kk rk:Nat}{cs nd pm:List Nat}{zW:List D}{vU:List b8}{ou:List V}{fa:cn}{mf:List D->Option D}{o:Expr}{p q:BF}{pl:DM Bool}{ps:List Str}
section
theorem xi (he:XE X M G n e f)(hi:∀whole,xX e X.env whole=(do let v ← whole;k7 e.pos;gC [v] (truthy v)):=by intro _;rfl):XT X M G e (tb f):=by obtain⟨t,pt,qt⟩:=he;refine⟨_,Sj pt hi,λF0 B F H Y U b Q r e w=>?_⟩;obtain⟨d,h1,h2⟩:=cL e;rw[xz h2]at h1;exact qt F0 B F H Y U _ _ r h1 λv F' H' x l=>⟨b,l.bl,w F' H' x⟩
theorem wm {o:D->D->Option D}(ho:k9 X (d6 op) r)(hs:qR X.K M n m k r o)(ha:XE X M G n a f)(hb:XE X M G m b g)(hm:fH op b=Ã):XT X M G (.Compare a [op] [b] pos) (tb<|S o f g):=by obtain⟨ta,tb,pa,pb,q⟩:=ha.bin hb;refine⟨_,Q8 ho pa pb hm,λF0 B F H Y U b Q rs e w=>?_⟩;obtain⟨d,h0,h4⟩:=cL e;rw[xz h4]at h0;obtain⟨d1,d2,h1,h2,h3⟩:=fD h0;exact q F0 B F H Y U d1 d2 _ rs h1 h2 λx y F' H' x1 l1 l2=>hs F' H' x y d1 d2 _ _ x1.fh l1 l2 h3 λv F2 H2 x2 l=>⟨b,l.bl,w F2 H2<|x1.trans x2⟩
theorem XW.t (h:XW X M G e p):XT X M G e p:=by obtain⟨t,pt,qt⟩:=h;exact⟨t,pt.pt,qt⟩
theorem qj (ha:XT X M G a p):XW X M G (.BoolOp .And [a] pos) p:=by obtain⟨t,pt,qt⟩:=ha;exact⟨t,Z4 pt,qt⟩
theorem wu (ha:XT X M G a p):XW X M G (.BoolOp .Or [a] pos) p:=by obtain⟨t,pt,qt⟩:=ha;exact⟨t,Τ pt,qt⟩
theorem Gc {Î:List Expr}(ha:XT X M G a p)(hb:XW X M G (.BoolOp .And (b::Î) pos) q):XW X M G (.BoolOp .And (a::b::Î) pos) (Ø p q):=by
 obtain⟨t,pt,qt⟩:=ha;obtain⟨u,pu,qu⟩:=hb;refine⟨_,Ρ pt pu,λF0 B F H Y U r Q rs e w=>?_⟩;obtain⟨x,h1,h2⟩:=cL e;refine qt F0 B F H Y U x _ rs h1 λF1 H1 x1=>?_;cases x with
 |true=>rw[if_pos rfl];exact qu F0 B F1 H1 Y U r _ (rs.ext x1) h2 λF2 H2 x2=>w F2 H2<|x1.trans x2
 |false=>cases h2;rw[if_neg cJ];exact w F1 H1 x1
theorem wo {Î:List Expr}(ha:XT X M G a p)(hb:XW X M G (.BoolOp .Or (b::Î) pos) q):XW X M G (.BoolOp .Or (a::b::Î) pos) (ã p q):=by
 obtain⟨t,pt,qt⟩:=ha;obtain⟨u,pu,qu⟩:=hb;refine⟨_,Ķ pt pu,λF0 B F H Y U r Q rs e w=>?_⟩;obtain⟨x,h1,h2⟩:=cL e;refine qt F0 B F H Y U x _ rs h1 λF1 H1 x1=>?_;cases x with
 |true=>cases h2;rw[if_pos rfl];exact w F1 H1 x1
 |false=>rw[if_neg cJ];exact qu F0 B F1 H1 Y U r _ (rs.ext x1) h2 λF2 H2 x2=>w F2 H2<|x1.trans x2
theorem wg (ha:XT X M G a p):XT X M G (.UnaryOp .Not a pos) (Ú p):=by obtain⟨t,pt,qt⟩:=ha;refine⟨_,R8 pt,λF0 B F H Y U r Q rs e w=>?_⟩;obtain⟨x,h1,h2⟩:=cL e;cases h2;exact qt F0 B F H Y U x _ rs h1 λF1 H1 x1=>w F1 H1 x1
theorem vc {op}(ha:XE X M G n a f):XE X M G k (.BoolOp op [a] pos) (eB<|tb f):=by obtain⟨t,pt,qt⟩:=ha;refine⟨_,R9 pt,λF0 B F H Y U r Q rs e w=>?_⟩;obtain⟨y,h3,h4⟩:=cL e;obtain⟨z,h5,h6⟩:=cL h3;cases h4;rw[xz h6]at h5;exact qt F0 B F H Y U _ _ rs h5 λv F1 H1 x1 l=>w _ F1 H1 x1 (by rw[l.bl];exact Al.of<|.bl _)
theorem v7 {Î:List Expr}(ha:XE X M G n a f)(hb:XE X M G k (.BoolOp .And (b::Î) pos)<|eB q):XE X M G k (.BoolOp .And (a::b::Î) pos) (eB<|Ø (tb f) q):=by
 obtain⟨t,pt,qt⟩:=ha;obtain⟨u,pu,qu⟩:=hb;refine⟨_,Sa pt pu,λF0 B F H Y U r Q rs e w=>?_⟩;obtain⟨y,h3,h4⟩:=cL e;obtain⟨x,h1,h2⟩:=cL h3;obtain⟨z,h5,h6⟩:=cL h1;cases h4;rw[xz h6]at h5;refine qt F0 B F H Y U _ _ rs h5 λv F1 H1 x1 l=>⟨x,l.bl,?_⟩;cases x with
 |true=>rw[if_pos rfl];exact qu F0 B F1 H1 Y U _ _ (rs.ext x1) (show(q Y).bind _=_ by rw[if_pos rfl]at h2;rw[h2];rfl) λv F2 H2 x2 l=>w v F2 H2 (x1.trans x2) l
 |false=>rw[if_neg cJ]at h2 ⊢;cases h2;exact w _ F1 H1 x1<|Al.of<|.bl _
theorem NE {Î:List Expr}(ha:XE X M G n a f)(hb:XE X M G k (.BoolOp .Or (b::Î) pos)<|eB q):XE X M G k (.BoolOp .Or (a::b::Î) pos) (eB<|ã (tb f) q):=by
 obtain⟨t,pt,qt⟩:=ha;obtain⟨u,pu,qu⟩:=hb;refine⟨_,ĵ pt pu,λF0 B F H Y U r Q rs e w=>?_⟩;obtain⟨y,h3,h4⟩:=cL e;obtain⟨x,h1,h2⟩:=cL h3;obtain⟨z,h5,h6⟩:=cL h1;cases h4;rw[xz h6]at h5;refine qt F0 B F H Y U _ _ rs h5 λv F1 H1 x1 l=>⟨x,l.bl,?_⟩;cases x with
 |true=>rw[if_pos rfl]at h2 ⊢;cases h2;exact w _ F1 H1 x1<|Al.of<|.bl _
 |false=>rw[if_neg cJ];exact qu F0 B F1 H1 Y U _ _ (rs.ext x1) (show(q Y).bind _=_ by rw[if_neg cJ]at h2;rw[h2];rfl) λv F2 H2 x2 l=>w v F2 H2 (x1.trans x2) l
theorem Fv (hc:XT X M G c p)(ha:XE X M G k a f)(hb:XE X M G k b g):XE X M G k (.IfExp c a b pos) (ù p f g):=by
 obtain⟨s,ps,qs⟩:=hc;obtain⟨t,pt,qt⟩:=ha;obtain⟨u,pu,qu⟩:=hb;refine⟨_,YU ps pt pu,λF0 B F H Y U r Q rs e w=>?_⟩;obtain⟨x,h1,h2⟩:=cL e;refine qs F0 B F H Y U x _ rs h1 λF1 H1 x1=>?_;cases x with
 |true=>rw[if_pos rfl]at h2 ⊢;exact qt F0 B F1 H1 Y U _ _ (rs.ext x1) h2 λv F2 H2 x2 l=>w v F2 H2 (x1.trans x2) l
 |false=>rw[if_neg cJ]at h2 ⊢;exact qu F0 B F1 H1 Y U _ _ (rs.ext x1) h2 λv F2 H2 x2 l=>w v F2 H2 (x1.trans x2) l
theorem xw {x1}(h:Gw X M G k es fs)(hl:es.length<=1000:=by decide):XO X M G (k+1) (.Tuple es x1 pos) (λY=>(fs Y).bind λO=>Z<|.tup O):=by
 obtain⟨t,pt,lt,qt⟩:=h;refine⟨_,Γ pt,λF0 B F H Y U r Q rs e w=>?_⟩;obtain⟨O,h1,h2⟩:=cL e;cases h2;refine qt F0 B F H Y U O _ rs h1 λvs F1 H1 fp x1 l nd hf=>⟨?_,λp hp=>?_⟩
 ·rw[←l.length,lt _ _ h1];exact ú hl
 ·have x2:=kL.newS x1.fh hp<|.tup vs;exact w _ _ _ fp (x1.trans x2) (.inr<|.tup zw<|l.mono λ_ _ _ _ o=>o.ext x2) nd hf
theorem jY.cellsOf {vs:List V}(l:jY (Ow K M F H k) O vs fp):∀a∈fp,F a=C/\∃o,H a=Z o/\ot o:=jY.cells0 (λd v f q=>Ow.cells q) l
theorem Rc {vs:List V}{p:cn}(s:dQ F H)(l:jY (Ow K M F H k) O vs fp)(hp:H p=C):Ow K M F (gK H p<|.lst vs) (k+1) (.lst O) (.ref p) (p::fp)/\(fp.Nodup->(p::fp).Nodup) :=
 ⟨.inr<|.lst (s.free hp) zw<|l.mono λ_ _ _ _ o=>o.ext<|kL.newO s hp _,λnd=>dz.mpr ⟨λz=>(by obtain⟨_,o,ho,_⟩:=jY.cellsOf l p z;rw[hp]at ho;cases ho),nd⟩⟩
theorem yt (h:Gw X M G k es fs)(hl:es.length<=1000:=by decide):XO X M G (k+1) (.List es pos) (λY=>(fs Y).bind λO=>Z<|.lst O):=by
 obtain⟨t,pt,lt,qt⟩:=h;refine⟨_,Ϙ pt,λF0 B F H Y U r Q rs e w=>?_⟩;obtain⟨O,h1,h2⟩:=cL e;cases h2;refine qt F0 B F H Y U O _ rs h1 λvs F1 H1 fp x1 l nd hf=>⟨?_,λp hp=>?_⟩
 ·rw[←l.length,lt _ _ h1];exact ú hl
 ·obtain⟨o,n2⟩:=Rc x1.fh l hp;refine w _ _ _ (p::fp) (x1.trans<|kL.newO x1.fh hp _) o (n2 nd) λz hz=>?_;rcases cu.mp hz with rfl|hz
  ·exact x1.hh.free hp
  ·exact hf z hz
theorem Mv:XO X M G (k+1) (.Dict [] [] pos) (eC<|.dK [] []):=by refine⟨_,Y5,λF0 B F H Y U r Q rs e w p hp=>?_⟩;cases e;refine w _ F _ [p] (kL.newO rs.fh hp _) (.inr<|Cq.dK (vs:=[]) (rs.fh.free hp) zw rfl .nil) (by simp) λz hz=>?_;rw[cw]at hz;subst hz;exact hp
def jR (K:b9)(M:Nat->cn)(pm:List Nat)(rk:Nat)(m:List D->Option D):Sp:=λvs H Q _=>∃(F:Hp) (O:List D) (d:D),dQ F H/\pH K M F H pm O vs/\m O=Z d /\
 ∀v F' H' fp,kL F H F' H'->Ow K M F' H' rk d v fp->fp.Nodup->(∀a∈fp,H a=C)->Q v H'
theorem jR.len {m:List D->Option D}(h:pm.length=ps.length):∀vs H Q E,jR K M pm rk m vs H Q E->vs.length=ps.length:=by rintro vs H Q E ⟨F,O,d,_,l,_⟩;rw[l.length,h]
variable {fd:cD}
theorem Z7 (Fn:dO X.prog X.w X.K X.mg X.base gk kk fa fd ps<|jR X.K M (ns++nd) rk mf)(hr:fY kk X.A)(hg:Gl X x)(hm:X.mg x=Z (.ref fa))(hk:fu X.K (.ref fa)=Â)
  (hb:iA X.K fd ps vU) (hd:dR ou vU) (Cz:∀F W',pH X.K M F W' nd zW ou) (ha:XA X M G (e::es) ns fs)
  (oR:lH x:=by decide) (he:SE X e es:=by rfl) (mh:rc X pos es:=by rfl) :
  XO X M G rk (.Call (.Name x pp) (e::es) [] pos) (λY=>(fs Y).bind λO=>mf<|O++zW):=by
 obtain⟨t,pt,_,qt⟩:=ha;refine⟨_,MP Fn hr hg hm hk hb hd qJ pt oR he mh,λF0 B F H Y U r Q rs e w=>?_⟩;obtain⟨O,h1,h2⟩:=cL e;refine qt F0 B F H Y U O _ rs h1 λvs F1 H1 x1 l=>⟨F1,O++zW,r,x1.fh,pH.append (Cz F1 H1) l,h2,λv F2 H2 fp x2 o nd hf=>?_⟩;exact w v F2 H2 fp (x1.trans x2) o nd λz hz=>x1.hh.free<|hf z hz
theorem yp {id:String}{r:List V->Hp->VK->Prop}{op:List D->Option D}(hc:iL X (.builtin id) r)(hs:Bs X.K M ns k r op)(hg:Gl X x)(hm:X.mg x=C)(hv:d5 x=Z (.builtin id))(ha:XA X M G (e::es) ns fs)
  (hn:x≠"__name__":=by decide) (oR:lH x:=by decide) (he:SE X e es:=by rfl) (mh:rc X pos es:=by rfl) :
  XE X M G k (.Call (.Name x pp) (e::es) [] pos) (eN op fs):=by
 obtain⟨t,pt,_,qt⟩:=ha;refine⟨_,JH hc hg hm hv pt hn oR he mh,λF0 B F H Y U r Q rs e w=>?_⟩;obtain⟨O,h1,h2⟩:=cL e;exact qt F0 B F H Y U O _ rs h1 λvs F1 H1 x1 l=>hs F1 H1 vs O r Q x1.fh l h2 λv F2 H2 x2 l2=>w v F2 H2 (x1.trans x2) l2
theorem YQ {id:String}{r:List V->Hp->VK->Prop}{op:List D->Option D}(hc:iL X (.builtin id) r)(hs:Bt X.K M ns k r op)(hg:Gl X x)(hm:X.mg x=C)(hv:d5 x=Z (.builtin id))(ha:XA X M G (e::es) ns fs)
  (hn:x≠"__name__":=by decide) (oR:lH x:=by decide) (he:SE X e es:=by rfl) (mh:rc X pos es:=by rfl) :
  XO X M G k (.Call (.Name x pp) (e::es) [] pos) (eN op fs):=by
 obtain⟨t,pt,_,qt⟩:=ha;refine⟨_,JH hc hg hm hv pt hn oR he mh,λF0 B F H Y U r Q rs e w=>?_⟩;obtain⟨O,h1,h2⟩:=cL e;exact qt F0 B F H Y U O _ rs h1 λvs F1 H1 x1 l=>hs F1 H1 vs O r Q x1.fh l h2 λv F2 H2 fp x2 l2 nd hf=>w v F2 H2 fp (x1.trans x2) l2 nd λz hz=>x1.hh.free<|hf z hz
theorem z4 {id:String}{r:List V->Hp->VK->Prop}{op:List D->Option D}(hc:iL X (.type id) r)(hs:Bs X.K M ns k r op)(hg:Gl X x)(hm:X.mg x=C)(hv:d5 x=Z (.type id))(ha:XA X M G (e::es) ns fs)
  (hn:x≠"__name__":=by decide) (oR:lH x:=by decide) (he:SE X e es:=by rfl) (mh:rc X pos es:=by rfl) :
  XE X M G k (.Call (.Name x pp) (e::es) [] pos) (eN op fs):=by
 obtain⟨t,pt,_,qt⟩:=ha;refine⟨_,PZ hc hg hm hv pt hn oR he mh,λF0 B F H Y U r Q rs e w=>?_⟩;obtain⟨O,h1,h2⟩:=cL e;exact qt F0 B F H Y U O _ rs h1 λvs F1 H1 x1 l=>hs F1 H1 vs O r Q x1.fh l h2 λv F2 H2 x2 l2=>w v F2 H2 (x1.trans x2) l2
theorem PM {id:String}{r:List V->Hp->VK->Prop}{op:List D->Option D}(hc:iL X (.type id) r)(hs:Bt X.K M ns k r op)(hg:Gl X x)(hm:X.mg x=C)(hv:d5 x=Z (.type id))(ha:XA X M G (e::es) ns fs)
  (hn:x≠"__name__":=by decide) (oR:lH x:=by decide) (he:SE X e es:=by rfl) (mh:rc X pos es:=by rfl) :
  XO X M G k (.Call (.Name x pp) (e::es) [] pos) (eN op fs):=by
 obtain⟨t,pt,_,qt⟩:=ha;refine⟨_,PZ hc hg hm hv pt hn oR he mh,λF0 B F H Y U r Q rs e w=>?_⟩;obtain⟨O,h1,h2⟩:=cL e;exact qt F0 B F H Y U O _ rs h1 λvs F1 H1 x1 l=>hs F1 H1 vs O r Q x1.fh l h2 λv F2 H2 fp x2 l2 nd hf=>w v F2 H2 fp (x1.trans x2) l2 nd λz hz=>x1.hh.free<|hf z hz
def dX (cs:List Nat)(x:Str):D->Option D
 |.obj c ns O=>if cs.contains c=Â then(ns.zip O).lookup x else C
 |_=>C
theorem qk {R:D->V->Prop}{x:Str}{d:D}:∀{ns:List Str} {O:List D} {vs:List V},Pr R O vs->(ns.zip O).lookup x=Z d->∃v,(ns.zip vs).lookup x=Z v/\R d v
 |[],_,_,_,e=>by simp at e
 |_::_,_,_,.nil,e=>by simp at e
 |y::ns,_,_,.cons h t,e=>by
  rw[gJ,dc]at e;rw[gJ,dc];cases q:x==y with
  |true=>rw[q]at e;cases e;exact⟨_,rfl,h⟩
  |false=>rw[q]at e;exact qk t e
theorem JI {vs:List V}{x:Str}:∀{ns:List Str} {vs:List V},ns.contains x=Ã->(ns.zip vs).lookup x=C
 |[],_,_=>by simp
 |_::_,[],_=>by simp
 |y::ns,_::vs,h=>by rw[rm,yF]at h;rw[gJ,dc,h.1];exact JI (vs:=vs) h.2
theorem Sr (he:XE X M G n e f)(hc:∀c∈cs,pT X.K (M c)/\gB X.K (M c) x)(hb:CN X e x):XE X M G (n-1) (.Attribute e x pos) (e1 (dX cs x) f):=by
 obtain⟨t,pt,qt⟩:=he;refine⟨_,Ε pt hb,λF0 B F H Y U r Q rs e w=>?_⟩;obtain⟨o,h1,h2⟩:=cL e;refine qt F0 B F H Y U o _ rs h1 λv F1 H1 x1 l=>?_;cases o with
 |obj c ns O=>
  obtain⟨a,dx,vs,rfl,ha,hl,KY⟩:=l.obj x1.fh;unfold dX at h2;dsimp only at h2;by_cases wZ:cs.contains c=Â
  ·rw[if_pos wZ]at h2;obtain⟨u,hu,du⟩:=qk KY h2;have hh:=hc c (by simpa using wZ);exact⟨a,_,dx,_,u,rfl,ha,hh.1,hh.2,hu,w u F1 H1 x1 du⟩
  ·rw[if_neg wZ]at h2;cases h2
 |_=>cases h2
def sU (c0:Nat)(m:Str)(mf:List D->Option D)(o:D)(O:List D):Option D:=match o with
 |.obj c ns _=>if c=c0/\ns.contains m=Ã then mf (o::O)else C
 |_=>C
theorem Z8 (ho:XE X M G n o f)(c:pT X.K<|M c0)(hm:yM X.K (M c0) x fa)(Fn:dO X.prog X.w X.K X.mg X.base gk kk fa fd ps<|jR X.K M (n::(ns++nd)) rk mf)(hr:fY kk X.A)
  (hb:iA X.K fd ps vU) (hd:dR ou vU) (Cz:∀F W',pH X.K M F W' nd zW ou) (ha:XA X M G (e::es) ns fs)
  (n8:SE X e es:=by rfl) (mh:rc X pos es:=by rfl)
  (ht:fB (.Call (.Attribute o x iB) (e::es) [] pos) X.env=(do
   let ov ← fB o X.env
   k7 iB.atName
   let(f,first) ← gC [ov] (lA ov x pl)
   nc pos f first (kh pos<|dE (e::es) X.env) (lV pos<|iG [] X.env)):=by rfl) :
  XO X M G rk (.Call (.Attribute o x iB) (e::es) [] pos) (λY=>(f Y).bind λo=>(fs Y).bind λO=>sU c0 x mf o<|O++zW):=by
 obtain⟨u,pu,qu⟩:=ho;obtain⟨t,pt,_,qt⟩:=ha;refine⟨_,Rg pu c hm Fn hr hb hd qJ pt n8 mh ht,λF0 B F H Y U r Q rs e w=>?_⟩;obtain⟨o,O,h1,h2,h3⟩:=fD e;refine qu F0 B F H Y U o _ rs h1 λv F1 H1 x1 l=>?_;cases o with
 |obj c1 wQ vH=>
  unfold sU at h3;dsimp only at h3;split at h3
  ·rename_i hc;obtain⟨rfl,oA⟩:=hc;obtain⟨a,dx,vs,rfl,ha,hl,KY⟩:=l.obj x1.fh;refine⟨a,dx,_,rfl,ha,JI (vs:=vs) oA,?_⟩;refine qt F0 B F1 H1 Y U O _ (rs.ext x1) h2 λus F2 H2 x2 l2=>⟨F2,_,r,x2.fh,.cons (l.mono x2.ff x2.hh)<|pH.append (Cz F2 H2) l2,h3,λv F3 H3 fp x3 o nd hf=>?_⟩;exact w v F3 H3 fp ((x1.trans x2).trans x3) o nd λz hz=>(x1.trans x2).hh.free<|hf z hz
  ·cases h3
 |_=>cases h3
theorem YR (ho:XE X M G n o f)(c:pT X.K<|M c0)(hm:yM X.K (M c0) x fa)(Fn:dO X.prog X.w X.K X.mg X.base gk kk fa fd ps<|jR X.K M (n::nd) rk mf)(hr:fY kk X.A)
  (hb:iA X.K fd ps vU) (hd:dR ou vU) (Cz:∀F W',pH X.K M F W' nd zW ou)
  (ht:fB (.Call (.Attribute o x iB) [] [] pos) X.env=(do
   let ov ← fB o X.env
   k7 iB.atName
   let(f,first) ← gC [ov] (lA ov x pl)
   nc pos f first (kh pos<|dE [] X.env) (lV pos<|iG [] X.env)):=by rfl) :
  XO X M G rk (.Call (.Attribute o x iB) [] [] pos) (λY=>(f Y).bind λo=>sU c0 x mf o zW):=by
 obtain⟨u,pu,qu⟩:=ho;refine⟨_,Y1 pu c hm Fn hr hb hd qJ ht,λF0 B F H Y U r Q rs e w=>?_⟩;obtain⟨o,h1,h3⟩:=cL e;refine qu F0 B F H Y U o _ rs h1 λv F1 H1 x1 l=>?_;cases o with
 |obj c1 wQ vH=>
  unfold sU at h3;dsimp only at h3;split at h3
  ·rename_i hc;obtain⟨rfl,oA⟩:=hc;obtain⟨a,dx,vs,rfl,ha,hl,KY⟩:=l.obj x1.fh;refine⟨a,dx,_,rfl,ha,JI (vs:=vs) oA,F1,_,r,x1.fh,.cons l<|Cz F1 H1,h3,λv F3 H3 fp x3 o nd hf=>?_⟩;exact w v F3 H3 fp (x1.trans x3) o nd λz hz=>x1.hh.free<|hf z hz
  ·cases h3
 |_=>cases h3
end
inductive ð where
 |nx (Y:Env)|rt (d:D)|bk (Y:Env)|ct (Y:Env)
abbrev SF:=Env->Option ð
def sK (K:b9)(cl:Nat->cn)(F0 B:Hp)(G:List Mo)(rk:Nat)(E:rX):ð->Prop
 |.nx Y=>∀U F H,RS K cl F0 B G F H Y U->E.nx U H
 |.bk Y=>∀U F H,RS K cl F0 B G F H Y U->E.bk U H
 |.ct Y=>∀U F H,RS K cl F0 B G F H Y U->E.ct U H
 |.rt d=>∀v F H fp,dQ F0 F->dQ B H->dQ F H->(∀a o,B a=Z o->ot o->F0 a=C->F a=C)->Ow K cl F H rk d v fp->fp.Nodup->(∀a∈fp,B a=C)->E.rt v H
section
variable (X:Cx)(M:Nat->cn)(G:List Mo)(rk:Nat)
def XS (st:eA)(f:SF):Prop:=∃t,PS X st t/\∀(F0 B F H:Hp) (Y:Env) (U:St) (o:ð) (E:rX),RS X.K M F0 B G F H Y U->f Y=Z o->sK X.K M F0 B G rk E o->t E U H
def wM (st:List eA)(f:SF):Prop:=∃t,yP X st t/\∀(F0 B F H:Hp) (Y:Env) (U:St) (o:ð) (E:rX),RS X.K M F0 B G F H Y U->f Y=Z o->sK X.K M F0 B G rk E o->t E U H
end
def Ë:SF:=λY=>Z<|.nx Y
def Æ (f g:SF):SF:=λY=>(f Y).bind λo=>match o with
 |.nx ρ'=>g ρ'
 |o=>Z o
def Ò (c:BF)(f g:SF):SF:=λY=>(c Y).bind λb=>if b=Â then f Y else g Y
def É (i:Nat)(f:EF):SF:=λY=>(f Y).bind λd=>Z<|.nx<|Y.set i<|Z d
def Ì (f:EF):SF:=λY=>(f Y).bind λd=>Z<|.rt d
def û:SF:=λ_=>Z<|.rt .non
def ê (f:EF):SF:=λY=>(f Y).bind λ_=>Z<|.nx Y
def Ü:SF:=λ_=>C
noncomputable def p6:Nat:=2 ^ 9000
def lE (c:BF)(b:SF):Nat->SF
 |0,_=>C
 |n+1,Y=>(c Y).bind λt=>if t=Â then(b Y).bind λo=>match o with
   |.nx ρ'=>lE c b n ρ'
   |.ct ρ'=>lE c b n ρ'
   |.bk ρ'=>Z<|.nx ρ'
   |.rt d=>Z<|.rt d
  else Z (.nx Y)
def kA (c:BF)(b:SF):SF:=lE c b p6
def jV (g:D->Env->Option Env)(b:SF):List D->SF
 |[],Y=>Z<|.nx Y
 |d::O,Y=>(g d Y).bind λρ1=>(b ρ1).bind λo=>match o with
   |.nx ρ'=>jV g b O ρ'
   |.ct ρ'=>jV g b O ρ'
   |.bk ρ'=>Z<|.nx ρ'
   |.rt d=>Z<|.rt d
def Û (f:Env->Option (List D))(g:D->Env->Option Env)(b:SF):SF:=λY=>(f Y).bind λO=>jV g b O Y
variable {N:List Str}{P:eG}{base:cO}{bf u w:SF}{fi:Env->Option (List D)}{gg:D->Env->Option Env}{gs:List D->Env->Option Env}{iter tg:Expr}{j:Nat}{mg:Str->Option b8}{pos':qP}{qual:Str}{Î Eg:List eA}{st:eA}{qN:List Expr}{ρ':Env}
theorem v8:wM X M G rk [] Ë:=⟨_,Q9,λF0 B F H Y U o E rs e w=>by cases e;exact w U F H rs⟩
theorem ze (h1:XS X M G rk st u)(h2:wM X M G rk Î w):wM X M G rk (st::Î) (Æ u w):=by
 obtain⟨t,pt,qt⟩:=h1;obtain⟨t2,qC,sW⟩:=h2;refine⟨_,Mr pt qC,λF0 B F H Y U o E rs e z=>?_⟩;obtain⟨o1,e1,S⟩:=cL e;refine qt F0 B F H Y U o1 _ rs e1 ?_;cases o1 with
 |nx ρ'=>exactλσ' F' H' LN=>sW F0 B F' H' ρ' σ' o E LN S z
 |rt d=>cases S;exact z
 |bk ρ'=>cases S;exact z
 |ct ρ'=>cases S;exact z
theorem zl (h1:XS X M G rk st u):wM X M G rk [st] u:=by obtain⟨t,pt,qt⟩:=h1;exact⟨_,MN pt,qt⟩
theorem wp:XS X M G rk st Ü:=⟨_,YV,λF0 B F H Y U o E rs e w=>by cases e⟩
theorem Z9 (he:XE X M G n e f)(hs:iF e C pos.line X.env=pure Ã:=by rfl):XS X M G rk (.Expr e pos) (ê f):=by obtain⟨t,pt,qt⟩:=he;refine⟨_,MO pt hs,λF0 B F H Y U o E rs e w=>?_⟩;obtain⟨d,h1,h2⟩:=cL e;cases h2;exact qt F0 B F H Y U d _ rs h1 λv F' H' x l=>w U F' H'<|rs.ext x
theorem ye (he:XO X M G rk e f):XS X M G rk (.Return (Z e) pos) (Ì f):=by obtain⟨t,pt,qt⟩:=he;refine⟨_,Iq pt,λF0 B F H Y U o E rs e w=>?_⟩;obtain⟨d,h1,h2⟩:=cL e;cases h2;refine qt F0 B F H Y U d _ rs h1 λv F' H' fp x l nd hf=>?_;have r:=rs.ext x;exact w v F' H' fp r.f0 r.bh r.fh r.nf l nd λz hz=>rs.bh.free<|hf z hz
theorem Gg {CI:List eA}(hc:XT X M G c p)(h1:wM X M G rk Eg u)(h2:wM X M G rk CI w):XS X M G rk (.If c Eg CI pos) (Ò p u w):=by
 obtain⟨t,pt,qt⟩:=hc;obtain⟨t1,xD,xE⟩:=h1;obtain⟨t2,qC,sW⟩:=h2;refine⟨_,NB pt xD qC,λF0 B F H Y U o E rs e z=>?_⟩;obtain⟨x,h1,h2⟩:=cL e;refine qt F0 B F H Y U x _ rs h1 λF1 H1 x1=>?_;cases x with
 |true=>rw[if_pos rfl]at h2 ⊢;exact xE F0 B F1 H1 Y U o E (rs.ext x1) h2 z
 |false=>rw[if_neg cJ]at h2 ⊢;exact sW F0 B F1 H1 Y U o E (rs.ext x1) h2 z
theorem RS.put {F' H':Hp}(rs:RS K M F0 B G F H Y U)(hm:G[i]?=Z (.ow k)) :
  ∃f1 fr:List cn,f1.Nodup/\(∀a∈f1,B a=C)/\(∀a∈f1,a∉fr)/\(∀d,Y[i]?=Z (Z d)->∃v,U[i]?=Z (Z v)/\Ow K M F H k d v f1)/\(∀a∈fr,F a=C/\∃o,H a=Z o/\ot o) /\
   ∀(F' H':Hp) (d':D) (v':V) (f':List cn),dQ F F'->dQ B H'->dQ F' H'->(∀a o,B a=Z o->ot o->F0 a=C->F' a=C)->(∀a∈fr,H' a=H a/\F' a=C)->Ow K M F' H' k d' v' f'->f'.Nodup->(∀a∈f',a∉fr)->(∀a∈f',B a=C) ->
    RS K M F0 B G F' H' (Y.set i<|Z d') (U.set i<|Z v'):=by
 obtain⟨fp,sl,nd,hb⟩:=rs.sl;obtain⟨f1,fr,i1,i2,i3,i4,i5⟩:=sl.put hm;obtain⟨n1,n2,n3⟩:=i3 nd;refine⟨f1,fr,n1,λa z=>hb a<|i1 a z,n3,i4,λa z=>sl.cells a<|i2 a z,λF' H' d' v' f' s1 s2 s3 s4 kf o Vd dj Uw=>?_⟩;obtain⟨nE,q1,q2,q3⟩:=i5 F' H' d' v' f' s1 kf o;exact⟨rs.f0.trans s1,s2,s3,s4,nE,q1,q3 Vd n2 dj,λa z=>(q2 a z).elim (Uw a) λz=>hb a<|i2 a z⟩
theorem RS.set {v:V}(rs:RS K M F0 B G F H Y U)(hm:G[i]?=Z (.ow k))(x:kL F H F' H')(o:Ow K M F' H' k d v fp)(nd:fp.Nodup)(hf:∀a∈fp,H a=C) :
  RS K M F0 B G F' H' (Y.set i<|Z d) (U.set i<|Z v):=by
 have r:=rs.ext x;obtain⟨f1,fr,n1,b1,n3,i4,cf,put⟩:=rs.put (F':=F') (H':=H') hm;refine put F' H' d v fp x.ff r.bh x.fh r.nf (λa z=>?_) o nd (λa z zb=>?_) λa z=>rs.bh.free<|hf a z
 ·obtain⟨hn,o,ho,nt⟩:=cf a z;exact⟨(x.hh _ _ ho).trans ho.symm,x.nf a o ho nt hn⟩
 ·obtain⟨hn,o,ho,nt⟩:=cf a zb;rw[hf a z]at ho;cases ho
theorem Ŵ (hm:G[i]?=Z (.ow k))(hN:X.N.Nodup)(hi:X.N[i]?=Z x)(hx:ï X.env.scope x)(he:XO X M G k e f)(hs:Gv X e x pos' pos:=by rfl)
  (hf:wW X x:=by walk_at "v2"):XS X M G rk (.Assign [.Name x pos'] e pos) (É i f):=by
 obtain⟨t,pt,qt⟩:=he;refine⟨_,Se hN hi hx pt hs hf,λF0 B F H Y U o E rs e w=>?_⟩;obtain⟨d,h1,h2⟩:=cL e;cases h2;exact qt F0 B F H Y U d _ rs h1 λv F' H' fp x l nd hf=>w _ F' H'<|rs.set hm x l nd hf
theorem YS (hc:XT X M G c p)(hb:wM X M G rk Î u)(hp:oo (c8 X.prog X.w) X.A X.env X.xe):XS X M G rk (.While c Î [] pos) (kA p u):=by
 obtain⟨t,pt,qt⟩:=hc;obtain⟨t1,xD,xE⟩:=hb;refine⟨_,YW hp pt xD,λF0 B F H Y U o E rs e z=>?_⟩;refine⟨λm U H=>∃F Y,RS X.K M F0 B G F H Y U/\lE p u m Y=Z o,⟨p6,F,Y,rs,e⟩,?_⟩;rintro m U H ⟨F,Y,rs,e⟩;cases m with
 |zero=>cases e
 |succ m=>
  obtain⟨x,h1,h2⟩:=cL e;refine qt F0 B F H Y U x _ rs h1 λF1 H1 x1=>?_;cases x with
  |true=>
   rw[if_pos rfl]at h2 ⊢;obtain⟨o1,h3,h4⟩:=cL h2;refine⟨λU H=>∃F Y,RS X.K M F0 B G F H Y U/\lE p u m Y=Z o,λσ' H' h=>⟨m,oZ m,h⟩,?_⟩;refine xE F0 B F1 H1 Y U o1 _ (rs.ext x1) h3 ?_;cases o1 with
   |nx ρ'=>exactλσ' F' H' r=>⟨F',ρ',r,h4⟩
   |ct ρ'=>exactλσ' F' H' r=>⟨F',ρ',r,h4⟩
   |bk ρ'=>cases h4;exact z
   |rt d=>cases h4;exact z
  |false=>rw[if_neg cJ]at h2 ⊢;cases h2;exact z U F1 H1<|rs.ext x1
theorem RS.re (r:RS K M F0 B G F H Y U):RS K M F B G F H Y U:=⟨.refl _,r.bh,r.fh,λ_ _ _ _ h=>h,r.sl⟩
theorem RS.back {σ':St}(r:RS K M F0 B G F H Y U)(q:RS K M F B G F' H' ρ' σ'):RS K M F0 B G F' H' ρ' σ' :=
 ⟨r.f0.trans q.f0,q.bh,q.fh,λa o h t n=>q.nf a o h t<|r.nf a o h t n,q.sl⟩
theorem sK.re {E:rX}{o:ð}(r:RS K M F0 B G F H Y U)(z:sK K M F0 B G rk E o):sK K M F B G rk E o:=by
 cases o with
 |nx Y=>exactλσ' F' H' q=>z σ' F' H'<|r.back q
 |bk Y=>exactλσ' F' H' q=>z σ' F' H'<|r.back q
 |ct Y=>exactλσ' F' H' q=>z σ' F' H'<|r.back q
 |rt d=>exactλv F' H' fp s1 s2 s3 s4=>z v F' H' fp (r.f0.trans s1) s2 s3 λa o h t n=>s4 a o h t<|r.nf a o h t n
def Az (K:b9)(M:Nat->cn)(F B:Hp)(n:Nat)(J':It)(O:List D):Prop :=
 ∀(i:Nat) (F' H':Hp),dQ F F'->dQ B H'->dQ F' H'->(∀d,O[i]?=Z d->J'.go i H'/\∀x H2,J'.yld i H' x H2->∃F2,kL F' H' F2 H2/\Al K M F2 B n d x)/\(O.length<=i->J'.stop i H')
def XI (X:Cx)(M:Nat->cn)(G:List Mo)(n:Nat)(tg iter:Expr)(f:Env->Option (List D)):Prop:=∃wi,PI X tg iter wi/\∀(F0 B F H:Hp) (Y:Env) (U:St) (O:List D) (R:It->Hp->Prop),RS X.K M F0 B G F H Y U->f Y=Z O ->
 (∀J' F' H',kL F H F' H'->Az X.K M F' B n J' O->R J' H')->wi U H R
def ED (X:Cx)(c:Prop)(M:Nat->cn)(G:List Mo)(n:Nat)(tg iter:Expr)(f:Env->Option (List D)):Prop:=∃wi,Gu X c tg iter wi/\∀(F0 B F H:Hp) (Y:Env) (U:St) (O:List D) (R:It->Hp->Prop),RS X.K M F0 B G F H Y U->f Y=Z O ->
 (∀J' F' H',kL F H F' H'->Az X.K M F' H' n J' O->R J' H')->wi U H R
abbrev DU (X:Cx):=ED X<|X.calm=Â
def XG (X:Cx)(M:Nat->cn)(G:List Mo)(n:Nat)(tg:Expr)(g:D->Env->Option Env):Prop:=∃t,PG X tg t/\∀(F0 B F H:Hp) (Y ρ':Env) (U:St) (d:D) (v:V) (Q:St->Hp->Prop),RS X.K M F0 B G F H Y U->Al X.K M F B n d v->g d Y=Z ρ' ->
 (∀σ',RS X.K M F0 B G F H ρ' σ'->Q σ' H)->t v U H Q
theorem ų (hi:XI X M G n tg iter fi)(hg:XG X M G n tg gg)(hb:wM X M G rk Î u)(hp:oo (c8 X.prog X.w) X.A X.env X.xe)(hc:X.calm=Â)
  (hs:Co X iter:=by intro _;rfl):XS X M G rk (.For tg iter Î [] pos) (Û fi gg u):=by
 obtain⟨wi,pi,qi⟩:=hi;obtain⟨OQ,pg,qg⟩:=hg;obtain⟨t1,xD,xE⟩:=hb;refine⟨_,Μ hp hc pi pg xD hs,λF0 B F H Y U o E rs e z=>?_⟩;obtain⟨O,h1,h2⟩:=cL e;refine qi F0 B F H Y U O _ rs h1 λJ' F1 H1 x1 ok=>?_;refine⟨λi m U H=>m=O.length-i/\i<=O.length/\∃F Y,dQ F1 F/\RS X.K M F0 B G F H Y U/\jV gg u (O.drop i) Y=Z o,⟨O.length,rfl,fI _,F1,Y,.refl _,rs.ext x1,h2⟩,?_⟩;rintro i m U H ⟨rfl,FO,F,Y,s1,rs,e⟩;obtain⟨k1,k2⟩:=ok i F H s1 rs.bh rs.fh;by_cases qH:i<O.length
 ·right;have hd:O[i]?=Z O[i]:=by simp[qH]
  obtain⟨go,yl⟩:=k1 _ hd;rw[gX qH]at e;obtain⟨ρ1,h3,h4⟩:=cL e;obtain⟨o1,h5,h6⟩:=cL h4;refine⟨go,λU H=>i+1<=O.length/\∃F Y,dQ F1 F/\RS X.K M F0 B G F H Y U/\jV gg u (O.drop<|i+1) Y=Z o,λσ' H' h=>⟨O.length-(i+1),by lia,rfl,h⟩,λx H2 y=>?_⟩;obtain⟨F2,x2,l⟩:=yl x H2 y;refine qg F0 B F2 H2 Y ρ1 U _ x _ (rs.ext x2) l h3 λσ' r=>?_;have s2:=s1.trans x2.ff;refine xE F2 B F2 H2 ρ1 σ' o1 _ r.re h5 ?_;cases o1 with
  |nx ρ'=>exactλσ' F' H' q=>⟨qH,F',ρ',s2.trans q.f0,r.back q,h6⟩
  |ct ρ'=>exactλσ' F' H' q=>⟨qH,F',ρ',s2.trans q.f0,r.back q,h6⟩
  |bk ρ'=>cases h6;exactλσ' F' H' q=>z σ' F' H'<|r.back q
  |rt d=>cases h6;exact sK.re (o:=.rt d) r z
 ·left;refine⟨k2<|by lia,?_⟩
  have:O.drop i=[]:=wU (by lia);rw[this]at e;cases e;exact z U F H rs
def gV (i:Nat):D->Env->Option Env:=λd Y=>Z<|Y.set i<|Z d
theorem zr4 (hm:G[i]?=Z (.ow 0))(hN:X.N.Nodup)(hi:X.N[i]?=Z x)(hx:ï X.env.scope x)
  (hf:wW X x:=by walk_at "v2"):XG X M G 0 (.Name x pos) (gV i):=by
 refine⟨_,Ra hN hi hx hf,λF0 B F H Y ρ' U d v Q rs l e w=>?_⟩;cases e;exact w _ (rs.set hm (.refl rs.fh) (Ow.zero l) dC λa z=>(by cases z))
def Gx (X:Cx)(M:Nat->cn)(G:List Mo)(n:Nat)(qN:List Expr)(g:List D->Env->Option Env):Prop:=∃t,Ez X qN t/\(∀O Y ρ',g O Y=Z ρ'->O.length=qN.length)/\∀(F0 B F H:Hp) (Y ρ':Env) (U:St) (O:List D) (vs:List V) (Q:St->Hp->Prop),RS X.K M F0 B G F H Y U->Pr (Al X.K M F B n) O vs->g O Y=Z ρ' ->
 (∀σ',RS X.K M F0 B G F H ρ' σ'->Q σ' H)->t vs U H Q
def Ð:List D->Env->Option Env:=λO Y=>match O with
 |[]=>Z Y
 |_=>C
def Ç (g:D->Env->Option Env)(gs:List D->Env->Option Env):List D->Env->Option Env:=λO Y=>match O with
 |d::O=>(g d Y).bind λρ'=>gs O ρ'
 |[]=>C
theorem jb:Gx X M G n [] Ð:=by
 refine⟨_,Rb,λO Y ρ' e=>?_,λF0 B F H Y ρ' U O vs Q rs l e w=>?_⟩
 ·cases O with
  |nil=>rfl
  |cons d O=>cases e
 ·cases l with
  |nil=>cases e;exact⟨rfl,w U rs⟩
  |cons _ _=>cases e
theorem yi (h1:XG X M G n tg gg)(h2:Gx X M G n qN gs)
  (hs:(eE (tg::qN) X.env).map (·.2)=mG tg X.env::(eE qN X.env).map (·.2):=by rfl):Gx X M G n (tg::qN) (Ç gg gs):=by
 obtain⟨t,pt,qt⟩:=h1;obtain⟨t2,qC,FW,sW⟩:=h2;refine⟨_,Qz pt qC hs,λO Y ρ' e=>?_,λF0 B F H Y ρ' U O vs Q rs l e w=>?_⟩
 ·cases O with
  |nil=>cases e
  |cons d O=>obtain⟨ρ1,h3,h4⟩:=cL e;rw[cz,cz,FW _ _ _ h4]
 ·cases l with
  |nil=>cases e
  |cons h t=>obtain⟨ρ1,h3,h4⟩:=cL e;exact⟨_,_,rfl,qt F0 B F H Y ρ1 U _ _ _ rs h h3 λσ1 r1=>sW F0 B F H ρ1 ρ' σ1 _ _ _ r1 t h4 w⟩
def gT (gs:List D->Env->Option Env):D->Env->Option Env:=λd Y=>match d with
 |.tup O=>gs O Y
 |_=>C
theorem Gd (hc:X.calm=Â)(h:Gx X M G (n-1) qN gs)(hl:(eE qN X.env).length=qN.length:=by rfl)(n8:(eE qN X.env).findIdx? (·.1)=C:=by rfl):XG X M G n (.Tuple qN j pos) (gT gs):=by
 obtain⟨t,pt,lt,qt⟩:=h;refine⟨_,Sb (n:=qN.length) hc pt hl n8,λF0 B F H Y ρ' U d v Q rs l e w=>?_⟩;cases d with
 |tup O=>
  have l':Al X.K M F H n (.tup O) v:=l.mono (.refl _) rs.bh;have:∃a vs,v=.ref a/\p9 X.K H a vs/\Pr (Al X.K M F B<|n-1) O vs:=by
   cases n with
   |zero=>
    have l:Dt X.K M F (.tup O) v:=l;cases l with
    |tup q t=>exact⟨_,_,rfl,p9.of<|rs.fh _ _ q,t.pr⟩
   |succ n=>
    rcases l with l|l
    ·cases l with
     |tup q t=>exact⟨_,_,rfl,p9.of<|rs.fh _ _ q,t.pr.mono λ_ _=>Al.of⟩
    ·cases l with
     |tup q t=>exact⟨_,_,rfl,p9.of<|rs.fh _ _ q,t⟩
  obtain⟨a,vs,rfl,ha,hp⟩:=this;exact⟨a,vs,rfl,ha,hp.length.symm.trans<|lt _ _ _ e,qt F0 B F H Y ρ' U O vs Q rs hp e w⟩
 |_=>cases e
def Ñ (N:List Str)(O:List D):Env:=O.map Z++cB (N.length-O.length) C
def Ô (N:List Str)(b:SF)(O:List D):Option D:=(b<|Ñ N O).bind λo=>match o with
 |.rt d=>Z d
 |.nx _=>Z .non
 |_=>C
theorem SL.start {K:b9}{F B H:Hp}:∀{pm:List Nat} {O:List D} {vs:List V} {G:List Mo} (j:Nat),pH K M F B pm O vs->(∀(i n:Nat),pm[i]?=Z n->G[i]?=Z (Mo.al n)\/(n=0/\G[i]?=Z (Mo.ow 0)))->G.length=pm.length+j ->
  SL K M F B H G (O.map Z++cB j C) (vs.map Z++cB j C) []
 |_,_,_,G,j,.nil,_,hl=>by
  have:∀(j:Nat) (G:List Mo),G.length=j->SL K M F B H G (cB j C) (cB j C) []:=by
   intro j;induction j with
   |zero=>intro G h;cases G with
    |nil=>exact .nil
    |cons _ _=>simp at h
   |succ j ih=>intro G h;cases G with
    |nil=>simp at h
    |cons m G=>exact .no (ih G<|by simpa using h)
  simpa using this j G (by simpa using hl)
 |_,_,_,[],j,.cons h t,_,hl=>by simp at hl;lia
 |_,_,_,m::G,j,.cons (n:=n) h t,hm,hl=>by
  have ih:=SL.start (G:=G) (H:=H) j t (λi n e=>by simpa using hm (i+1) n (by simpa using e)) (by simp at hl;lia);rcases hm 0 n rfl with e|⟨rfl,e⟩
  ·simp at e;subst e;exact .al h ih
  ·simp at e;subst e;exact SL.ow (f:=[]) (Ow.zero h) ih
structure ë (K:b9)(x qual:Str)(st:eA)(f:cn)(fd:cD):Prop where
 ex:∃(oc:b8) (od:Option cn) (dV kV doc pm:b8) (an:Option cn) (kM M:b8) (Dg:Array<|Option b8),
  fd=oI x qual (mw st) (iE st) (dS st) dV kV doc pm an kM M/\K.lookup f=Z ⟨oc,od,.func fd,Dg⟩/\tD K kM qual=Â
 kp:fu K (.ref f)=Â
theorem ë.ok {w:dW}{f:cn}{fd:cD}{sp:Sp}(F:ë K x qual st f fd)(K':iO N ps<|dS st)(len:∀vs H Q E,sp vs H Q E->vs.length=ps.length)
    (BA:∀(kM:b8) (A:d4) (outer:List PySem.Env) (s:cF) (H:Hp) (vs:List V) (Q:VK) (E:XK),fY k (A.deeper<|envOfC qual (dS st) s.heap.objs.size f kM)->sp vs H Q E ->
      ∃t,yP (sS gk P w K mg base N qual (dS st) f kM A outer s H E).nox (iE st) t/\t { nx:=λ_ H'=>Q .non H',rt:=Q } (L2.start N vs) H):dO P w K mg base gk (k+1) f fd ps sp:=by
  obtain⟨oc,od,dV,kV,doc,pm,an,kM,M,Dg,rfl,lk,mR⟩:=F.ex;refine İ lk mR K' len λA outer s H vs Q E hr D6=>?_;obtain⟨t,h,q⟩:=BA kM A outer s H vs Q E hr D6;exact⟨t,h.nox,q⟩
theorem ĝ {w:dW}{fd:cD}(Fn:ë K x qual st fa fd)(K':iO N ps<|dS st)(BE:pm.length=ps.length)(EQ:G.length=N.length)(rG:ps.length<=N.length)
  (EO:∀(i n:Nat),pm[i]?=Z n->G[i]?=Z (Mo.al n)\/(n=0/\G[i]?=Z (Mo.ow 0)))
  (body:∀(kM:b8) (A:d4) (outer:List PySem.Env) (s:cF) (H:Hp) (E:XK),fY kk (A.deeper<|envOfC qual (dS st) s.heap.objs.size fa kM)->wM (sS gk P w K mg base N qual (dS st) fa kM A outer s H E).nox M G rk (iE st) bf) :
  dO P w K mg base gk (kk+1) fa fd ps (jR K M pm rk<|Ô N bf):=by
 refine Fn.ok K' (jR.len BE) λkM A outer s H vs Q E hr h=>?_;obtain⟨F,O,d,sF,l,hm,q⟩:=h;obtain⟨t,pt,qt⟩:=body kM A outer s H E hr;refine⟨t,pt,?_⟩;obtain⟨o,h1,h2⟩:=cL hm;have hvl:vs.length=pm.length:=l.length;have CZ:O.length=vs.length:=l.length';refine qt F H F H (Ñ N O) (L2.start N vs) o _ ⟨.refl _,.refl _,sF,λ_ _ _ _ h=>h,[],?_,dC,λa z=>(by cases z)⟩ h1 ?_
 ·unfold Ñ L2.start;rw[CZ];exact SL.start _ l EO (by lia)
 ·cases o with
  |nx Y=>cases h2;exactλU F' H' r=>q .non F' H' [] ⟨r.f0,r.bh,r.fh,r.nf⟩ (Ow.scal .non rfl) dC λa z=>(by cases z)
  |rt d'=>cases h2;exactλv F' H' fp s1 s2 s3 s4 o nd hf=>q v F' H' fp ⟨s1,s2,s3,s4⟩ o nd hf
  |bk Y=>cases h2
  |ct Y=>cases h2
variable {r':R2}
theorem k9.or {f:b8->b8->DM b8}(h:k9 X f r)(h':k9 X f r'):k9 X f (λx y H Q=>r x y H Q\/r' x y H Q) :=
 λce s U H x y v u Q I rx ry q=>q.elim (h ce s U H x y v u Q I rx ry)<|h' ce s U H x y v u Q I rx ry
variable {gv:Int->Int->V}{neg:Bool}
def i2 (g:Int->Int->D):D->D->Option D
 |.int i,.int j=>Z<|g i j
 |_,_=>C
def Bi (V':Int->Int->Prop)[∀i j,Decidable<|V' i j](g:Int->Int->D):D->D->Option D
 |.int i,.int j=>if V' i j then Z (g i j)else C
 |_,_=>C
theorem J5 {g:Int->Int->D}(hg:∀i j F,Dt K M F (g i j)<|gv i j):qR K M n m k (yD gv) (i2 g):=by
 intro F H x y d1 d2 d Q s l1 l2 e w;cases d1 with
 |int i=>
  cases d2 with
  |int j=>cases e;exact⟨i,j,l1.int,l2.int,w _ F H (.refl s)<|Al.of<|hg i j F⟩
  |_=>cases e
 |_=>cases e
theorem JU {V' C':Int->Int->Prop}[∀i j,Decidable<|V' i j]{g:Int->Int->D}(hC:∀i j,V' i j->C' i j)(hg:∀i j F,Dt K M F (g i j)<|gv i j):qR K M n m k (rI C' gv) (Bi V' g):=by
 intro F H x y d1 d2 d Q s l1 l2 e w;cases d1 with
 |int i=>
  cases d2 with
  |int j=>
   unfold Bi at e;dsimp only at e;by_cases h:V' i j
   ·rw[if_pos h]at e;cases e;exact⟨i,j,l1.int,l2.int,hC i j h,w _ F H (.refl s)<|Al.of<|hg i j F⟩
   ·rw[if_neg h]at e;cases e
  |_=>cases e
 |_=>cases e
noncomputable def Kb:Nat:=2 ^ 9000
noncomputable def Gi:Nat:=2 ^ 100000
def uU:D->D->Option D:=i2 λi j=>.int<|i-j
theorem zr5:qR K M n m k (yD λi j=>.int<|i-j) uU:=J5 λ_ _ _=>.int _
def rL (i j:Int):Prop:=(-18446744073709551616<i/\i<18446744073709551616)\/(-18446744073709551616<j/\j<18446744073709551616)\/(i.natAbs<Gi/\j.natAbs<Gi)
instance (i j:Int):Decidable (rL i j):=by unfold rL;infer_instance
def e7:D->D->Option D:=Bi rL λi j=>.int<|i*j
theorem rL.ok {i j:Int}(h:rL i j):vC i j:=by
 rcases h with h|h|h
 ·exact .inl (.inl ⟨by have:=h.1;lia,by have:=h.2;lia⟩)
 ·exact .inl (.inr ⟨by have:=h.1;lia,by have:=h.2;lia⟩)
 ·exact .inr h
theorem zr6:qR K M n m k (rI vC λi j=>.int<|i*j) e7:=JU (λ_ _=>rL.ok) λ_ _ _=>.int _
def D.v:D->V
 |.bl b=>.bl b
 |.int i=>.int i
 |.str x=>.str x
 |_=>.non
theorem Dt.v {v:V}(h:Dt K M F d v)(hs:d.sc=Â):v=d.v:=by cases h<;>first|rfl|cases hs
theorem Al.v {v:V}(h:Al K M F W' n d v)(hs:d.sc=Â):v=d.v:=Dt.v (Al.scal (F':=F) h hs) hs
theorem D.flat (hs:d.sc=Â):ox d.v=Â:=by cases d<;>first|rfl|cases hs
theorem Pr.vs {F W':Hp}:∀{O:List D} {vs:List V},Pr (Al K M F W' n) O vs->O.all D.sc=Â->vs=O.map D.v
 |_,_,.nil,_=>rfl
 |d::O,v::vs,.cons h t,e=>by rw[f9,c9]at e;rw[cI,Al.v h e.1,Pr.vs t e.2]
def jC:D->D->Option D
 |.int i,.int j=>if 0<j/\j<4611686018427387904 then Z (.int<|i/j)else if j≠0/\j.natAbs<Kb then Z (.int<|i.fdiv j)else C
 |_,_=>C
theorem Ze:qR K M n m k (rI (λ_ j=>j≠0/\Sz 9000 j) λi j=>.int<|i.fdiv j) jC:=by
 intro F H x y d1 d2 d Q s l1 l2 e w;cases d1 with
 |int i=>
  cases d2 with
  |int j=>
   unfold jC at e;dsimp only at e;by_cases h:0<j/\j<4611686018427387904
   ·rw[if_pos h]at e;cases e;refine⟨i,j,l1.int,l2.int,⟨by lia,?_⟩,?_⟩
    ·have:Sz 62 j:=by unfold Sz;lia
     exact this.mono (by decide)
    ·show Q (.int<|i.fdiv j) H;rw[ny i<|by lia];exact w _ F H (.refl s)<|Al.of<|.int _
   ·rw[if_neg h]at e;by_cases h:j≠0/\j.natAbs<Kb
    ·rw[if_pos h]at e;cases e;exact⟨i,j,l1.int,l2.int,h,w _ F H (.refl s)<|Al.of<|.int _⟩
    ·rw[if_neg h]at e;cases e
  |_=>cases e
 |_=>cases e
def iY:D->D->Option D
 |.int i,.int j=>if 0<j then Z (.int<|i%j)else if j≠0 then Z (.int<|i.fmod j)else C
 |_,_=>C
theorem zr7:qR K M n m k (rI (λ_ j=>j≠0) λi j=>.int<|i.fmod j) iY:=by
 intro F H x y d1 d2 d Q s l1 l2 e w;cases d1 with
 |int i=>
  cases d2 with
  |int j=>
   unfold iY at e;dsimp only at e;by_cases h:0<j
   ·rw[if_pos h]at e;cases e;refine⟨i,j,l1.int,l2.int,by lia,?_⟩;show Q (.int<|i.fmod j) H;rw[uW i<|by lia];exact w _ F H (.refl s)<|Al.of<|.int _
   ·rw[if_neg h]at e;by_cases h:j≠0
    ·rw[if_pos h]at e;cases e;exact⟨i,j,l1.int,l2.int,h,w _ F H (.refl s)<|Al.of<|.int _⟩
    ·rw[if_neg h]at e;cases e
  |_=>cases e
 |_=>cases e
def vK (i j:Int):Prop:=0<=j/\j<=1000000/\i.natAbs<18446744073709551616
instance (i j:Int):Decidable (vK i j):=by unfold vK;infer_instance
def BZ:D->D->Option D:=Bi vK λi j=>.int<|i ^ j.toNat
theorem zr8:qR K M n m k (rI CO λi j=>.int<|i ^ j.toNat) BZ:=JU (λ_ _ h=>⟨h.1,h.2.1,by have:=h.2.2;lia⟩) λ_ _ _=>.int _
def Dp:D->D->Option D:=Bi vK λi j=>.int<|i*2 ^ j.toNat
theorem zr9:qR K M n m k (rI CO λi j=>.int<|i*2 ^ j.toNat) Dp:=JU (λ_ _ h=>⟨h.1,h.2.1,by have:=h.2.2;lia⟩) λ_ _ _=>.int _
def AL:D->D->Option D:=Bi (λ_ j=>0<=j) λi j=>.int<|i/2 ^ j.toNat
theorem Re:qR K M n m k (rI (λ_ j=>0<=j) λi j=>.int<|i/2 ^ j.toNat) AL:=JU (λ_ _ h=>h) λ_ _ _=>.int _
def tX:D->D->Option D:=i2 λi j=>.bl<|decide<|i<j
def Be:D->D->Option D:=i2 λi j=>.bl<|decide<|j<i
def GF:D->D->Option D:=i2 λi j=>.bl<|decide<|j<=i
theorem M9:qR K M n m k (yD λi j=>.bl<|decide<|i<j) tX:=J5 λ_ _ _=>.bl _
theorem Ų:qR K M n m k (yD λi j=>.bl<|decide<|j<i) Be:=J5 λ_ _ _=>.bl _
theorem ű:qR K M n m k (yD λi j=>.bl<|decide<|j<=i) GF:=J5 λ_ _ _=>.bl _
def E9:R2:=λx y H Q=>∃i j,x=.str i/\y=.str j/\Q (.bl<|!(decide<|j.cps.toList<i.cps.toList)) H
theorem Ű:k9 X (d6 .LtE) E9:=by intro ce s U H x y v u Q I rx ry h;obtain⟨i,j,rfl,rfl,q⟩:=h;obtain⟨t,rfl⟩:=rx;obtain⟨t',rfl⟩:=ry;exact PySem.P.le_str ⟨.bl _,H,I,rfl,q⟩
def Ad:D->D->Option D
 |.int i,.int j=>Z<|.bl<|decide<|i<=j
 |.str i,.str j=>Z<|.bl<|!(decide<|j.cps.toList<i.cps.toList)
 |_,_=>C
theorem Rf:qR K M n m k (λx y H Q=>yD (λi j=>.bl<|decide<|i<=j) x y H Q\/E9 x y H Q) Ad:=by
 intro F H x y d1 d2 d Q s l1 l2 e w;cases d1 with
 |int i=>
  cases d2 with
  |int j=>cases e;exact .inl ⟨i,j,l1.int,l2.int,w _ F H (.refl s)<|Al.of<|.bl _⟩
  |_=>cases e
 |str i=>
  cases d2 with
  |str j=>cases e;exact .inr ⟨i,j,l1.str,l2.str,w _ F H (.refl s)<|Al.of<|.bl _⟩
  |_=>cases e
 |_=>cases e
theorem Ss:k9 X (d6 .LtE) (λx y H Q=>yD (λi j=>.bl<|decide<|i<=j) x y H Q\/E9 x y H Q):=k9.or ĳ Ű
def D.isN:D->Bool
 |.non=>Â
 |_=>Ã
def D.isB (b:Bool):D->Bool
 |.bl c=>c==b
 |_=>Ã
def pN (neg:Bool):D->D->Option D
 |d,.non=>Z<|.bl<|if neg then !d.isN else d.isN
 |d,.bl b=>Z<|.bl<|if neg then !d.isB b else d.isB b
 |_,_=>C
theorem Al.ref {v:V}(h:Al K M F W' n d v)(hs:d.sc=Ã):∃a,v=.ref a:=by
 cases n with
 |zero=>cases(show Dt K M F d v from h)<;>first|cases hs;done|exact⟨_,rfl⟩
 |succ n=>rcases h with h|h<;>cases h<;>first|cases hs;done|exact⟨_,rfl⟩
theorem Al.isn {v:V}(h:Al K M F W' n d v):decide (v=.non)=d.isN:=by
 cases hs:d.sc with
 |true=>have:=Al.v h hs;subst this;cases d<;>first|rfl|cases hs
 |false=>obtain⟨a,rfl⟩:=h.ref hs;cases d<;>first|rfl|cases hs
theorem Al.isb {v:V}{b:Bool}(h:Al K M F W' n d v):decide (v=.bl b)=d.isB b:=by
 cases hs:d.sc with
 |true=>have:=Al.v h hs;subst this;cases d<;>first|rfl|(cases hs;done)|(rename_i c;cases b<;>cases c<;>rfl)
 |false=>obtain⟨a,rfl⟩:=h.ref hs;cases d<;>first|rfl|cases hs
def OI:R2:=λx y H Q=>(y=.non/\Q (.bl<|decide<|x=.non) H)\/∃b,y=.bl b/\Q (.bl<|decide<|x=.bl b) H
def B4:R2:=λx y H Q=>(y=.non/\Q (.bl<|!decide (x=.non)) H)\/∃b,y=.bl b/\Q (.bl<|!decide (x=.bl b)) H
theorem Ĩ:k9 X (d6 .Is) OI:=k9.or Ζ ϓ
theorem Zf:k9 X (d6 .IsNot) B4:=k9.or zrb Yi
theorem ů:qR K M n m k OI (pN Ã):=by
 intro F H x y d1 d2 d Q s l1 l2 e w;cases d2 with
 |non=>cases e;refine .inl ⟨l2.non,?_⟩;rw[l1.isn];exact w _ F H (.refl s)<|Al.of<|.bl _
 |bl b=>cases e;refine .inr ⟨b,l2.bl,?_⟩;rw[l1.isb];exact w _ F H (.refl s)<|Al.of<|.bl _
 |_=>cases e
theorem X7:qR K M n m k B4 (pN Â):=by
 intro F H x y d1 d2 d Q s l1 l2 e w;cases d2 with
 |non=>cases e;refine .inl ⟨l2.non,?_⟩;rw[l1.isn];exact w _ F H (.refl s)<|Al.of<|.bl _
 |bl b=>cases e;refine .inr ⟨b,l2.bl,?_⟩;rw[l1.isb];exact w _ F H (.refl s)<|Al.of<|.bl _
 |_=>cases e
mutual
def D.py:D->Option df
 |.non=>Z .none
 |.bl b=>Z<|.bool b
 |.int i=>Z<|.int i
 |.str x=>Z<|.str x
 |.lst xs=>(D.pys xs).bind λys=>Z<|.list ys
 |.tup xs=>(D.pys xs).bind λys=>Z<|.tuple ys
 |_=>C
def D.pys:List D->Option (List df)
 |[]=>Z []
 |d::O=>(D.py d).bind λx=>(D.pys O).bind λxs=>Z (x::xs)
end
theorem Dt.toPy (s:dQ F H){v:V}{e:df}(h:Dt K M F d v)(q:d.py=Z e):L2.Dt K H v e:=by
 refine Dt.rec (motive_1:=λd v _=>∀e,d.py=Z e->L2.Dt K H v e) (motive_2:=λO vs _=>∀es,D.pys O=Z es->L2.ä K H vs es) ?_ ?_ ?_ ?_ ?_ ?_ ?_ ?_ ?_ ?_ ?_ ?_ ?_ ?_ h e q
 ·intro e h;rw[D.py]at h;cases h;exact .non
 ·intro b e h;rw[D.py]at h;cases h;exact .bl b
 ·intro b e h;rw[D.py]at h;cases h;exact .int b
 ·intro b e h;rw[D.py]at h;cases h;exact .str b
 ·intro _ _ _ q _ t e h;rw[D.py]at h;obtain⟨ys,h1,h2⟩:=cL h;cases h2;exact .lst (s.seq q)<|t _ h1
 ·intro _ _ _ q _ t e h;rw[D.py]at h;obtain⟨ys,h1,h2⟩:=cL h;cases h2;exact .tup (p9.of<|s _ _ q)<|t _ h1
 ·intro _ _ _ _ _ _ _ _ e h;simp only[D.py]at h;cases h
 ·intro _ _ _ _ _ _ _ _ e h;simp only[D.py]at h;cases h
 ·intro _ _ _ _ _ _ _ _ _ _ e h;simp only[D.py]at h;cases h
 ·intro _ _ _ _ e h;simp only[D.py]at h;cases h
 ·intro _ _ _ _ _ _ _ _ _ _ _ _ e h;simp only[D.py]at h;cases h
 ·intro _ _ _ _ _ _ e h;simp only[D.py]at h;cases h
 ·intro e h;rw[D.pys]at h;cases h;exact .nil
 ·intro _ _ _ _ _ _ p t e h;rw[D.pys]at h;obtain⟨y,ys,h1,h2,h3⟩:=fD h;cases h3;exact .cons (p _ h1)<|t _ h2
theorem Pr.toPy (f:∀d v e,R d v->d.py=Z e->L2.Dt K H v e){vs:List V}{es:List df}(h:Pr R O vs)(e:D.pys O=Z es):L2.ä K H vs es:=by
 induction h generalizing es with
 |nil=>rw[D.pys]at e;cases e;exact .nil
 |cons h t ih=>rw[D.pys]at e;obtain⟨y,ys,h1,h2,h3⟩:=fD e;cases h3;exact .cons (f _ _ _ h h1)<|ih h2
theorem Al.toPy (s:dQ F H){v:V}{e:df}(h:Al K M F H n d v)(q:d.py=Z e):L2.Dt K H v e:=by
 induction n generalizing d v e with
 |zero=>exact Dt.toPy s h q
 |succ n ih=>
  cases h with
  |inl h=>exact Dt.toPy s h q
  |inr h=>
   cases h with
   |lst h t=>rw[D.py]at q;obtain⟨ys,h1,h2⟩:=cL q;cases h2;exact .lst (jJ.of h)<|Pr.toPy (λ_ _ _=>ih) t h1
   |tup h t=>rw[D.py]at q;obtain⟨ys,h1,h2⟩:=cL q;cases h2;exact .tup (p9.of<|s _ _ h)<|Pr.toPy (λ_ _ _=>ih) t h1
   |_=>simp only[D.py]at q;cases q
noncomputable def pP (a:df):Bool:=a.canLay0&&decide (a.depth<=60)
def gb (neg:Bool)(x y:D):Option D:=x.py.bind λa=>y.py.bind λb=>if pP a=Â/\pP b=Â then Z (.bl<|if neg then !df.eqv a b else df.eqv a b)else C
theorem Ft:qR K M n m k (E7 K neg) (gb neg):=by
 intro F H x y d1 d2 d Q s l1 l2 e w;obtain⟨a,b,h1,h2,h3⟩:=fD e;by_cases h:pP a=Â/\pP b=Â
 ·rw[if_pos h]at h3;cases h3;have o1:=h.1;have o2:=h.2;unfold pP at o1 o2;rw[c9,decide_eq_true_iff]at o1 o2;exact⟨a,b,Al.toPy s l1 h1,Al.toPy s l2 h2,o1.1,o2.1,eD (Nat.min_le_left _ _) o1.2,w _ F H (.refl s)<|Al.of<|.bl _⟩
 ·rw[if_neg h]at h3;cases h3
variable {κ:Type}
theorem Pr.atI {vs:List V}{i:Int}(h:Pr R O vs)(e:atI O i=Z d):∃v,atI vs i=Z v/\R d v:=by unfold L2.atI at e ⊢;rw[←h.length];obtain⟨j,h1,h2⟩:=cL e;obtain⟨v,h3,h4⟩:=h.get' h2;exact⟨v,by rw[h1];exact h3,h4⟩
def C9:D->Option jU
 |.int i=>Z<|.inl i
 |.str x=>Z<|.inr x
 |_=>C
def xA:List D->Option (List jU)
 |[]=>Z []
 |d::O=>(C9 d).bind λk=>(xA O).bind λks=>Z (k::ks)
noncomputable def oy [DecidableEq κ](ks:List κ)(O:List D)(k:κ):Option D:=((ks.zip O).find? λp=>decide<|p.1=k).map (·.2)
def RO (R:D->V->Prop):Option D->Option V->Prop
 |some d,Z u=>R d u
 |none,C=>True
 |_,_=>False
theorem RO.some_of {q:Option V}(h:RO R (Z d) q):∃u,q=Z u/\R d u:=by
 cases q with
 |none=>exact h.elim
 |some u=>exact⟨u,rfl,h⟩
theorem RO.none_of {q:Option V}(h:RO R C q):q=C:=by
 cases q with
 |none=>rfl
 |some u=>exact h.elim
theorem Mw {κ:Type}[DecidableEq κ]{R:D->V->Prop}{k:κ}:∀{ks:List κ} {O:List D} {vs:List V},Pr R O vs->RO R (oy ks O k) (oY (ks.zip vs) k)
 |[],_,_,_=>by simp[oy,oY,RO]
 |_::_,_,_,.nil=>by simp[oy,oY,RO]
 |y::ks,d::O,v::vs,.cons h t=>by
  by_cases e:y=k
  ·have h1:oy (y::ks) (d::O) k=Z d:=by simp[oy,eX,e]
   have h2:oY ((y::ks).zip (v::vs)) k=Z v:=by simp[oY,eX,e]
   rw[h1,h2];exact h
  ·have h1:oy (y::ks) (d::O) k=oy ks O k:=by simp[oy,eX,e]
   have h2:oY ((y::ks).zip (v::vs)) k=oY (ks.zip vs) k:=by simp[oY,eX,e]
   rw[h1,h2];exact Mw t
theorem JV {v:V}{k:jU}(e:C9 d=Z k)(h:Al K M F W' n d v):v=kV k:=by
 cases d with
 |int i=>cases e;exact h.int
 |str i=>cases e;exact h.str
 |_=>cases e
theorem MS {vs:List V}(e:xA O=Z ks)(h:Pr (Al K M F W' n) O vs):vs=ks.map kV:=by
 induction h generalizing ks with
 |nil=>cases e;rfl
 |cons h t ih=>unfold xA at e;obtain⟨k,ks,h1,h2,h3⟩:=fD e;cases h3;rw[JV h1 h,ih h2];rfl
def nD (o y:D):Option (Option D):=match o with
 |.dK ks O=>(C9 y).bind λk=>Z<|oy ks O k
 |.dT ks O=>(match y with|.tup ys=>(xA ys).bind λk=>Z (oy ks O k)|_=>C)
 |_=>C
theorem MT {o y:D}{x v:V}(s:dQ F W')(l1:Al K M F W' n o x)(l2:Al K M F W' m y v){r:Option D}(e:nD o y=Z r) :
  ∃a q,x=.ref a/\tP W' a v q/\Tp W' a/\RO (Al K M F W'<|n-1) r q:=by
 cases o with
 |dK ks O=>obtain⟨a,vs,rfl,ha,hl,hp⟩:=l1.dK s;obtain⟨k,h1,h2⟩:=cL e;cases h2;have hv:=JV h1 l2;subst hv;exact⟨a,_,rfl,tP.k ha,.inl ⟨_,.inl ha⟩,Mw hp⟩
 |dT ks O=>
  obtain⟨a,vs,rfl,ha,hl,hp⟩:=l1.dT s;cases y with
  |tup ys=>obtain⟨k,h1,h2⟩:=cL e;cases h2;obtain⟨b,us,rfl,hb,G5⟩:=l2.tup s;have hv:=MS h1 G5;subst hv;exact⟨a,_,rfl,.inr ⟨_,_,_,ha,rfl,hb,rfl⟩,.inr ⟨_,ha⟩,Mw hp⟩
  |_=>cases e
 |_=>cases e
def dM:D->D->Option D
 |.lst O,.int i=>atI O i
 |.tup O,.int i=>atI O i
 |.kt O,.int i=>atI O i
 |.str x,.int i=>if x.length<=16777216 then(atI x.cps.toList i).bind λc=>Z (.str ⟨#[c]⟩)else C
 |_,_=>C
theorem Su:qR K M n m (n-1) (OJ K) dM:=by
 intro F H x y d1 d2 d Q s l1 l2 e w;cases d1 with
 |lst O=>
  cases d2 with
  |int i=>obtain⟨a,vs,rfl,ha,hp⟩:=l1.lst s;obtain⟨v,h1,h2⟩:=hp.atI e;exact .inl ⟨a,vs,i,v,rfl,l2.int,ha,h1,w v F H (.refl s) h2⟩
  |_=>cases e
 |tup O=>
  cases d2 with
  |int i=>obtain⟨a,vs,rfl,ha,hp⟩:=l1.tup s;obtain⟨v,h1,h2⟩:=hp.atI e;exact .inr<|.inl ⟨a,vs,i,v,rfl,l2.int,p9.of ha,h1,w v F H (.refl s) h2⟩
  |_=>cases e
 |kt O=>
  cases d2 with
  |int i=>obtain⟨a,vs,rfl,ha,hp⟩:=l1.kt;obtain⟨v,h1,h2⟩:=hp.atI e;exact .inr<|.inl ⟨a,vs,i,v,rfl,l2.int,.inr ha,h1,w v F H (.refl s)<|Al.of h2⟩
  |_=>cases e
 |str z=>
  cases d2 with
  |int i=>
   unfold dM at e;dsimp only at e;by_cases h:z.length<=16777216
   ·rw[if_pos h]at e;obtain⟨c,h1,h2⟩:=cL e;cases h2;exact .inr (.inr ⟨z,i,c,l1.str,l2.int,by rw[eJ];exact h,h1,w _ F H (.refl s)<|Al.of<|.str _⟩)
   ·rw[if_neg h]at e;cases e
  |_=>cases e
 |_=>cases e
theorem Na (hu:X.A.units+1<lW)(ha:XE X M G n a f)(hb:XE X M G m b g)(hs:yN b):XE X M G (n-1) (.Subscript a b pos) (λY=>(f Y).bind λx=>(g Y).bind λy=>(nD x y).join):=by obtain⟨ta,tb,pa,pb,q⟩:=ha.bin hb;refine⟨_,zrn hu pa pb hs,λF0 B F H Y U d Q rs e w=>?_⟩;obtain⟨d1,d2,h1,h2,h3⟩:=fD e;refine q F0 B F H Y U d1 d2 _ rs h1 h2 λx y F' H' x1 l1 l2=>?_;obtain⟨a,o,rfl,g,_,h⟩:=MT (r:=some d) x1.fh l1 l2<|zo h3;obtain⟨u,rfl,Ha⟩:=h.some_of;exact⟨a,u,rfl,g,w u F' H' x1 Ha⟩
def Cy:D->D->Bool
 |.non,.non=>Â
 |.bl a,.bl b=>a==b
 |.bl a,.int b=>(if a then 1 else 0)==b
 |.int a,.bl b=>a==(if b then 1 else 0)
 |.int a,.int b=>a==b
 |.str a,.str b=>a==b
 |_,_=>Ã
theorem S5 {x y:D}(hx:x.sc=Â)(hy:y.sc=Â):AG x.v y.v=Cy x y:=by cases x<;>first|cases hx;done|(cases y<;>first|cases hy;done|rfl)
def Ac (x:D)(O:List D):Bool:=O.any λy=>Cy y x
theorem J8 {x:D}(hx:x.sc=Â):∀{O:List D},O.all D.sc=Â->Jm x.v (O.map D.v)=Ac x O
 |[],_=>rfl
 |d::O,h=>by rw[f9,c9]at h;have ih:=J8 hx h.2;unfold Jm Ac at ih ⊢;rw[cI,ga,ga,ih,S5 h.1 hx]
theorem jp:∀{O:List D},O.all D.sc=Â->(O.map D.v).all ox=Â
 |[],_=>rfl
 |d::O,h=>by rw[f9,c9]at h;rw[cI,f9,D.flat h.1,jp h.2];rfl
def é (neg:Bool)(x y:D):Option D:=match y with
 |.lst O=>if x.sc=Â/\O.all D.sc=Â then Z (.bl<|if neg then !Ac x O else Ac x O)else C
 |.tup O=>if x.sc=Â/\O.all D.sc=Â then Z (.bl<|if neg then !Ac x O else Ac x O)else C
 |.kt O=>if x.sc=Â/\O.all D.sc=Â then Z (.bl<|if neg then !Ac x O else Ac x O)else C
 |_=>C
theorem v9:qR K M n m k (LH K neg) (é neg):=by
 intro F H x y d1 d2 d Q s l1 l2 e w;cases d2 with
 |lst O=>
  unfold é at e;dsimp only at e;by_cases h:d1.sc=Â/\O.all D.sc=Â
  ·rw[if_pos h]at e;cases e;obtain⟨a,vs,rfl,ha,hp⟩:=l2.lst s;have hv:=hp.vs h.2;subst hv;have hx:=Al.v l1 h.1;subst hx;refine⟨a,_,rfl,.inl ha,D.flat h.1,jp h.2,?_⟩;rw[J8 h.1 h.2];exact w _ F H (.refl s)<|Al.of<|.bl _
  ·rw[if_neg h]at e;cases e
 |tup O=>
  unfold é at e;dsimp only at e;by_cases h:d1.sc=Â/\O.all D.sc=Â
  ·rw[if_pos h]at e;cases e;obtain⟨a,vs,rfl,ha,hp⟩:=l2.tup s;have hv:=hp.vs h.2;subst hv;have hx:=Al.v l1 h.1;subst hx;refine⟨a,_,rfl,.inr<|p9.of ha,D.flat h.1,jp h.2,?_⟩;rw[J8 h.1 h.2];exact w _ F H (.refl s)<|Al.of<|.bl _
  ·rw[if_neg h]at e;cases e
 |kt O=>
  unfold é at e;dsimp only at e;by_cases h:d1.sc=Â/\O.all D.sc=Â
  ·rw[if_pos h]at e;cases e;obtain⟨a,vs,rfl,ha,hp⟩:=l2.kt;have hv:=Pr.vs (n:=0) (F:=F) (W':=H) (hp.mono λ_ _ q=>q) h.2;subst hv;have hx:=Al.v l1 h.1;subst hx;refine⟨a,_,rfl,.inr<|.inr ha,D.flat h.1,jp h.2,?_⟩;rw[J8 h.1 h.2];exact w _ F H (.refl s)<|Al.of<|.bl _
  ·rw[if_neg h]at e;cases e
 |_=>cases e
def fC:List D->Option D
 |[.lst O]=>Z<|.int O.length
 |[.tup O]=>Z<|.int O.length
 |[.kt O]=>Z<|.int O.length
 |[.dK ks _]=>Z<|.int ks.length
 |[.str x]=>if x.length<=16777216 then Z (.int x.length)else C
 |_=>C
def HI (K:b9):List V->Hp->VK->Prop:=λxs H Q=>(∃p ys,xs=[.ref p]/\(jJ K H p ys\/p9 K H p ys)/\Q (.int ys.length) H)\/(∃z,xs=[.str z]/\z.length<=sizeLine/\Q (.int z.length) H)\/∃a eW,xs=[V.ref a]/\H a=Z (.dK eW)/\Q (.int eW.length) H
theorem X8:iL X (.builtin "len") (HI X.K):=WE.or<|WF.or Yh
theorem zsa:Bs K M [n] k (HI K) fC:=by
 intro F H vs O d Q s l e w;cases l with
 |cons h t=>
  cases t;rename_i d1 v;cases d1 with
  |lst xs=>cases e;obtain⟨a,us,rfl,ha,hp⟩:=h.lst s;refine .inl ⟨a,us,rfl,.inl ha,?_⟩;rw[←hp.length];exact w _ F H (.refl s)<|Al.of<|.int _
  |tup xs=>cases e;obtain⟨a,us,rfl,ha,hp⟩:=h.tup s;refine .inl ⟨a,us,rfl,.inr<|p9.of ha,?_⟩;rw[←hp.length];exact w _ F H (.refl s)<|Al.of<|.int _
  |kt xs=>cases e;obtain⟨a,us,rfl,ha,hp⟩:=h.kt;refine .inl ⟨a,us,rfl,.inr<|.inr ha,?_⟩;rw[←hp.length];exact w _ F H (.refl s)<|Al.of<|.int _
  |str x=>
   unfold fC at e;dsimp only at e;by_cases hz:x.length<=16777216
   ·rw[if_pos hz]at e;cases e;exact .inr (.inl ⟨x,by rw[h.str],by rw[eJ];exact hz,w _ F H (.refl s)<|Al.of<|.int _⟩)
   ·rw[if_neg hz]at e;cases e
  |dK ks xs=>cases e;obtain⟨a,us,rfl,ha,hl,hp⟩:=h.dK s;refine .inr<|.inr ⟨a,_,rfl,ha,?_⟩;rw[gz,←hl,jW];exact w _ F H (.refl s)<|Al.of<|.int _
  |_=>cases e
variable {ι:Type}{cap:List Nat}{rh:Expr}{ifs:List Expr}{om:List Mo}{own:Nat}{scope:rR}
theorem ħ {Xs:ι->Cx}(hK:∀i,(Xs i).K=K)(h:∀i,XO (Xs i) M G n e f):∃t,(∀i,PE (Xs i) e t)/\∀(F0 B F H:Hp) (Y:Env) (U:St) (d:D) (Q:VK),RS K M F0 B G F H Y U->f Y=Z d ->
  (∀v F' H' fp,kL F H F' H'->Ow K M F' H' n d v fp->fp.Nodup->(∀a∈fp,H a=C)->Q v H')->t U H Q:=by
 refine⟨λU H Q=>∀i,(h i).choose U H Q,λi ce s U H Q I q=>(h i).choose_spec.1 ce s U H Q I<|q i,λF0 B F H Y U d Q rs e w i=>?_⟩;exact(h i).choose_spec.2 F0 B F H Y U d Q (by rw[hK i];exact rs) e λv F' H' fp x l=>w v F' H' fp x (by rw[←hK i];exact l)
def DV (X:Cx)(M:Nat->cn)(G:List Mo)(ifs:List Expr)(f:BF):Prop:=∃t,DS X ifs t/\∀(F0 B F H:Hp) (Y:Env) (U:St) (b:Bool) (Q:Bool->Hp->Prop),RS X.K M F0 B G F H Y U->f Y=Z b->(∀F' H',kL F H F' H'->Q b H')->t U H Q
def g0:BF:=λ_=>Z Â
theorem yf:DV X M G [] g0:=⟨_,zrq,λF0 B F H Y U b Q rs e w=>by cases e;exact w F H<|.refl rs.fh⟩
theorem jc (h:XT X M G c p):DV X M G [c] p:=by obtain⟨t,pt,qt⟩:=h;exact⟨t,zrr pt,qt⟩
theorem Ħ {Xs:ι->Cx}{f:BF}(hK:∀i,(Xs i).K=K)(h:∀i,DV (Xs i) M G ifs f):∃t,(∀i,DS (Xs i) ifs t)/\∀(F0 B F H:Hp) (Y:Env) (U:St) (b:Bool) (Q:Bool->Hp->Prop),RS K M F0 B G F H Y U->f Y=Z b ->
  (∀F' H',kL F H F' H'->Q b H')->t U H Q:=by
 refine⟨λU H Q=>∀i,(h i).choose U H Q,λi ce s U H Q I q=>(h i).choose_spec.1 ce s U H Q I<|q i,λF0 B F H Y U d Q rs e w i=>?_⟩;exact(h i).choose_spec.2 F0 B F H Y U d Q (by rw[hK i];exact rs) e w
def D7 (g:α->St->Hp->(St->Hp->Prop)->Prop):Prop:=∀v U H Q Q',(∀σ' H',Q σ' H'->Q' σ' H')->g v U H Q->g v U H Q'
def Ct (X:Cx)(M:Nat->cn)(G:List Mo)(own n:Nat)(tg:Expr)(g:D->Env->Option Env):Prop:=∃t,PG X tg t/\lC own t/\D7 t/\∀(F0 B F H:Hp) (Y ρ':Env) (U:St) (d:D) (v:V) (Q:St->Hp->Prop),RS X.K M F0 B G F H Y U->Al X.K M F B n d v->g d Y=Z ρ' ->
 (∀σ',RS X.K M F0 B G F H ρ' σ'->Q σ' H)->t v U H Q
theorem ĥ {Xs:ι->Cx}{g:D->Env->Option Env}(hK:∀i,(Xs i).K=K)(h:∀i,Ct (Xs i) M G own n tg g):∃t,(∀i,PG (Xs i) tg t)/\lC own t/\∀(F0 B F H:Hp) (Y ρ':Env) (U:St) (d:D) (v:V) (Q:St->Hp->Prop),RS K M F0 B G F H Y U->Al K M F B n d v->g d Y=Z ρ' ->
  (∀σ',RS K M F0 B G F H ρ' σ'->Q σ' H)->t v U H Q:=by
 refine⟨λv U H Q=>∀i,(h i).choose v U H Q,λi ce s U H v u Q I r q=>(h i).choose_spec.1 ce s U H v u Q I r<|q i,λv U H Q q i=>(h i).choose_spec.2.1 v U H Q<|q i,λF0 B F H Y ρ' U d v Q rs l e w i=>?_⟩;exact(h i).choose_spec.2.2.2 F0 B F H Y ρ' U d v Q (by rw[hK i];exact rs) (by rw[hK i];exact l) e λσ' r=>w σ' (by rw[←hK i];exact r)
theorem Zg (ho:i<own)(hm:G[i]?=Z (.ow 0))(hN:X.N.Nodup)(hi:X.N[i]?=Z x)(hx:ï X.env.scope x)
  (hf:wW X x:=by walk_at "v2"):Ct X M G own 0 (.Name x pos) (gV i):=by
 refine⟨_,Ra hN hi hx hf,Xq i own ho,λv U H Q Q' m q=>m _ _ q,λF0 B F H Y ρ' U d v Q rs l e w=>?_⟩;cases e;exact w _ (rs.set hm (.refl rs.fh) (Ow.zero l) dC λa z=>(by cases z))
def EZ (own:Nat)(g:Cr):Prop:=∀v U H Q,g v U H Q->g v U H λσ' H'=>Q σ' H'/\σ'.length = U.length/\∀i,own<=i->σ'[i]? = U[i]?
def CQ (X:Cx)(M:Nat->cn)(G:List Mo)(own n:Nat)(qN:List Expr)(g:List D->Env->Option Env):Prop:=∃t,Ez X qN t/\EZ own t/\D7 t/\(∀O Y ρ',g O Y=Z ρ'->O.length=qN.length)/\∀(F0 B F H:Hp) (Y ρ':Env) (U:St) (O:List D) (vs:List V) (Q:St->Hp->Prop),RS X.K M F0 B G F H Y U->Pr (Al X.K M F B n) O vs->g O Y=Z ρ' ->
 (∀σ',RS X.K M F0 B G F H ρ' σ'->Q σ' H)->t vs U H Q
theorem ut:CQ X M G own n [] Ð:=by
 refine⟨_,Rb,λv U H Q q=>⟨q.1,q.2,rfl,λ_ _=>rfl⟩,λv U H Q Q' m q=>⟨q.1,m _ _ q.2⟩,λO Y ρ' e=>?_,λF0 B F H Y ρ' U O vs Q rs l e w=>?_⟩
 ·cases O with
  |nil=>rfl
  |cons d O=>cases e
 ·cases l with
  |nil=>cases e;exact⟨rfl,w U rs⟩
  |cons _ _=>cases e
theorem yq (h1:Ct X M G own n tg gg)(h2:CQ X M G own n qN gs)
  (hs:(eE (tg::qN) X.env).map (·.2)=mG tg X.env::(eE qN X.env).map (·.2):=by rfl):CQ X M G own n (tg::qN) (Ç gg gs):=by
 obtain⟨t,pt,kt,mt,qt⟩:=h1;obtain⟨t2,qC,U7,OA,FW,sW⟩:=h2;refine⟨_,Qz pt qC hs,λvs U H Q q=>?_,λvs U H Q Q' m q=>?_,λO Y ρ' e=>?_,λF0 B F H Y ρ' U O vs Q rs l e w=>?_⟩
 ·obtain⟨v,r,e,q⟩:=q;refine⟨v,r,e,mt _ _ _ _ _ (λσ' H' z=>?_)<|kt v U H _ q⟩;obtain⟨z1,z2,z3⟩:=z;refine OA _ _ _ _ _ (λσ2 H2 y=>?_)<|U7 r σ' H' Q z1;exact⟨y.1,y.2.1.trans z2,λi hi=>(y.2.2 i hi).trans<|z3 i hi⟩
 ·obtain⟨v,r,e,q⟩:=q;exact⟨v,r,e,mt _ _ _ _ _ (λσ' H' z=>OA _ _ _ _ _ m z) q⟩
 ·cases O with
  |nil=>cases e
  |cons d O=>obtain⟨ρ1,h3,h4⟩:=cL e;rw[cz,cz,FW _ _ _ h4]
 ·cases l with
  |nil=>cases e
  |cons h t'=>obtain⟨ρ1,h3,h4⟩:=cL e;exact⟨_,_,rfl,qt F0 B F H Y ρ1 U _ _ _ rs h h3 λσ1 r1=>sW F0 B F H ρ1 ρ' σ1 _ _ _ r1 t' h4 w⟩
theorem ql (hc:X.calm=Â)(h:CQ X M G own (n-1) qN gs)(hl:(eE qN X.env).length=qN.length:=by rfl)(n8:(eE qN X.env).findIdx? (·.1)=C:=by rfl):Ct X M G own n (.Tuple qN j pos) (gT gs):=by
 obtain⟨t,pt,kt,mt,lt,qt⟩:=h;refine⟨_,Sb (n:=qN.length) hc pt hl n8,λv U H Q q=>?_,λv U H Q Q' m q=>?_,λF0 B F H Y ρ' U d v Q rs l e w=>?_⟩
 ·obtain⟨a,xs,e,h1,h2,q⟩:=q;exact⟨a,xs,e,h1,h2,kt _ _ _ _ q⟩
 ·obtain⟨a,xs,e,h1,h2,q⟩:=q;exact⟨a,xs,e,h1,h2,mt _ _ _ _ _ m q⟩
 cases d with
 |tup O=>
  have:∃a vs,v=.ref a/\p9 X.K H a vs/\Pr (Al X.K M F B<|n-1) O vs:=by
   cases n with
   |zero=>
    have l:Dt X.K M F (.tup O) v:=l;cases l with
    |tup q t=>exact⟨_,_,rfl,p9.of<|rs.fh _ _ q,t.pr⟩
   |succ n=>
    rcases l with l|l
    ·cases l with
     |tup q t=>exact⟨_,_,rfl,p9.of<|rs.fh _ _ q,t.pr.mono λ_ _=>Al.of⟩
    ·cases l with
     |tup q t=>exact⟨_,_,rfl,p9.of<|rs.fh _ _ q,t⟩
  obtain⟨a,vs,rfl,ha,hp⟩:=this;exact⟨a,vs,rfl,ha,hp.length.symm.trans<|lt _ _ _ e,qt F0 B F H Y ρ' U O vs Q rs hp e w⟩
 |_=>cases e
def jA (Y:Env)(cap:List Nat):Env:=cap.map λi=>(Y[i]?).join
def lh (G:List Mo)(cap:List Nat):List Mo:=cap.map λi=>.al<|((G[i]?).map Mo.lv).getD 0
def vG (g:D->Env->Option Env)(p:BF)(f:EF)(ρ0:Env):List D->Option (List D)
 |[]=>Z []
 |d::O=>(g d ρ0).bind λρ1=>(p ρ1).bind λb=>if b=Â then(f ρ1).bind λy=>(vG g p f ρ0 O).bind λys=>Z (y::ys)else vG g p f ρ0 O
def fF (fi:Env->Option (List D))(own:Nat)(cap:List Nat)(g:D->Env->Option Env)(p:BF)(f:EF):EF:=λY=>(fi Y).bind λO=>if O.length<=16777216 then(vG g p f (cB own C++jA Y cap) O).bind λys=>Z (.lst ys)else C
theorem SL.caps {F B H:Hp}{G:List Mo}{Y:Env}{U:St}(rs:RS K M F0 B G F H Y U):∀{cap:List Nat},(∀i∈cap,i<G.length)->SL K M F H H (lh G cap) (jA Y cap) (mQ U cap) []
 |[],_=>.nil
 |i::cap,h=>by
  have ih:=SL.caps rs (cap:=cap) λj hj=>h j<|cj _ hj;have hi:i<G.length:=h i b7;have hm:G[i]?=Z G[i]:=by simp[hi]
  show SL K M F H H (.al (((G[i]?).map Mo.lv).getD 0)::lh G cap) ((Y[i]?).join::jA Y cap) ((U[i]?).join::mQ U cap) [];cases e:(Y[i]?).join with
  |none=>exact .no ih
  |some d=>obtain⟨v,hv,l⟩:=rs.get hm<|zo e;rw[hv,hm];exact .al l ih
theorem SL.nones {F B H:Hp}{G Lx:List Mo}{Y:Env}{U:St}{fp:List cn}(t:SL K M F B H G Y U fp):∀{om:List Mo},SL K M F B H (om++G) (cB om.length C ++ Y) (cB om.length C ++ U) fp
 |[]=>t
 |m::om=>.no<|SL.nones (Lx:=Lx) t
theorem Qt {pos:qP}{c:Prop}
  (B:qF X scope N own cap) (hc:c) (ho:om.length=own) (oz:∀i∈cap,i<G.length) (hi:ED X c M G n tg iter fi)
  (hg:∀cl V' fp s₀ H₀,Ct (pw X scope cl N V' fp s₀ H₀) M (om++lh G cap) own n tg gg) (ht:∀cl V' fp s₀ H₀,DV (pw X scope cl N V' fp s₀ H₀) M (om++lh G cap) ifs p) (he:∀cl V' fp s₀ H₀,XO (pw X scope cl N V' fp s₀ H₀) M (om++lh G cap) k rh f)
  :
  ∃wi g tt te,Gu X c tg iter wi/\lC own g/\(∀cl V' fp s₀ H₀,PG (pw X scope cl N V' fp s₀ H₀) tg g)/\(∀cl V' fp s₀ H₀,DS (pw X scope cl N V' fp s₀ H₀) ifs tt)/\(∀cl V' fp s₀ H₀,PE (pw X scope cl N V' fp s₀ H₀) rh te) /\
   ∀(F0 B F H:Hp) (Y:Env) (U:St) (d:D) (Q:VK),RS X.K M F0 B G F H Y U->fF fi own cap gg p f Y=Z d->(∀v F' H' fp,kL F H F' H'->Ow X.K M F' H' (k+1) d v fp->fp.Nodup->(∀a∈fp,H a=C)->Q v H')->Am wi own cap g tt te U H Q:=by
 obtain⟨wi,pi,qi⟩:=hi;obtain⟨OQ,pg,kg,qg⟩:=ĥ (K:=X.K) (Xs:=λz:List (Str×cn)×cn×List cn×cF×Hp=>pw X scope z.1 N z.2.1 z.2.2.1 z.2.2.2.1 z.2.2.2.2) (λ_=>rfl)<|λz=>hg z.1 z.2.1 z.2.2.1 z.2.2.2.1 z.2.2.2.2;obtain⟨tt,pt,qt⟩:=Ħ (K:=X.K) (Xs:=λz:List (Str×cn)×cn×List cn×cF×Hp=>pw X scope z.1 N z.2.1 z.2.2.1 z.2.2.2.1 z.2.2.2.2) (λ_=>rfl)<|λz=>ht z.1 z.2.1 z.2.2.1 z.2.2.2.1 z.2.2.2.2;obtain⟨te,pe,qe⟩:=ħ (K:=X.K) (Xs:=λz:List (Str×cn)×cn×List cn×cF×Hp=>pw X scope z.1 N z.2.1 z.2.2.1 z.2.2.2.1 z.2.2.2.2) (λ_=>rfl)<|λz=>he z.1 z.2.1 z.2.2.1 z.2.2.2.1 z.2.2.2.2;refine⟨wi,OQ,tt,te,pi,kg,(λcl V' fp s₀ H₀=>pg (cl,V',fp,s₀,H₀)),(λcl V' fp s₀ H₀=>pt (cl,V',fp,s₀,H₀)),(λcl V' fp s₀ H₀=>pe (cl,V',fp,s₀,H₀)),λF0 B F H Y U r Q rs e w=>?_⟩;obtain⟨O,h1,h2⟩:=cL e;by_cases hz:O.length<=16777216
 case neg=>rw[if_neg hz]at h2;cases h2
 rw[if_pos hz]at h2;obtain⟨ys,h3,h4⟩:=cL h2;cases h4;refine qi F0 B F H Y U O _ rs h1 λJ' F1 H1 x1 ok A hA=>?_;have qK:=rs.ext x1;refine⟨λi m us H2=>m=O.length-i/\i<=O.length/\us.length<=i/\H2 A=Z (.lst us)/\∃F2 yd zd fp,kL F1 H1 F2 H2/\F2 A=C/\jY (Ow X.K M F2 H2 k) yd us fp/\fp.Nodup/\(∀a∈fp,H1 a=C/\a≠A)/\vG gg p f (cB own C++jA Y cap) (O.drop i)=Z zd/\yd++zd=ys,
  ⟨O.length,rfl,fI _,cK _,zw,F1,[],ys,[],kL.newO x1.fh hA _,x1.fh.free hA,.nil,dC,λa z=>(by cases z),h3,rfl⟩,?_⟩
 rintro i m us H2 ⟨rfl,FO,Oq,IT,F2,yd,zd,fp,x2,fA,ol,nd,hf,mR,Jj⟩;refine⟨IT,?_⟩;have Vl:=qK.ext x2;obtain⟨k1,k2⟩:=ok i F2 H2 x2.ff x2.hh x2.fh;by_cases qH:i<O.length
 ·right;have hd:O[i]?=Z O[i]:=by simp[qH]
  obtain⟨go,yl⟩:=k1 _ hd;rw[gX qH]at mR;obtain⟨ρ1,h5,h6⟩:=cL mR;obtain⟨b,h7,h8⟩:=cL h6;refine⟨go,by rw[eJ];lia,λx H3 y=>?_⟩;obtain⟨F3,x3,l⟩:=yl x H3 y;have Vm:=Vl.ext x3;have sl:=SL.nones (Lx:=[]) (SL.caps Vm oz) (om:=om);rw[ho]at sl;have Vn:RS X.K M F3 H3 (om++lh G cap) F3 H3 (cB own C++jA Y cap) (cB own C++mQ U cap):=⟨.refl _,.refl _,x3.fh,λ_ _ _ _ h=>h,[],sl,dC,λa z=>(by cases z)⟩;have A3:H3 A=Z (.lst us):=x3.hh _ _ IT;have NO:F3 A=C:=x3.nf A _ IT nofun fA;refine qg F3 H3 F3 H3 _ ρ1 _ _ x _ Vn (l.mono (.refl _) (x2.trans x3).hh) h5 λσ1 r1=>?_;refine qt F3 H3 F3 H3 ρ1 σ1 b _ r1 h7 λF4 H4 x4=>?_;cases b with
  |false=>rw[if_neg cJ]at h8 ⊢;have OZ:=x3.trans x4;refine⟨O.length-(i+1),by lia,rfl,qH,by lia,x4.hh _ _ A3,F4,yd,zd,fp,x2.trans OZ,x4.nf A _ A3 nofun NO,ol.mono λ_ _ _ _ o=>o.ext OZ,nd,hf,h8,Jj⟩
  |true=>
   rw[if_pos rfl]at h8 ⊢;obtain⟨yv,h9,IS⟩:=cL h8;obtain⟨zs,Ue,Ug⟩:=cL IS;cases Ug;refine qe F3 H3 F4 H4 ρ1 σ1 yv _ (r1.ext x4) h9 λv F5 H5 f5 x5 o5 n5 K3=>?_;have Mj:=(x3.trans x4).trans x5;have O1:=x4.trans x5;have A5:H5 A=Z (.lst us):=O1.hh _ _ A3;have NQ:F5 A=C:=O1.nf A _ A3 nofun NO;have A4:H4 A=Z (.lst us):=x4.hh _ _ A3;have NT:∀a∈f5,a≠A:=λa z e=>by rw[e]at z;rw[K3 A z]at A4;cases A4
   refine⟨A5,O.length-(i+1),by lia,rfl,qH,by rw[cM,eR];lia,zw,F5,yd++[yv],zs,fp++(f5++[]),?_,NQ,?_,?_,?_,Ue,by rw[dN];exact Jj⟩
   ·have JB:=x2.trans Mj;refine⟨JB.ff,λa o h=>?_,λa o h=>?_,JB.nf⟩
    ·rw[zu<|zx h hA];exact JB.hh _ _ h
    ·rw[zu<|λz=>by rw[z]at h;rw[NQ]at h;cases h];exact JB.fh _ _ h
   ·refine(ol.mono λ_ _ f UC o=>?_).append<|.cons ?_ .nil
    ·refine(o.ext Mj).frame (.refl _) λa z=>⟨zu (hf a<|UC a z).2,((o.ext Mj).cells a z).1⟩
    ·exact o5.frame (.refl _) λa z=>⟨zu<|NT a z,(o5.cells a z).1⟩
   ·rw[dH];refine dh.mpr ⟨nd,n5,λa z c hc e=>?_⟩;subst e;have:∃o,H2 a=Z o:=let⟨o,h,_⟩:=(jY.cellsOf ol a z).2;⟨o,h⟩;obtain⟨o,ho⟩:=this;have:=x4.hh _ _<|x3.hh _ _ ho;rw[K3 a hc]at this;cases this
   ·intro a z;rw[dH]at z;rcases cH.mp z with z|z
    ·exact hf a z
    ·refine⟨?_,NT a z⟩;have VD:=x2.trans<|x3.trans x4;exact VD.hh.free<|K3 a z
 ·left;refine⟨k2<|by lia,?_⟩
  have:O.drop i=[]:=wU (by lia);rw[this]at mR;cases mR;rw[dH]at Jj;subst Jj;refine w _ F2 H2 (A::fp) (x1.trans x2) (.inr<|.lst fA IT ol) (dz.mpr ⟨λz=>(hf A z).2 rfl,nd⟩) λa z=>?_;rcases cu.mp z with rfl|z
  ·exact x1.hh.free hA
  ·exact x1.hh.free (hf a z).1
theorem zsb {c:Prop}
  (B:qF X scope N own cap) (hc:c) (ho:om.length=own) (oz:∀i∈cap,i<G.length) (hi:ED X c M G n tg iter fi)
  (hg:∀cl V' fp s₀ H₀,Ct (pw X scope cl N V' fp s₀ H₀) M (om++lh G cap) own n tg gg) (ht:∀cl V' fp s₀ H₀,DV (pw X scope cl N V' fp s₀ H₀) M (om++lh G cap) ifs p) (he:∀cl V' fp s₀ H₀,XO (pw X scope cl N V' fp s₀ H₀) M (om++lh G cap) k rh f)
  (hs:Co X iter:=by intro _;rfl):XO X M G (k+1) (.ListComp rh [⟨tg,iter,ifs,0⟩] scope pos) (fF fi own cap gg p f):=by
 obtain⟨wi,g,tt,te,pi,kg,pg,pt,pe,q⟩:=Qt (k:=k) (pos:=pos) B hc ho oz hi hg ht he;exact⟨_,zrs B hc pi kg pg pt pe hs,q⟩
variable {uS:List Expr}{pt:qP}
def DW:D->Option (List D)
 |.lst O=>Z O
 |_=>C
theorem JJ (h:DW d=Z O):d=.lst O:=by cases d<;>simp[DW]at h;subst h;rfl
def Ù (f:EF):Env->Option (List D):=λY=>(f Y).bind DW
theorem Sv {W':Hp}{a:cn}{vs:List V}(hp:Pr (Al K M F B n) O vs)(keep:∀F' H',dQ F F'->dQ B H'->dQ F' H'->jJ K H' a vs):Az K M F B n (Kh K a) O:=by intro i F' H' s1 s2 s3;have hs:jJ K H' a vs:=keep F' H' s1 s2 s3;refine⟨λd hd=>?_,λhl=>⟨vs,hs,by rw[←hp.length];exact hl⟩⟩;obtain⟨v,hv,l⟩:=hp.get' hd;refine⟨⟨vs,v,hs,hv⟩,λx H2 y=>?_⟩;obtain⟨e,y⟩:=y;subst e;have:=y vs hs;rw[hv]at this;cases this;exact⟨F',.refl s3,l.mono s1<|.refl _⟩
theorem Dt.lst_inv {v:V}(h:Dt K M F (.lst O) v):∃a vs,v=.ref a/\jJ K F a vs/\ä K M F O vs:=by
 cases h with
 |lst q t=>exact⟨_,_,rfl,q,t⟩
theorem vn (he:XE X M G 0 e f):XI X M G 0 tg e (Ù f):=by obtain⟨t,pt,qt⟩:=he;refine⟨_,Q6 pt,λF0 B F H Y U O R rs e w=>?_⟩;obtain⟨d,h1,h2⟩:=cL e;rw[JJ h2]at h1;refine qt F0 B F H Y U _ _ rs h1 λv F' H' x l=>?_;obtain⟨a,vs,rfl,ha,hp⟩:=Dt.lst_inv l;exact⟨a,rfl,⟨vs,x.fh.seq ha⟩,w _ F' H' x<|Sv (W':=H') (n:=0) (hp.pr) λF2 H2 s1 s2 s3=>s3.seq<|s1.seq ha⟩
theorem yj (he:XE X M G n e f):DU X M G (n-1) tg e (Ù f):=by obtain⟨t,pt,qt⟩:=he;refine⟨_,Q6 pt,λF0 B F H Y U O R rs e w=>?_⟩;obtain⟨d,h1,h2⟩:=cL e;rw[JJ h2]at h1;refine qt F0 B F H Y U _ _ rs h1 λv F' H' x l=>?_;obtain⟨a,vs,rfl,ha,hp⟩:=l.lst x.fh;exact⟨a,rfl,⟨vs,ha⟩,w _ F' H' x<|Sv (W':=H') hp λF2 H2 s1 s2 s3=>s2.seq ha⟩
theorem XI.cc (h:XI X M G n tg e fi):DU X M G n tg e fi:=by obtain⟨t,pt,qt⟩:=h;refine⟨t,pt,λF0 B F H Y U O R rs e w=>qt F0 B F H Y U O R rs e λJ' F' H' x ok=>w J' F' H' x λi F2 H2 s1 s2 s3=>?_⟩;obtain⟨k1,k2⟩:=ok i F2 H2 s1 ((rs.ext x).bh.trans s2) s3;refine⟨λd hd=>?_,k2⟩;obtain⟨go,yl⟩:=k1 d hd;refine⟨go,λv H3 y=>?_⟩;obtain⟨F3,x3,l⟩:=yl v H3 y;exact⟨F3,x3,l.mono (.refl _) (rs.ext x).bh⟩
noncomputable def l7 (lo:Int)(j:Nat):List D:=(cE j).map λ(t:Nat)=>.int<|lo+(t:Int)
def pA:List D->Option (List D)
 |[.int j]=>if -4611686018427387904<=j/\j<4611686018427387904 then Z (l7 0 j.toNat)else C
 |_=>C
theorem Ů {lo:Int}:Az K M F B n (IH lo j) (l7 lo j):=by
 intro i F' H' s1 s2 s3;unfold l7;refine⟨λd hd=>?_,λhl=>(show j<=i by simpa using hl)⟩;rw[cP]at hd;by_cases h:i<j
 ·rw[zR h]at hd;cases hd;refine⟨h,λx H2 y=>?_⟩;obtain⟨e,y⟩:=y;subst e;subst y;exact⟨F',.refl s3,Al.of<|.int _⟩
 ·rw[lG<|by simpa using h]at hd;cases hd
theorem wv (hm:X.mg "range"=C)(ha:XA X M G [a] [m] fs)(hg:Gl X "range":=by rfl)(hs:SN X a:=by rfl):XI X M G n tg (.Call (.Name "range" pp) [a] [] pos) (λY=>(fs Y).bind pA):=by
 obtain⟨t,pt,_,qt⟩:=ha;refine⟨_,Xu hg hm pt hs,λF0 B F H Y U O R rs e w=>?_⟩;obtain⟨vH,h1,h2⟩:=cL e;refine qt F0 B F H Y U _ _ rs h1 λvs F' H' x l=>?_;cases l with
 |cons h t=>
  cases t;rename_i d v;cases d with
  |int j=>
   unfold pA at h2;dsimp only at h2;by_cases hj:-4611686018427387904<=j/\j<4611686018427387904
   ·rw[if_pos hj]at h2;cases h2;exact⟨j,by rw[h.int],by lia,by lia,w _ F' H' x Ů⟩
   ·rw[if_neg hj]at h2;cases h2
  |_=>cases h2
def iM (i:Nat):List D->List D
 |[]=>[]
 |d::O=>.tup [.int i,d]::iM (i+1) O
theorem Mp:∀{O:List D} {j i:Nat} {d:D},(iM j O)[i]?=Z d->∃x,O[i]?=Z x/\d=.tup [.int (j+i:Nat),x]
 |[],_,_,_,h=>by simp[iM]at h
 |x::O,j,0,d,h=>by simp[iM]at h;subst h;exact⟨x,rfl,rfl⟩
 |x::O,j,i+1,d,h=>by obtain⟨y,h1,h2⟩:=Mp (O:=O) (j:=j+1) (i:=i) (d:=d) (by simpa[iM]using h);exact⟨y,by simpa using h1,by rw[h2,Nat.add_assoc,xT 1 i]⟩
theorem PN:∀{O:List D} {j:Nat},(iM j O).length=O.length
 |[],_=>rfl
 |_::O,j=>by simp[iM,PN (O:=O)]
theorem Sw {a:cn}{vs:List V}(hp:Pr (Al K M F B n) O vs)(keep:∀F' H',dQ F F'->dQ B H'->dQ F' H'->jJ K H' a vs):Az K M F B (n+1) (Kg K a) (iM 0 O):=by intro i F' H' s1 s2 s3;have hs:jJ K H' a vs:=keep F' H' s1 s2 s3;refine⟨λd hd=>?_,λhl=>⟨vs,hs,by rw[←hp.length];rw[PN]at hl;exact hl⟩⟩;obtain⟨x,hx,rfl⟩:=Mp hd;obtain⟨v,hv,l⟩:=hp.get' hx;refine⟨⟨vs,v,hs,hv⟩,λz H2 y=>?_⟩;obtain⟨r,y',hr,rfl,rfl,y⟩:=y;have:=y vs hs;rw[hv]at this;cases this;refine⟨_,kL.newS s3 hr _,.inr<|.tup zw<|.cons (Al.of ?_)<|.cons (l.mono (s1.trans<|vb (s3.free hr) _)<|.refl _) .nil⟩;rw[Nat.zero_add];exact .int _
theorem zsc {kt:Nat}(hm:X.mg "enumerate"=C)(ha:XA X M G [a] [0] fs)(hg:Gl X "enumerate":=by rfl)(hs:SN X a:=by rfl) :
  XI X M G 1 (.Tuple uS kt pt) (.Call (.Name "enumerate" pp) [a] [] pos) (λY=>(fs Y).bind λO=>match O with|[.lst xs]=>Z (iM 0 xs)|_=>C):=by
 obtain⟨t,pt,_,qt⟩:=ha;refine⟨_,Rk hg hm pt hs,λF0 B F H Y U O R rs e w=>?_⟩;obtain⟨vH,h1,h2⟩:=cL e;refine qt F0 B F H Y U _ _ rs h1 λvs F' H' x l=>?_;cases l with
 |cons h t=>
  cases t;rename_i d v;cases d with
  |lst xs=>cases h2;obtain⟨a,vs,rfl,ha,hp⟩:=Dt.lst_inv h;exact⟨a,rfl,⟨vs,x.fh.seq ha⟩,w _ F' H' x<|Sw (n:=0) hp.pr λF2 H2 s1 s2 s3=>s3.seq<|s1.seq ha⟩
  |_=>cases h2
theorem Mx {kt:Nat}(hm:X.mg "enumerate"=C)(ha:XA X M G [a] [n] fs)(hg:Gl X "enumerate":=by rfl)(hs:SN X a:=by rfl) :
  DU X M G (n-1+1) (.Tuple uS kt pt) (.Call (.Name "enumerate" pp) [a] [] pos) (λY=>(fs Y).bind λO=>match O with|[.lst xs]=>Z (iM 0 xs)|_=>C):=by
 obtain⟨t,pt,_,qt⟩:=ha;refine⟨_,Rk hg hm pt hs,λF0 B F H Y U O R rs e w=>?_⟩;obtain⟨vH,h1,h2⟩:=cL e;refine qt F0 B F H Y U _ _ rs h1 λvs F' H' x l=>?_;cases l with
 |cons h t=>
  cases t;rename_i d v;cases d with
  |lst xs=>cases h2;obtain⟨a,vs,rfl,ha,hp⟩:=h.lst x.fh;exact⟨a,rfl,⟨vs,ha⟩,w _ F' H' x<|Sw hp λF2 H2 s1 s2 s3=>s2.seq ha⟩
  |_=>cases h2
variable {ad:cn}{jB p1 mD:qP}{fj:EF}
theorem Ow.lst_inv {v:V}(h:Ow K M F H (k+1) (.lst O) v fp):∃a vs fr,v=.ref a/\fp=a::fr/\F a=C/\H a=Z (.lst vs)/\jY (Ow K M F H k) O vs fr:=by
 rcases h with⟨h,_⟩|h
 ·cases h
 ·cases h with
  |lst h1 h2 h3=>exact⟨_,_,_,rfl,rfl,h1,h2,h3⟩
theorem Ow.dK_inv {v:V}(h:Ow K M F H (k+1) (.dK ks O) v fp):∃a vs fr,v=.ref a/\fp=a::fr/\F a=C/\H a=Z (.dK<|ks.zip vs)/\ks.length=vs.length/\jY (Ow K M F H k) O vs fr:=by
 rcases h with⟨h,_⟩|h
 ·cases h
 ·cases h with
  |dK h1 h2 h3 h4=>exact⟨_,_,_,rfl,rfl,h1,h2,h3,h4⟩
theorem Ow.dT_inv {ks:List (List jU)}{v:V}(h:Ow K M F H (k+1) (.dT ks O) v fp):∃a vs fr,v=.ref a/\fp=a::fr/\F a=C/\H a=Z (.dT<|ks.zip vs)/\ks.length=vs.length/\jY (Ow K M F H k) O vs fr:=by
 rcases h with⟨h,_⟩|h
 ·cases h
 ·cases h with
  |dT h1 h2 h3 h4=>exact⟨_,_,_,rfl,rfl,h1,h2,h3,h4⟩
theorem RS.change {d':D}{v:V}{f1 fr fn:List cn}{o:HO}(rs:RS K M F0 B G F H Y U)(hm:G[i]?=Z (.ow k))(x:kL F H F' H')
  (hσ:U[i]?=Z (Z v)) (b1:∀a∈f1,B a=C) (dj:∀a∈f1,a∉fr) (cf:∀a∈fr,F a=C/\∃o,H a=Z o/\ot o)
  (put:∀(F' H':Hp) (d':D) (v':V) (f':List cn),dQ F F'->dQ B H'->dQ F' H'->(∀a o,B a=Z o->ot o->F0 a=C->F' a=C)->(∀a∈fr,H' a=H a/\F' a=C)->Ow K M F' H' k d' v' f'->f'.Nodup->(∀a∈f',a∉fr)->(∀a∈f',B a=C) ->
    RS K M F0 B G F' H' (Y.set i<|Z d') (U.set i<|Z v'))
  (N2:ad∈f1) (Ks:F' ad=C) (o':Ow K M F' (gK H' ad o) k d' v fn) (nd:fn.Nodup) (FM:∀a∈fn,a∈f1\/H a=C):RS K M F0 B G F' (gK H' ad o) (Y.set i<|Z d') U:=by
 have r:=rs.ext x;have hB:B ad=C:=b1 ad N2;have res:=put F' (gK H' ad o) d' v fn x.ff (λz u h=>by rw[zu<|λe=>by rw[e,hB]at h;cases h];exact r.bh _ _ h) (λz u h=>by rw[zu<|λe=>by rw[e,Ks]at h;cases h];exact x.fh _ _ h) r.nf
  (λz hz=>by obtain⟨hn,o,ho,nt⟩:=cf z hz;refine⟨?_,x.nf z o ho nt hn⟩;have ne:z≠ad:=λe=>dj ad N2 (by rw[←e];exact hz);rw[zu ne];exact(x.hh _ _ ho).trans ho.symm) o' nd
  (λz hz zr=>by
   rcases FM z hz with h|h
   ·exact dj z h zr
   ·obtain⟨_,o,ho,nt⟩:=cf z zr;rw[h]at ho;cases ho)
  (λz hz=>(FM z hz).elim (b1 z) λh=>rs.bh.free h)
 have e:U.set i (Z v) = U:=by
  apply nY;intro j;by_cases hj:i=j
  ·subst hj;rw[o9 (by have:=cU.mp hσ;exact this.1),hσ]
  ·rw[gq hj]
 rw[e]at res;exact res
def ì (i:Nat)(f:EF):SF:=λY=>(L i Y).bind λo=>(f Y).bind λd=>match o with
 |.lst O=>if O.length<16777216 then Z (.nx<|Y.set i<|Z<|.lst<|O++[d])else C
 |_=>C
theorem jq (i:Nat)(hm:G[i]?=Z (.ow<|k+1))(he:XO X M G k e f)(hN:X.N[i]?=Z x:=by rfl)(hv:uQ X.env.scope x:=by walk_at "v1")(hd:lH x:=by decide)
  (mR:vR x:=by decide) (n8:SE X e []:=by rfl)
  (pL:zT (.Name x p1) "append" X.env (fB (.Name x p1) X.env)=fB (.Name x p1) X.env:=by rfl)
  (tR:FA X jB [e]:=by rfl)
  (pM:(iB.endLine==jB.line)=Â:=by rfl) (mS:rc X jB []:=by rfl)
  (C5:iF (.Call (.Attribute (.Name x p1) "append" iB) [e] [] jB) C pos.line X.env=pure Ã:=by rfl) :
  XS X M G rk (.Expr (.Call (.Attribute (.Name x p1) "append" iB) [e] [] jB) pos) (ì i f):=by
 obtain⟨t,pt,qt⟩:=he;refine⟨_,MO (IC PySem.F.plainAttrs_list PySem.F.slot_list_append PySem.F.type_list_append P3 (wc hN hv hd mR) (yw pt v5 n8) pL tR pM n8 mS) C5,λF0 B F H Y U o E rs e z=>?_⟩;obtain⟨d1,d2,h1,h2,h3⟩:=fD e;obtain⟨f1,fr,n1,b1,dj,i4,cf,put⟩:=rs.put (F':=F) (H':=H) hm;obtain⟨v,hσ,ow⟩:=i4 d1<|zo h1;refine⟨v,hσ,?_⟩;cases d1 with
 |lst O=>
  dsimp only at h3;by_cases hz:O.length<16777216
  ·rw[if_pos hz]at h3;cases h3;obtain⟨ad,vs,uJ,rfl,rfl,hF,hH,ol⟩:=ow.lst_inv;refine⟨.inl ⟨rfl,_,jJ.of hH⟩,qt F0 B F H Y U d2 _ rs h2 λv2 F' H' fp x1 o2 D8 K2=>?_⟩;have hA:H' ad=Z (.lst vs):=x1.hh _ _ hH;have fA:F' ad=C:=x1.nf ad _ hH nofun hF;have nA:∀a∈fp,a≠ad:=λa hz e=>by rw[e]at hz;rw[K2 ad hz]at hH;cases hH
   have Ly:=dz.mp n1;refine⟨ad,vs,v2,rfl,rfl,hA,by rw[←ol.length,eJ];exact hz,?_⟩;refine z U F' _<|rs.change hm x1 hσ b1 dj cf put b7 fA (.inr<|.lst fA zw<|(ol.mono λ_ _ f' hi o'=>?_).append<|.cons (f:=fp) ?_ .nil) (fn:=ad::(uJ++(fp++[]))) ?_ ?_
   ·refine(o'.ext x1).frame (.refl _) λa ha=>⟨zu λe=>Ly.1 (e▸hi a ha),((o'.ext x1).cells a ha).1⟩
   ·exact o2.frame (.refl _) λa ha=>⟨zu<|nA a ha,(o2.cells a ha).1⟩
   ·rw[dH];refine dz.mpr ⟨λhz=>?_,dh.mpr ⟨Ly.2,D8,λa ha b hb e=>?_⟩⟩
    ·rcases cH.mp hz with hz|hz
     ·exact Ly.1 hz
     ·exact nA ad hz rfl
    ·subst e;obtain⟨_,o,ho,_⟩:=jY.cellsOf ol a ha;rw[K2 a hb]at ho;cases ho
   ·intro a ha;rw[dH]at ha;rcases cu.mp ha with rfl|ha
    ·exact .inl b7
    ·rcases cH.mp ha with ha|ha
     ·exact .inl<|cj _ ha
     ·exact .inr<|K2 a ha
  ·rw[if_neg hz]at h3;cases h3
 |_=>cases h3
def xH (O:List D)(i:Int)(d:D):Option (List D):=(ò O.length i).bind λj=>Z<|O.set j d
noncomputable def jG [DecidableEq κ](ks:List κ)(O:List D)(k:κ)(d:D):List κ×List D:=if ks.contains k=Â then(ks,(ks.zip O).map λp=>if p.1=k then d else p.2)else(ks++[k],O++[d])
def qM (i:Nat)(fj f:EF):SF:=λY=>(f Y).bind λd=>(L i Y).bind λo=>(fj Y).bind λj=>match o,j with
 |.lst O,.int z=>(xH O z d).bind λvH=>Z<|.nx<|Y.set i<|Z<|.lst vH
 |_,_=>C
theorem jY.set0 {R:D->V->List cn->Prop}{d:D}{v:V}(r:R d v [])(z:∀d v f,R d v f->f=[]):∀{O:List D} {vs:List V} {fp:List cn} (i:Nat),jY R O vs fp->jY R (O.set i d) (vs.set i v) []
 |_,_,_,_,.nil=>.nil
 |_,_,_,0,.cons h t=>by have:=jY.cons (f:=[]) (g:=[]) r (jY.ofPr<|t.pr λd v f _ q=>by have:=z _ _ _ q;subst this;exact q);exact this
 |_,_,_,i+1,.cons h t=>by have e:=z _ _ _ h;subst e;exact jY.cons (f:=[]) (g:=[]) h<|jY.set0 r z i t
theorem Ow.nil0 {v:V}(h:Ow K M F H 0 d v fp):fp=[]:=h.2
theorem jY.nil0 {vs:List V}(h:jY (Ow K M F H 0) O vs fp):fp=[]:=by
 induction h with
 |nil=>rfl
 |cons h t ih=>rw[h.nil0,ih];rfl
theorem zsd (i:Nat){j:Expr}(hm:G[i]?=Z (.ow 1))(hj:XE X M G n j fj)(he:XE X M G 0 e f)(hN:X.N[i]?=Z x:=by rfl)(hv:uQ X.env.scope x:=by walk_at "v1")(hd:lH x:=by decide)
  (mR:vR x:=by decide)
  (ha:∀v,mG (.Subscript (.Name x p1) j mD) X.env v=(do
   let ov ← gC [v] (fB (.Name x p1) X.env)
   let iv ← gC [v,ov] (fB j X.env)
   k7 mD
   gC [v,ov,iv] (uG ov iv v)
   A7 [v,ov,iv] []):=by intro _;rfl)
  (hs:mL [.Subscript (.Name x p1) j mD] e pos.line X.env=pure Ã:=by rfl) (hw:mK [.Subscript (.Name x p1) j mD] e X.env=pure C:=by rfl)
  (h1:(eE [.Subscript (.Name x p1) j mD] X.env).map (·.2)=[mG (.Subscript (.Name x p1) j mD) X.env]:=by rfl) :
  XS X M G rk (.Assign [.Subscript (.Name x p1) j mD] e pos) (qM i fj f):=by
 obtain⟨t,pt,qt⟩:=he;obtain⟨tj,Dh,Di⟩:=hj;refine⟨_,M5 pt (Sd (wc hN hv hd mR) Dh Ms ha) hs hw h1,λF0 B F H Y U o E rs e z=>?_⟩;obtain⟨d,g1,g2⟩:=cL e;obtain⟨d1,zY,g3,g4,g5⟩:=fD g2;refine qt F0 B F H Y U d _ rs g1 λv0 F1 H1 x1 l0=>?_;have qK:=rs.ext x1;obtain⟨f1,fr,n1,b1,dj,i4,cf,put⟩:=qK.put (F':=F) (H':=H) hm;obtain⟨v,hσ,ow⟩:=i4 d1<|zo g3;refine⟨v,hσ,Di F0 B F1 H1 Y U zY _ qK g4 λvj F2 H2 x2 lj=>?_⟩;cases d1 with
 |lst O=>
  cases zY with
  |int zi=>obtain⟨vH,g6,g7⟩:=cL g5;cases g7;obtain⟨jn,g8,g9⟩:=cL g6;cases g9;obtain⟨ad,vs,uJ,rfl,rfl,hF,hH,ol⟩:=ow.lst_inv;have hA:H2 ad=Z (.lst vs):=x2.hh _ _ hH;have fA:F2 ad=C:=x2.nf ad _ hH nofun hF;have e0:=ol.nil0;subst e0;refine⟨ad,vs,zi,jn,rfl,lj.int,hA,by rw[←ol.length];exact g8,?_⟩;refine z U F2 _ (qK.change hm x2 hσ b1 dj cf put b7 fA (.inr<|.lst fA zw<|jY.set0 ⟨Dt.mono x2.ff l0,rfl⟩ (λ_ _ _ q=>q.2) jn<|ol.mono λ_ _ _ _ q=>⟨q.1.mono x2.ff,q.2⟩) (fn:=[ad]) (by simp) ?_);intro a ha;rw[cw]at ha;subst ha;exact .inl b7
  |_=>cases g5
 |_=>cases g5
variable {Q:VK}{l:cn}{y:Str}
theorem Lv {ce:List (cn×iU)}{s:cF}{xs:List V}(I:Ê X ce U H s)(hH:Rd H l<|.lst xs):xs.length<=sizeLine/\∃(dP:List b8) (n:Nat),dR xs dP/\xs.length=dP.length/\s.heap.get? l=Z { cls:=.type "list",data:=.seq dP.toArray n }:=by obtain⟨z,dP,n,r,e⟩:=hH.ok I.hok;exact⟨z,dP,n,r,r.length,e⟩
def Ec (K:b9):R2:=λx y H Q=>∃l b xs zs,x=.ref l/\y=.ref b/\jJ K H l xs/\jJ K H b zs/\xs.length+zs.length<=sizeLine/\∀p,H p=C->Q (.ref p) (gK H p<|.lst<|xs++zs)
theorem zse:k9 X (ik .Add) (Ec X.K):=by
 intro ce s U H x y v u Q I rx ry h;obtain⟨l,b,xs,zs,rfl,rfl,hH,hB,hz,q⟩:=h;cases rx;cases ry;obtain⟨dP,r,⟨⟨cls,dd,data,sl⟩,n,e,c1,c2,c3⟩,z⟩:=I.list hH;obtain⟨C8,r2,⟨⟨Km,IN,data2,Ju⟩,n2,S,c4,c5,c6⟩,z2⟩:=I.list hB;simp only at c1 c3 c4 c6;subst c1 c3 c4 c6;have hl:=r.length;have BC:=r2.length;refine A6 ⟨_,e,rfl⟩ ⟨_,S,rfl⟩ noFill_list_add seq_list_add PySem.F.slot_list_add PySem.F.entry_list_add (PySem.F.args_list_add_2 _ _) (list_addW l b dP.toArray C8.toArray n n2 dd IN sl Ju<|by rw[cQ,cQ];lia) ⟨e,S,?_⟩;have ea:dP.toArray++C8.toArray=(dP++C8).toArray:=by simp
 rw[ea];exact⟨.ref _,_,I.lnew (t':=s.toks) (r.append r2)<|by rw[cM];lia,rfl,q _ I.fresh⟩
def HC:R2:=λx y H Q=>∃i j,x=.str i/\y=.str j/\i.length+j.length<=sizeLine/\Q (.str<|i++j) H
def Dj (K:b9):R2:=λx y H Q=>yD (λi j=>.int<|i+j) x y H Q\/HC x y H Q\/Ec K x y H Q\/Ed K x y H Q
theorem zsf:k9 X (ik .Add) (Dj X.K):=k9.or Λ<|k9.or Xk<|k9.or zse zri
def d9:D->D->Option D
 |.int i,.int j=>Z<|.int<|i+j
 |.str x,.str y=>if x.length+y.length<=16777216 then Z (.str<|x++y)else C
 |.lst xs,.lst ys=>if xs.length+ys.length<=16777216 then Z (.lst<|xs++ys)else C
 |.tup xs,.tup ys=>if xs.isEmpty=Ã/\ys.isEmpty=Ã/\xs.length+ys.length<=1000000 then Z (.tup<|xs++ys)else C
 |_,_=>C
theorem Pr.ow0 {vs:List V}(h:Pr (Al K M F W' 0) O vs):jY (Ow K M F H 0) O vs []:=jY.ofPr<|h.mono λ_ _ q=>⟨q,rfl⟩
theorem Al.lst1 {v:V}(hn:n<=1)(h:Al K M F W' n (.lst O) v)(s:dQ F W'):∃a vs,v=.ref a/\jJ K W' a vs/\Pr (Al K M F W' 0) O vs:=by
 obtain⟨a,vs,e,h1,h2⟩:=h.lst s;have:n-1=0:=by lia
 rw[this]at h2;exact⟨a,vs,e,h1,h2⟩
theorem Al.tup1 {v:V}(hn:n<=1)(h:Al K M F W' n (.tup O) v)(s:dQ F W'):∃a vs,v=.ref a/\W' a=Z (.tup vs)/\Pr (Al K M F W' 0) O vs:=by
 obtain⟨a,vs,e,h1,h2⟩:=h.tup s;have:n-1=0:=by lia
 rw[this]at h2;exact⟨a,vs,e,h1,h2⟩
theorem ww {vs:List V}(s:dQ F H)(hp:Pr (Al K M F H 0) O vs)(w:∀v F' H' fp,kL F H F' H'->Ow K M F' H' 1 (.lst O) v fp->fp.Nodup->(∀a∈fp,H a=C)->Q v H'):∀p,H p=C->Q (.ref p) (gK H p<|.lst vs):=λp h0=>by obtain⟨o,nd⟩:=Rc s (hp.ow0 (H:=H)) h0;exact w _ F _ [p] (kL.newO s h0 _) o (nd dC) λa z=>by rw[cw]at z;subst z;exact h0
theorem zsg (hn:n<=1)(hm:m<=1):Gq K M n m 1 (Dj K) d9:=by
 intro F H x y d1 d2 d Q s l1 l2 e w;have ws:∀d v,d.sc=Â->Dt K M F d v->(∀v F' H' fp,kL F H F' H'->Ow K M F' H' 1 d v fp->fp.Nodup->(∀a∈fp,H a=C)->Q v H')->Q v H:=λd v hs hd w=>w v F H [] (.refl s) (Ow.scal hd hs) dC λa z=>(by cases z);cases d1 with
 |int i=>
  cases d2 with
  |int j=>cases e;exact .inl ⟨i,j,l1.int,l2.int,ws _ _ rfl (.int _) w⟩
  |_=>cases e
 |str i=>
  cases d2 with
  |str j=>
   unfold d9 at e;dsimp only at e;by_cases hz:i.length+j.length<=16777216
   ·rw[if_pos hz]at e;cases e;exact .inr (.inl ⟨i,j,l1.str,l2.str,by rw[eJ];exact hz,ws _ _ rfl (.str _) w⟩)
   ·rw[if_neg hz]at e;cases e
  |_=>cases e
 |lst xs=>
  cases d2 with
  |lst ys=>
   unfold d9 at e;dsimp only at e;by_cases hz:xs.length+ys.length<=16777216
   ·rw[if_pos hz]at e;cases e;obtain⟨a,vs,rfl,ha,hp⟩:=Al.lst1 hn l1 s;obtain⟨b,us,rfl,hb,hq⟩:=Al.lst1 hm l2 s;exact .inr (.inr<|.inl ⟨a,b,vs,us,rfl,rfl,ha,hb,by rw[←hp.length,←hq.length,eJ];exact hz,ww s (hp.append hq) w⟩)
   ·rw[if_neg hz]at e;cases e
  |_=>cases e
 |tup xs=>
  cases d2 with
  |tup ys=>
   unfold d9 at e;dsimp only at e;by_cases hz:xs.isEmpty=Ã/\ys.isEmpty=Ã/\xs.length+ys.length<=1000000
   ·rw[if_pos hz]at e;cases e;obtain⟨a,vs,rfl,ha,hp⟩:=Al.tup1 hn l1 s;obtain⟨b,us,rfl,hb,hq⟩:=Al.tup1 hm l2 s;have hl:=hp.length;have BC:=hq.length;have e1:vs≠[]:=λz=>by rw[z]at hl;have:=wJ.mp hl;rw[this]at hz;exact absurd hz.1 (by decide)
    have S:us≠[]:=λz=>by rw[z]at BC;have:=wJ.mp BC;rw[this]at hz;exact absurd hz.2.1 (by decide)
    refine .inr (.inr<|.inr ⟨a,b,vs,us,rfl,rfl,p9.of ha,p9.of hb,e1,by rw[←hl,←BC,eJ];lia,λz=>absurd z S,λ_ p h0=>?_⟩);have x2:=kL.newS s h0<|.tup<|vs++us;exact w _ _ _ [] x2 (.inr<|.tup zw<|jY.ofPr<|(hp.append hq).mono λ_ _ q=>⟨Dt.mono x2.ff q,rfl⟩) dC λa z=>(by cases z)
   ·rw[if_neg hz]at e;cases e
  |_=>cases e
 |_=>cases e
def HK:R2:=λx y H Q=>∃l k xs,x=.ref l/\y=.int k/\Rd H l (.lst xs)/\-(2 ^ 63)<=k/\k<2 ^ 63/\xs.length*k.toNat<=sizeLine /\
 ∀p,H p=C->Q (.ref p) (gK H p<|.lst (cB k.toNat xs).flatten)
theorem zsh:k9 X (ik .Mult) HK:=by
 intro ce s U H x y v u Q I rx ry h;obtain⟨l,k,xs,rfl,rfl,hH,h1,h2,hz,q⟩:=h;cases rx;obtain⟨t,rfl⟩:=ry;obtain⟨z,dP,n,r,hl,e⟩:=Lv I hH;have iI:dP.toArray.size*k.toNat<=sizeLine:=by rw[cQ,←hl];exact hz
 have oz:¬dP.toArray.size*k.toNat > (2 ^ 63-1)/8:=by
  have:(sizeLine:Nat)<=(2 ^ 63-1)/8:=by decide
  lia
 have K4:¬(!Builtin.List.listFitsIndex k)=Â:=by rw[fitsIndex_both h1 h2];exact cJ
 have GW:¬Builtin.List.listTooLong (dP.toArray.size*k.toNat)=Â:=by rw[BR iI];exact cJ
 have Lc:Aq (λx1 x2=>x1++x2) #[] (cB (if dP.toArray.isEmpty=Â then 0 else k.toNat) dP.toArray)=(cB k.toNat dP).flatten.toArray:=by
  have f0:∀m:Nat,Aq (λx1 x2=>x1++x2) #[] (cB m dP.toArray)=(cB m dP).flatten.toArray:=λm=>by have:=P0 dP m [];rw[Ci]at this;exact this
  rw[f0];cases dP with
  |nil=>simp
  |cons a r'=>rw[if_neg<|by simp]
 refine wpAny_binaryOp_repeat_ref (T:="list") (U:="int") (by decide) ⟨_,e,rfl⟩ (λs'=>DP s' k t) noFill_list_mul F.fills_int_mul F.slot_int_rmul repeat_list F.slot_int_index.lookup
  (mH F.slot_int_rmul (DP s k t) F.entry_int_rmul (F.args_int_rmul_2 _ _) (int___rmul___int_list k t l dP.toArray n)
   ⟨e,rfl,⟨_,e,rfl⟩,mH F.slot_list_mul ⟨_,e,rfl⟩ F.entry_list_mul (F.args_list_mul_2 _ _) (AutoListH.list___mul___list_int_3 l dP.toArray n k t K4 oz GW) ⟨e,?_⟩⟩)
 rw[Lc];exact⟨.ref _,_,I.lnew (t':=s.toks) (r.rep k.toNat)<|by rw[zrl,Nat.mul_comm];exact hz,rfl,q _ I.fresh⟩
theorem Zh:qR K M n m k (rI vC λi j=>.int<|i*j) e7:=zr6
def yY:D->D->Option D
 |.lst xs,.int j=>if -1000000<j/\j<1000000/\xs.length<=16 then Z (.lst (cB j.toNat xs).flatten)else C
 |_,_=>C
theorem Sx (ha:XO X M G 1 a f)(hb:XE X M G m b g):XO X M G 1 (.BinOp a .Mult b pos) (S yY f g):=by
 obtain⟨ta,pa,qa⟩:=ha;obtain⟨tb,pb,qb⟩:=hb;refine⟨_,ND zsh pa pb,λF0 B F H Y U d Q rs e w=>?_⟩;obtain⟨d1,d2,h1,h2,h3⟩:=fD e;refine qa F0 B F H Y U d1 _ rs h1 λv F1 H1 fp x1 o nd hf=>?_;refine qb F0 B F1 H1 Y U d2 _ (rs.ext x1) h2 λv2 F2 H2 x2 l2=>?_;cases d1 with
 |lst xs=>
  cases d2 with
  |int j=>
   unfold yY at h3;dsimp only at h3;by_cases hz:-1000000<j/\j<1000000/\xs.length<=16
   ·rw[if_pos hz]at h3;cases h3;obtain⟨ad,vs,fr,rfl,rfl,hF,hH,ol⟩:=(o.ext x2).lst_inv;have hp:Pr (Al X.K M F2 H2 0) xs vs:=ol.pr λ_ _ _ _ q=>q.1;have FZ:=x1.trans x2;refine⟨ad,j,vs,rfl,l2.int,.inl hH,by lia,by lia,?_,ww x2.fh (hp.rep _) λv F' H' fp x o nd hf=>w v F' H' fp (FZ.trans x) o nd λz hz=>FZ.hh.free<|hf z hz⟩;rw[←hp.length,eJ];have h1:j.toNat<=1000000:=by lia
    have h2:xs.length*j.toNat<=16*1000000:=DK hz.2.2 h1;lia
   ·rw[if_neg hz]at h3;cases h3
  |_=>cases h3
 |_=>cases h3
def vZ:D->Option D
 |.int i=>Z<|.int<|-i
 |_=>C
theorem Fu (ha:XE X M G n a f):XE X M G k (.UnaryOp .USub a pos) (e1 vZ f):=by
 refine ĩ Η (λF H x d1 d Q s l e w=>?_) ha;cases d1 with
 |int i=>cases e;exact⟨i,l.int,w _ F H (.refl s)<|Al.of<|.int _⟩
 |_=>cases e
theorem zsi {u:b8}(hg:Gl X x)(hm:X.mg x=Z u)(hs:d.sc=Â)(r:Í d.v u)(hd:lH x:=by decide):XE X M G n (.Name x pos) (eC d):=by
 refine⟨_,MM hg hm r hd,λF0 B F H Y U d' Q rs e w=>?_⟩;cases e;refine w _ F H (.refl rs.fh)<|Al.of ?_;cases d with
 |non=>exact .non
 |bl b=>exact .bl b
 |int b=>exact .int b
 |str b=>exact .str b
 |_=>cases hs
def vJ:List D->Option D
 |[.lst O]=>Z<|.lst O
 |[.tup O]=>Z<|.lst O
 |_=>C
theorem Qu (hn:n<=1):Bt K M [n] 1 (λxs H Q=>∃p ys,xs=[.ref p]/\(jJ K H p ys\/p9 K H p ys)/\∀l,H l=C->Q (.ref l) (gK H l<|.lst ys)) vJ:=by
 intro F H vs O d Q s l e w;cases l with
 |cons h t=>
  cases t;rename_i d1 v;cases d1 with
  |lst xs=>cases e;obtain⟨a,us,rfl,ha,hp⟩:=Al.lst1 hn h s;exact⟨a,us,rfl,.inl ha,ww s hp w⟩
  |tup xs=>cases e;obtain⟨a,us,rfl,ha,hp⟩:=Al.tup1 hn h s;exact⟨a,us,rfl,.inr<|p9.of ha,ww s hp w⟩
  |_=>cases e
abbrev PF:=Env->Option (Option Int)
def ñ:PF:=λ_=>Z C
def ß (f:EF):PF:=λY=>(f Y).bind λd=>match d with
 |.int i=>Z<|Z i
 |_=>C
def XP (X:Cx)(M:Nat->cn)(G:List Mo)(e:Option Expr)(f:PF):Prop:=∃t,PO X e t/\∀(F0 B F H:Hp) (Y:Env) (U:St) (o:Option Int) (Q:Option Int->Hp->Prop),RS X.K M F0 B G F H Y U->f Y=Z o->(∀F' H',kL F H F' H'->Q o H')->t U H Q
theorem DB:XP X M G C ñ:=⟨_,zrh,λF0 B F H Y U o Q rs e w=>by cases e;exact w F H<|.refl rs.fh⟩
theorem xf (h:XE X M G n e f):XP X M G (Z e) (ß f):=by
 obtain⟨t,pt,qt⟩:=h;refine⟨_,JM pt,λF0 B F H Y U o Q rs e w=>?_⟩;obtain⟨d,h1,h2⟩:=cL e;refine qt F0 B F H Y U d _ rs h1 λv F' H' x l=>?_;cases d with
 |int i=>cases h2;exact⟨i,l.int,w F' H' x⟩
 |_=>cases h2
def â (xs:List D)(lo hi:Option Int):List D:=(xs.drop<|HT.sIx xs.length 0 lo).take<|HT.sIx xs.length xs.length hi-HT.sIx xs.length 0 lo
theorem zsj {vs:List V}{lo hi:Option Int}(h:Pr R O vs):Pr R (â O lo hi) (AE vs lo hi):=by unfold â AE;rw[h.length];exact(h.drop _).take _
def gG (d:D)(lo hi:Option Int):Option D:=match d with
 |.lst xs=>Z<|.lst<|â xs lo hi
 |_=>C
theorem xm {lo hi:Option Expr}{pl ph:PF}{p1}(hn:n<=1)(he:XE X M G n e f)(hl:XP X M G lo pl)(hh:XP X M G hi ph):XO X M G 1 (.Subscript e (.Slice lo hi C p1) pos) (λY=>(f Y).bind λd=>(pl Y).bind λl=>(ph Y).bind λh=>gG d l h):=by
 obtain⟨t,pt,qt⟩:=he;obtain⟨t1,xD,xE⟩:=hl;obtain⟨t2,qC,sW⟩:=hh;refine⟨_,QD zrk pt xD qC,λF0 B F H Y U r Q rs e w=>?_⟩;obtain⟨d,l,h1,h2,h3⟩:=fD e;obtain⟨hh,h4,h5⟩:=cL h3;refine qt F0 B F H Y U d _ rs h1 λv F1 H1 x1 l1=>?_;refine xE F0 B F1 H1 Y U l _ (rs.ext x1) h2 λF2 H2 x2=>?_;refine sW F0 B F2 H2 Y U hh _ ((rs.ext x1).ext x2) h4 λF3 H3 x3=>?_;cases d with
 |lst xs=>cases h5;have xJ:=x2.trans x3;obtain⟨a,vs,rfl,ha,hp⟩:=Al.lst1 hn (l1.mono xJ.ff xJ.hh) xJ.fh;exact⟨a,vs,rfl,ha,ww xJ.fh (zsj hp) λv F' H' fp x o nd hf=>w v F' H' fp ((x1.trans xJ).trans x) o nd λz hz=>(x1.trans xJ).hh.free<|hf z hz⟩
 |_=>cases h5
def Bv:List D->Option D
 |[.int i]=>Z<|.int<|if i<0 then -i else i
 |_=>C
theorem Rn:Bs K M [n] k (λxs H Q=>∃i,xs=[.int i]/\Q (.int<|if i<0 then -i else i) H) Bv:=by
 intro F H vs O d Q s l e w;cases l with
 |cons h t=>
  cases t;rename_i d1 v;cases d1 with
  |int i=>cases e;exact⟨i,by rw[h.int],w _ F H (.refl s)<|Al.of<|.int _⟩
  |_=>cases e
def ii (g:Int->Int->D):List D->Option D
 |[.int i,.int j]=>Z<|g i j
 |_=>C
theorem ŭ {g:Int->Int->D}(hg:∀i j F,Dt K M F (g i j)<|gv i j):Bs K M [n,m] k (λxs H Q=>∃i j,xs=[.int i,.int j]/\Q (gv i j) H) (ii g):=by
 intro F H vs O d Q s l e w;cases l with
 |cons h t=>
  cases t with
  |cons h' t=>
   cases t;rename_i d1 v d2 v2;cases d1 with
   |int i=>
    cases d2 with
    |int j=>cases e;exact⟨i,j,by rw[h.int,h'.int],w _ F H (.refl s)<|Al.of<|hg i j F⟩
    |_=>cases e
   |_=>cases e
def Af:List D->Option D:=ii λi j=>.int<|if j > i then j else i
def Hr:List D->Option D:=ii λi j=>.int<|if j<i then j else i
theorem Zi:Bs K M [n,m] k (λxs H Q=>∃i j,xs=[.int i,.int j]/\Q (.int<|if j > i then j else i) H) Af:=ŭ λ_ _ _=>.int _
def B5 (i:Nat)(o:D->D->Option D)(f:EF):SF:=λY=>(L i Y).bind λx=>(f Y).bind λy=>(o x y).bind λd=>Z<|.nx<|Y.set i<|Z d
theorem Sy {op:m9}{gi:Int->Int->Int}(ho:FC X op<|Jn gi)(hm:G[i]?=Z (.ow k))(hN:X.N.Nodup)(hi:X.N[i]?=Z x)(hx:ï X.env.scope x)(he:XE X M G n e f)(hf:wW X x:=by walk_at "v2") :
  XS X M G rk (.AugAssign (.Name x pos') op e pos) (B5 i (i2 λi j=>.int<|gi i j) f):=by
 obtain⟨t,pt,qt⟩:=he;refine⟨_,Ξ hN hi hx pt ho hf,λF0 B F H Y U o E rs e z=>?_⟩;obtain⟨d1,d2,h1,h2,h3⟩:=fD e;obtain⟨d,h4,h5⟩:=cL h3;cases h5;obtain⟨v,hv,l⟩:=rs.get hm<|zo h1;refine⟨v,hv,qt F0 B F H Y U d2 _ rs h2 λy F' H' x1 l2=>?_⟩;cases d1 with
 |int i'=>
  cases d2 with
  |int j'=>cases h4;exact⟨i',j',l.int,l2.int,z _ F' H'<|rs.set hm x1 (Ow.scal (.int _) rfl) dC λa z=>(by cases z)⟩
  |_=>cases h4
 |_=>cases h4
def ö (i j:Nat)(fs:Env->Option (List D)):SF:=λY=>(fs Y).bind λO=>match O with
 |[x,y]=>Z<|.nx<|(Y.set i<|Z x).set j<|Z y
 |_=>C
theorem SA {px py:qP}{kt k2 qC}(D2:G[i]?=Z (.ow 0))(D3:G[j]?=Z (.ow 0))(hc:X.calm=Â)(hN:X.N.Nodup)(hi:X.N[i]?=Z x)(hj:X.N[j]?=Z y)(Bg:i≠j)
  (hx:X.env.scope.names.lookup x=Z .local) (hy:X.env.scope.names.lookup y=Z .local) (ha:XA X M G [a,b] [0,0] fs)
  (hw:mK [.Tuple [.Name x px,.Name y py] kt pt] (.Tuple [a,b] k2 qC) X.env=pure (Z [x,y]))
  (hs:mL [.Tuple [.Name x px,.Name y py] kt pt] (.Tuple [a,b] k2 qC) pos.line X.env=pure Ã:=by rfl) :
  XS X M G rk (.Assign [.Tuple [.Name x px,.Name y py] kt pt] (.Tuple [a,b] k2 qC) pos) (ö i j fs):=by
 obtain⟨t,pt,_,qt⟩:=ha;refine⟨_,Ο hc hN hi hj Bg hx hy pt hw hs,λF0 B F H Y U o E rs e z=>?_⟩;obtain⟨O,h1,h2⟩:=cL e;refine qt F0 B F H Y U O _ rs h1 λvs F' H' x1 l=>?_;cases l with
 |cons l1 l=>
  cases l with
  |cons l2 l=>cases l;cases h2;have r1:=rs.set D2 x1 (Ow.zero l1) dC λa z=>(by cases z);exact⟨_,_,rfl,z _ F' H'<|r1.set D3 (.refl x1.fh) (Ow.zero l2) dC λa z=>(by cases z)⟩
def ç (g:D->Env->Option Env)(f:EF):SF:=λY=>(f Y).bind λd=>(g d Y).bind λρ'=>Z<|.nx ρ'
theorem Iw (he:XE X M G 0 e f)(hg:XG X M G 0 tg gg)(hs:mL [tg] e pos.line X.env=pure Ã:=by rfl)(hw:mK [tg] e X.env=pure C:=by rfl)
  (h1:(eE [tg] X.env).map (·.2)=[mG tg X.env]:=by rfl):XS X M G rk (.Assign [tg] e pos) (ç gg f):=by
 obtain⟨t,pt,qt⟩:=he;obtain⟨t2,qC,sW⟩:=hg;refine⟨_,M5 pt qC hs hw h1,λF0 B F H Y U o E rs e z=>?_⟩;obtain⟨d,h1,h2⟩:=cL e;obtain⟨ρ',h3,h4⟩:=cL h2;cases h4;exact qt F0 B F H Y U d _ rs h1 λv F' H' x l=>sW F0 B F' H' Y ρ' U d v _ (rs.ext x) l h3 λσ' r=>z σ' F' H' r
def nI:List Nat->List Mo->Bool
 |[],_=>Â
 |n::ns,.al m::G=>decide (n=m)&&nI ns G
 |n::ns,.ow m::G=>decide (n=0)&&decide (m=0)&&nI ns G
 |_,_=>Ã
theorem JK:∀{pm:List Nat} {G:List Mo},nI pm G=Â->∀(i n:Nat),pm[i]?=Z n->G[i]?=Z (Mo.al n)\/(n=0/\G[i]?=Z (Mo.ow 0))
 |[],_,_,i,n,e=>by simp at e
 |x::ns,.al m::G,h,i,n,e=>by
  simp only[nI,c9,decide_eq_true_eq]at h;cases i with
  |zero=>simp at e;subst e;rw[h.1];exact .inl rfl
  |succ i=>simpa using JK h.2 i n (by simpa using e)
 |x::ns,.ow m::G,h,i,n,e=>by
  simp only[nI,c9,decide_eq_true_eq]at h;cases i with
  |zero=>simp at e;subst e;rw[h.1.1,h.1.2];exact .inr ⟨rfl,rfl⟩
  |succ i=>simpa using JK h.2 i n (by simpa using e)
 |_::_,[],h,_,_,_=>by simp[nI]at h
 |_::_,.px _::_,h,_,_,_=>by simp[nI]at h
 |_::_,.so _::_,h,_,_,_=>by simp[nI]at h
def DX (X:Cx)(scope:rR)(N:List Str)(own:Nat)(cap:List Nat):Bool :=
 decide (scope.kind=.function)&&scope.names.all (λx=>(decide (x.2≠.cell) || decide (scope.names.lookup x.1=Z .cell))&&(decide (x.2≠.local) || decide (scope.names.lookup x.1=Z .local))&&(decide (x.2≠.free) || (decide (X.env.kindOf x.1=Z .cell) || decide (X.env.kindOf x.1=Z .free)))) &&
 decide (N.length=own+cap.length)&&(cE cap.length).all λj=>match N[own+j]?,cap[j]? with
  |some x,Z i=>decide (X.N[i]?=Z x)&&decide (scope.names.lookup x=Z .free)
  |_,_=>Ã
theorem SC (h:DX X scope N own cap=Â):qF X scope N own cap:=by
 unfold DX at h;simp only[c9,decide_eq_true_eq,ej,pB]at h;obtain⟨⟨⟨h1,h2⟩,h3⟩,h4⟩:=h;refine⟨h1,λx hx hl=>((h2 x hx).1.1).elim (λz=>absurd hl z) id,λx hx hl=>((h2 x hx).1.2).elim (λz=>absurd hl z) id,λx hx hf=>((h2 x hx).2).elim (λz=>absurd hf z) id,h3,λj x hj=>?_⟩;have AH:j<cap.length:=by have:=(cU.mp hj).1;lia
 have q:=h4 j<|dm.mpr AH;rw[hj]at q;have hc:cap[j]?=Z cap[j]:=by simp[AH]
 rw[hc]at q;simp only[c9,decide_eq_true_eq]at q;exact⟨_,hc,q.1,q.2⟩
def JA:D->Option String
 |.non=>Z "NoneType"
 |.bl _=>Z "bool"
 |.int _=>Z "int"
 |.str _=>Z "str"
 |.lst _=>Z "list"
 |.tup _=>Z "tuple"
 |.dK _ _=>Z "dict"
 |_=>C
def OS (K:b9)(H:Hp)(v:V)(t:String):Prop:=qS K H v (.type t)\/(t = "list"/\∃a xs,v=.ref a/\jJ K H a xs)
theorem Al.ty {v:V}{t:String}(s:dQ F H)(h:Al K M F H n d v)(e:JA d=Z t):OS K H v t:=by
 cases d with
 |non=>cases e;rw[h.non];exact .inl .non
 |bl b=>cases e;rw[h.bl];exact .inl<|.bl b
 |int b=>cases e;rw[h.int];exact .inl<|.int b
 |str b=>cases e;rw[h.str];exact .inl<|.str b
 |lst xs=>cases e;obtain⟨a,vs,rfl,ha,_⟩:=h.lst s;exact .inr ⟨rfl,a,vs,rfl,ha⟩
 |tup xs=>cases e;obtain⟨a,vs,rfl,ha,_⟩:=h.tup s;exact .inl<|.tup ha
 |dK ks xs=>cases e;obtain⟨a,vs,rfl,ha,_⟩:=h.dK s;exact .inl<|.dK ha
 |_=>cases e
theorem Ys:iL X (.builtin "isinstance") (λxs H Q=>∃x c t b,xs=[x,.ty c]/\OS X.K H x t/\iD X.K (.type t) (.type c)=Z b/\Q (.bl b) H):=by
 intro ce s U H xs us Q I r h;obtain⟨x,c,t,b,rfl,ty,e,q⟩:=h;rcases ty with ty|⟨rfl,a,ys,rfl,hq⟩
 ·exact YK ce s U H _ us Q I r ⟨x,c,_,b,rfl,ty,e,q⟩
 ·obtain⟨u,w',rfl,ru,wB⟩:=ô r;cases(show w'=b8.type c from wB);cases(show u=b8.ref a from ru);obtain⟨dP,rv,⟨o,n,h1,h2,_⟩,_⟩:=I.list hq;exact eU qY I.kIn ⟨o,h1,h2⟩ e (λz=>nomatch z) λtk=>⟨.bl b,H,I.tok tk,rfl,q⟩
noncomputable def Hj (t c:String):Bool:=t==c || (t == "bool" && c == "int")
theorem zsk:∀t∈(["NoneType","bool","int","str","list","tuple","dict"]:List String),∀c∈(["bool","int","str","list","tuple","dict"]:List String),iD K (.type t) (.type c)=Z (Hj t c):=by intro t ht c hc;simp only[cu,dZ,or_false]at ht hc;rcases ht with rfl|rfl|rfl|rfl|rfl|rfl|rfl<;>rcases hc with rfl|rfl|rfl|rfl|rfl|rfl<;>rfl
theorem zsl {t:String}(e:JA d=Z t):t∈(["NoneType","bool","int","str","list","tuple","dict"]:List String):=by cases d<;>simp[JA]at e<;>subst e<;>decide
variable {p2:qP}
def tT (c:String)(d:D):Option D:=(JA d).bind λt=>Z<|.bl<|Hj t c
theorem Iy {c:String}(hc:c∈(["bool","int","str","list","tuple","dict"]:List String))(hm:X.mg "isinstance"=C)(yB:X.mg c=C)(hb:d5 c=Z (.type c))(he:XE X M G n e f)(hg:Gl X "isinstance":=by rfl)(wO:Gl X c:=by rfl)(CC:Str.ofString c≠"__name__":=by decide)(hd2:(Str.ofString c==("__debug__":Str))=Ã:=by decide)
  (G7:dE [e,.Name c p2] X.env=(Ã,fB e X.env)::dE [.Name c p2] X.env:=by rfl) (tG:dE [.Name c p2] X.env=(Ã,fB (.Name c p2) X.env)::dE [] X.env:=by rfl) (mh:(kh pos<|dE [.Name c p2] X.env).any (·.1)=Ã:=by rfl) :
  XE X M G k (.Call (.Name "isinstance" pp) [e,.Name c p2] [] pos) (e1 (tT c) f):=by
 obtain⟨t,pt,qt⟩:=he;refine⟨_,JH Ys hg hm jm (yw pt (yw (Z3 (v:=.ty c) wO yB hb rfl CC hd2) v5 tG) G7) (by decide) (by decide) G7 mh,λF0 B F H Y U d Q rs e w=>?_⟩;obtain⟨d1,h1,h2⟩:=cL e;obtain⟨ty,h3,h4⟩:=cL h2;cases h4;exact qt F0 B F H Y U d1 _ rs h1 λv F' H' x l=>⟨v,c,ty,_,rfl,l.ty x.fh h3,zsk _ (zsl h3) _ hc,w _ F' H' x<|Al.of<|.bl _⟩
def vM (K:b9):Sp:=λvs H Q _=>∃(a:cn) (ns:List Int),vs=[.ref a]/\jJ K H a (ns.map V.int)/\ns.length<=63/\∀H',Q (.bl Â) H'
theorem ä.ints {K:b9}{M:Nat->cn}{F:Hp}:∀ns:List Int,ä K M F (ns.map D.int) (ns.map V.int)
 |[]=>.nil
 |n::ns=>.cons (.int n)<|ä.ints ns
theorem Ŭ {w:dW}{f:cn}{fd:cD}{m:List D->Option D}(Fn:dO P w K mg base gk k f fd ps<|jR K M [0] 0 m)
  (h:∀ns:List Int,ns.length<=63->m [.lst<|ns.map .int]=Z (.bl Â)):dO P w K mg base gk k f fd ps (vM K):=by
 have to:∀vs H Q E,vM K vs H Q E->jR K M [0] 0 m vs H Q E:=by
  rintro vs H Q E ⟨a,ns,rfl,hS,hl,q⟩;refine⟨H,[.lst<|ns.map .int],.bl Â,.refl _,.cons (Dt.lst hS<|ä.ints ns) .nil,h ns hl,λv F' H' fp x o nd hf=>?_⟩;have hv:v=.bl Â:=by have o:Dt K M F' (.bl Â) v/\fp=[]:=o;cases o.1;rfl
  subst hv;exact q H'
 exact⟨λvs H Q E z=>Fn.len vs H Q E<|to vs H Q E z,λA outer s H args us vs Q E hr e0 hb hv z=>Fn.run A outer s H args us vs Q E hr e0 hb hv<|to vs H Q E z⟩
theorem Qb {g:D->Env->Option Env}{b:SF}(I:List D->Env->Prop)(all:List D)(st:∀pre d post Y,all=pre++d::post->I pre Y->∃ρ1 ρ2,g d Y=Z ρ1/\(b ρ1=Z (.nx ρ2)\/b ρ1=Z (.ct ρ2))/\I (pre++[d]) ρ2):∀(O pre:List D) (Y:Env),all=pre++O->I pre Y ->
  ∃ρ',jV g b O Y=Z (.nx ρ')/\I all ρ'
 |[],pre,Y,e,h=>⟨Y,rfl,by rw[e,dH];exact h⟩
 |d::O,pre,Y,e,h=>by obtain⟨ρ1,ρ2,h1,h2,h3⟩:=st pre d O Y e h;obtain⟨ρ',h4,h5⟩:=Qb I all st O (pre++[d]) ρ2 (by rw[e];simp) h3;refine⟨ρ',?_,h5⟩;show(g d Y).bind _=_;rw[h1];show(b ρ1).bind _=_;rcases h2 with h2|h2<;>(rw[h2];exact h4)
theorem jr {g:D->Env->Option Env}{b:SF}(I:List D->Env->Prop)(h:I [] Y)(st:∀pre d post Y,O=pre++d::post->I pre Y->∃ρ1 ρ2,g d Y=Z ρ1/\(b ρ1=Z (.nx ρ2)\/b ρ1=Z (.ct ρ2))/\I (pre++[d]) ρ2) :
  ∃ρ',jV g b O Y=Z (.nx ρ')/\I O ρ':=Qb I O st O [] Y rfl h
theorem Nj {all pre post:List α}{d:α}(h:all=pre++d::post):all[pre.length]?=Z d:=by subst h;simp
theorem Qc {α K':Type}{g:D->Env->Option Env}{b:SF}(enc:α->D)(st:K'->Env)(f:K'->α->K')(P:K'->Prop):∀(xs:List α) (s:K'),P s ->
  (∀s x,x∈xs->P s->∃ρ1,g (enc x) (st s)=Z ρ1/\(b ρ1=Z (.nx<|st<|f s x)\/b ρ1=Z (.ct<|st<|f s x))/\P (f s x))->jV g b (xs.map enc) (st s)=Z (.nx<|st<|xs.foldl f s)/\P (xs.foldl f s)
 |[],s,hp,_=>⟨rfl,hp⟩
 |x::xs,s,hp,h=>by obtain⟨ρ1,h1,h2,h3⟩:=h s x b7 hp;have ih:=Qc enc st f P xs (f s x) h3 λs y hy=>h s y<|cj _ hy;refine⟨?_,ih.2⟩;show(g (enc x)<|st s).bind _=_;rw[h1];show(b ρ1).bind _=_;rcases h2 with h2|h2<;>(rw[h2];exact ih.1)
theorem jd {K':Type}{c:BF}{b:SF}(st:K'->Env)(t:K'->Bool)(f:K'->K')(μ:K'->Nat)(P:K'->Prop)(hc:∀s,P s->c (st s)=Z (t s))(hb:∀s,P s->t s=Â->(b (st s)=Z (.nx<|st<|f s)\/b (st s)=Z (.ct<|st<|f s))/\P (f s)/\μ (f s) < μ s) :
  ∀(n:Nat) (s:K'),P s->μ s<n->∃s',lE c b n (st s)=Z (.nx<|st s')/\P s'/\t s'=Ã/\∃j,s'=Nat.repeat f j s
 |0,s,_,h=>absurd h (by lia)
 |n+1,s,hp,h=>by
  cases ht:t s with
  |false=>refine⟨s,?_,hp,ht,0,rfl⟩;show(c<|st s).bind _=_;rw[hc s hp,ht];rfl
  |true=>
   obtain⟨h1,h2,h3⟩:=hb s hp ht;obtain⟨s',h4,h5,h6,j,h7⟩:=jd st t f μ P hc hb n (f s) h2 (by lia);refine⟨s',?_,h5,h6,j+1,?_⟩
   ·show(c<|st s).bind _=_;rw[hc s hp,ht];show(b<|st s).bind _=_;rcases h1 with h1|h1<;>(rw[h1];exact h4)
   ·rw[h7];clear h4 h5 h6 h7;induction j with
    |zero=>rfl
    |succ j ih=>show f (Nat.repeat f j<|f s)=f (Nat.repeat f (j+1) s);rw[ih]
theorem Pv {c:BF}{b:SF}(I:Env->Prop)(μ:Env->Nat)(st:∀Y,I Y->∃t,c Y=Z t/\(t=Â->∃ρ',(b Y=Z (.nx ρ')\/b Y=Z (.ct ρ'))/\I ρ'/\μ ρ' < μ Y)) :
  ∀(n:Nat) (Y:Env),I Y->μ Y<n->∃ρ',lE c b n Y=Z (.nx ρ')/\I ρ'/\c ρ'=Z Ã
 |0,_,_,h=>absurd h (by lia)
 |n+1,Y,hI,h=>by
  obtain⟨t,h1,h2⟩:=st Y hI;cases t with
  |false=>exact⟨Y,by show(c Y).bind _=_;rw[h1];rfl,hI,h1⟩
  |true=>obtain⟨ρ',h3,h4,h5⟩:=h2 rfl;obtain⟨ρ2,h6,h7,h8⟩:=Pv I μ st n ρ' h4 (by lia);refine⟨ρ2,?_,h7,h8⟩;show(c Y).bind _=_;rw[h1];show(b Y).bind _=_;rcases h3 with h3|h3<;>(rw[h3];exact h6)
theorem MU (h:n<2 ^ k)(hk:k<=9000):n<p6:=dg h (gu (by decide) hk)
theorem MV (h:n<1048576):n<p6:=MU (k:=20) h (by decide)
theorem Ro {i j:Int}(h:j≠0):iY (.int i) (.int j)=Z (.int<|i.fmod j):=by
 unfold iY;by_cases h0:0<j
 ·simp[h0,uW i (by lia:0<=j)]
 ·simp[h0,h]
theorem Qv {i j:Int}(h:j≠0)(hz:Sz 9000 j):jC (.int i) (.int j)=Z (.int<|i.fdiv j):=by
 unfold jC;by_cases h0:0<j/\j<4611686018427387904
 ·simp[h0,ny i (by lia:0<=j)]
 ·have hz:j.natAbs<Kb:=hz;simp[h0,h,hz]
theorem jt {i j:Int}(h1:0<j)(h2:j<4611686018427387904):jC (.int i) (.int j)=Z (.int<|i/j):=by unfold jC;simp[h1,h2]
theorem vd {i j:Int}(h:0<j):iY (.int i) (.int j)=Z (.int<|i%j):=by unfold iY;simp[h]
theorem ua {i j:Int}(h1:-18446744073709551616<j)(h2:j<18446744073709551616):e7 (.int i) (.int j)=Z (.int<|i*j):=by simp[e7,Bi,rL,h1,h2]
theorem u0 {i j:Int}(h1:-18446744073709551616<i)(h2:i<18446744073709551616):e7 (.int i) (.int j)=Z (.int<|i*j):=by simp[e7,Bi,rL,h1,h2]
theorem Č {i j:Int}(h1:0<=j)(h2:j<=1000000)(h3:i.natAbs<18446744073709551616):BZ (.int i) (.int j)=Z (.int<|i ^ j.toNat):=by simp[BZ,Bi,vK,h1,h2,h3]
theorem Ė {i j:Int}(h1:0<=j)(h2:j<=1000000)(h3:i.natAbs<18446744073709551616):Dp (.int i) (.int j)=Z (.int<|i*2 ^ j.toNat):=by simp[Dp,Bi,vK,h1,h2,h3]
theorem ċ {i j:Int}(h1:0<=j):AL (.int i) (.int j)=Z (.int<|i/2 ^ j.toNat):=by simp[AL,Bi,h1]
theorem ĕ (i j:Int):d9 (.int i) (.int j)=Z (.int<|i+j):=rfl
theorem x6 {xs ys:List D}(h:xs.length+ys.length<=16777216):d9 (.lst xs) (.lst ys)=Z (.lst<|xs++ys):=by simp[d9,h]
theorem ym (h:x.length+y.length<=16777216):d9 (.str x) (.str y)=Z (.str<|x++y):=by simp[d9,h]
theorem Ĕ (i j:Int):uU (.int i) (.int j)=Z (.int<|i-j):=rfl
theorem ub (i j:Int):tX (.int i) (.int j)=Z (.bl<|decide<|i<j):=rfl
theorem ď (i j:Int):Ad (.int i) (.int j)=Z (.bl<|decide<|i<=j):=rfl
theorem vo (i j:Int):Be (.int i) (.int j)=Z (.bl<|decide<|j<i):=rfl
theorem Ď (i j:Int):GF (.int i) (.int j)=Z (.bl<|decide<|j<=i):=rfl
theorem ē (i:Int):vZ (.int i)=Z (.int<|-i):=rfl
theorem yk (O:List D):fC [.lst O]=Z (.int O.length):=rfl
theorem Ē (O:List D):fC [.tup O]=Z (.int O.length):=rfl
theorem Ċ (i:Int):Bv [.int i]=Z (.int<|if i<0 then -i else i):=rfl
theorem Ę (i j:Int):Af [.int i,.int j]=Z (.int<|if j > i then j else i):=rfl
theorem ė (i j:Int):Hr [.int i,.int j]=Z (.int<|if j<i then j else i):=rfl
theorem ģ (neg:Bool)(d:D):pN neg d .non=Z (.bl<|if neg then !d.isN else d.isN):=by cases d<;>rfl
theorem Ģ (neg b:Bool)(d:D):pN neg d (.bl b)=Z (.bl<|if neg then !d.isB b else d.isB b):=by cases d<;>rfl
theorem ă (b:Bool):CT (.bl b)=Z b:=rfl
theorem je (O:List D):DW (.lst O)=Z O:=rfl
theorem wq (O:List D)(l h:Option Int):gG (.lst O) l h=Z (.lst<|â O l h):=rfl
theorem vq {j:Int}(h1:-4611686018427387904<=j)(h2:j<4611686018427387904):pA [.int j]=Z (l7 0 j.toNat):=by simp[pA,h1,h2]
theorem zsm (enc:α->D){xs:List α}{i:Int}{x:α}(hi:i=(j:Int)\/i=(j:Int)-xs.length)(h:xs[j]?=Z x):atI (xs.map enc) i=Z (enc x):=by
 have hj:=(cU.mp h).1;unfold L2.atI L2.ò;rw[ck];rcases hi with rfl|rfl
 ·rw[if_pos<|by lia,if_pos<|by lia];simp[h]
 ·rw[if_neg<|by lia,if_pos<|by lia];have:((j:Int)-xs.length+xs.length).toNat=j:=by lia
  simp[this,h]
theorem vh (xs:List D)(k:Nat):â xs (Z (k:Int)) C=xs.drop k:=by
 unfold â;rw[HT.sIx_none,HT.sIx_nat];rcases xU k xs.length with h|h
 ·rw[uB h,iT<|by rw[eM];lia]
 ·rw[tw h,kY<|cK _,kY h];simp
theorem JC (xs:List D)(k l:Nat):â xs (Z (k:Int)) (Z (l:Int))=(xs.drop k).take (l-k):=by
 unfold â;rw[HT.sIx_nat,HT.sIx_nat];rcases xU k xs.length with h|h
 ·rw[uB h];rcases xU l xs.length with g|g
  ·rw[uB g]
  ·rw[tw g,iT<|by rw[eM];lia,iT<|by rw[eM];lia]
 ·rw[tw h,kY<|cK _,kY h];simp
theorem Zj {i j:Int}(h:Sz n i)(h':Sz m j)(hn:n<=100000)(hm:m<=100000):rL i j:=.inr<|.inr ⟨h.mono hn,h'.mono hm⟩
theorem xo {i j:Int}(h:Sz n i)(h':Sz m j)(hn:n<=100000)(hm:m<=100000):e7 (.int i) (.int j)=Z (.int<|i*j):=by have:=Zj h h' hn hm;simp[e7,Bi,this]
theorem Qd {α:Type}{g:D->Env->Option Env}{p:BF}{f:EF}{ρ0:Env}(enc:α->D)(q:α->Bool)(h:α->D):∀(xs:List α),(∀x∈xs,∃ρ1,g (enc x) ρ0=Z ρ1/\p ρ1=Z (q x)/\(q x=Â->f ρ1=Z (h x)))->vG g p f ρ0 (xs.map enc)=Z ((xs.filter q).map h)
 |[],_=>rfl
 |x::xs,H=>by
  obtain⟨ρ1,h1,h2,h3⟩:=H x b7;have ih:=Qd enc q h xs λy hy=>H y<|cj _ hy;show(g (enc x) ρ0).bind _=_;rw[h1];show(p ρ1).bind _=_;rw[h2];cases hq:q x with
  |false=>rw[d8,if_neg cJ,wH<|by rw[hq];exact cJ];exact ih
  |true=>rw[d8,if_pos rfl,h3 hq,wI hq];show(vG g p f ρ0<|xs.map enc).bind _=_;rw[ih];rfl
theorem Mz (lo:Int)(n:Nat):l7 lo n=(cE n).map λ(t:Nat)=>D.int (lo+(t:Int)):=rfl
section
open PySem PySem.Spec L2
structure pv (α:Type)[DecidableEq α] where
 enc:α->D
 py:α->df
 dep:Nat
 is:∀x,(enc x).py=Z (py x)
 lay:∀x,(py x).canLay0=Â
 dp:∀x,(py x).depth<=dep
 eqv:∀x y,df.eqv (py x) (py y)=decide (x=y)
section
variable {γ δ ε:Type}[DecidableEq α][DecidableEq β][DecidableEq γ][DecidableEq δ][DecidableEq ε]
theorem pv.eq (E:pv α)(h:E.dep<=60)(x y:α):gb neg (E.enc x) (E.enc y)=Z (.bl<|if neg then !decide (x=y)else decide (x=y)):=by
 have h1:pP (E.py x)=Â:=by unfold pP;rw[E.lay x,decide_eq_true<|eD (E.dp x) h];rfl
 have h2:pP (E.py y)=Â:=by unfold pP;rw[E.lay y,decide_eq_true<|eD (E.dp y) h];rfl
 unfold gb;rw[E.is x,E.is y];simp only[d8];rw[if_pos ⟨h1,h2⟩,E.eqv]
noncomputable def Ei:pv Int:=⟨.int,.int,0,λ_=>by simp[D.py],λ_=>rfl,λ_=>by simp[df.depth],λx y=>by show(x==y)=_;by_cases h:x=y<;>simp[h]⟩
noncomputable def Eb:pv Bool:=⟨.bl,.bool,0,λ_=>by simp[D.py],λ_=>rfl,λ_=>by simp[df.depth],λx y=>by cases x<;>cases y<;>rfl⟩
theorem MW (E:pv α):∀xs:List α,D.pys (xs.map E.enc)=Z (xs.map E.py)
 |[]=>by simp[D.pys]
 |x::xs=>by simp[D.pys,E.is x,MW E xs]
theorem Pw (E:pv α):∀xs:List α,df.canLayAll0 (xs.map E.py)=Â
 |[]=>by simp[df.canLayAll0]
 |x::xs=>by simp[df.canLayAll0,E.lay x,Pw E xs]
theorem Px (E:pv α):∀xs:List α,df.depthAll (xs.map E.py)<=E.dep
 |[]=>by simp[df.depthAll]
 |x::xs=>by have:=Px E xs;have:=E.dp x;simp only[cI,df.depthAll];lia
theorem Py (E:pv α):∀xs ys:List α,df.eqvAll (xs.map E.py) (ys.map E.py)=decide (xs=ys)
 |[],[]=>by simp[df.eqvAll]
 |[],_::_=>by simp[df.eqvAll]
 |_::_,[]=>by simp[df.eqvAll]
 |x::xs,y::ys=>by simp only[cI,df.eqvAll,E.eqv,Py E xs ys];by_cases h:x=y<;>by_cases g:xs=ys<;>simp[h,g]
noncomputable def El (E:pv α):pv (List α):=⟨λxs=>.lst<|xs.map E.enc,λxs=>.list<|xs.map E.py,E.dep+1,λxs=>by simp[D.py,MW],λxs=>by simp[df.canLay0,Pw],λxs=>by have:=Px E xs;simp only[df.depth];lia,λxs ys=>by simp only[df.eqv,Py]⟩
noncomputable def E2 (A:pv α)(B:pv β):pv (α×β):=⟨λp=>.tup [A.enc p.1,B.enc p.2],λp=>.tuple [A.py p.1,B.py p.2],max A.dep B.dep+1,λp=>by simp[D.py,D.pys,A.is,B.is],λp=>by simp[df.canLay0,df.canLayAll0,A.lay,B.lay],
 λp=>by have:=A.dp p.1;have:=B.dp p.2;simp only[df.depth,df.depthAll];lia,λp q=>by simp only[df.eqv,df.eqvAll,A.eqv,B.eqv];obtain⟨a,b⟩:=p;obtain⟨c,d⟩:=q;by_cases h:a=c<;>by_cases g:b=d<;>simp[h,g]⟩
end
theorem uc (a b:Int):gb neg (.int a) (.int b)=Z (.bl<|if neg then !decide (a=b)else decide (a=b)):=Ei.eq (by decide) a b
theorem č (a b:Bool):gb neg (.bl a) (.bl b)=Z (.bl<|if neg then !decide (a=b)else decide (a=b)):=Eb.eq (by decide) a b
end
theorem IntsAre.of {ns:List Int}{us:List b8}(h:dR (ns.map V.int) us):IntsAre us ns:=Xn h
theorem ud (hc:X.calm=Â):iL X (.builtin "sum") (λxs H Q=>∃(a:cn) (ns:List Int),xs=[.ref a]/\jJ X.K H a (ns.map V.int)/\Q (.int ns.sum) H):=by
 intro ce s U H xs us Q I r h;obtain⟨a,ns,rfl,hq,q⟩:=h;obtain⟨u,rfl,ru⟩:=r.one;cases(show u=b8.ref a from ru);obtain⟨dP,rv,pl,hz⟩:=I.list hq;have hi:=IntsAre.of rv;obtain⟨ys,hx⟩:=hi.allInts.items;have C0:s.heap.IsList a (intItems ys):=hx▸pl.isList;refine sum_intListG (I.ok.hd hc) C0 λh' tk t' hk=>?_;have e1:ns=ys.toList.map (·.1):=by rw[←nums_intItems,←hx];exact(show numsOf dP.toArray.toList=ns from hi.numsOf).symm
 have S:preSum (numAt ys) ys.size=ns.sum:=by rw[preSum_eq,iT<|by simp,e1]
 rw[S];exact⟨.int ns.sum,H,I.kept (t':=tk) hk,⟨_,rfl⟩,q⟩
theorem Yt (hc:X.calm=Â):iL X (.builtin "max") (λxs H Q=>∃(a:cn) (ns:List Int),xs=[.ref a]/\jJ X.K H a (ns.map V.int)/\ns≠[]/\∀U',U'∈ns->(∀z∈ns,z<=U')->Q (.int U') H):=by
 intro ce s U H xs us Q I r h;obtain⟨a,ns,rfl,hq,pU,q⟩:=h;obtain⟨u,rfl,ru⟩:=r.one;cases(show u=b8.ref a from ru);obtain⟨dP,rv,pl,hz⟩:=I.list hq;have hi:=IntsAre.of rv;obtain⟨ys,e⟩:=hi.allInts.items;have oA:ns=ys.toList.map (·.1):=by rw[←hi.numsOf,←nums_intItems,←e]
 have hsz:0<ys.size:=by have h3:0<ns.length:=mF.mpr pU;rw[oA,ck,fQ]at h3;exact h3
 have C0:s.heap.IsList a (intItems ys):=e▸pl.isList;refine max_intList (I.ok.hd hc) C0 hsz λv h' tk hv hk=>?_;obtain⟨t,rfl⟩:=intItems_at hv;obtain⟨h1,h2⟩:=argBest_gt (numAt ys)<|ys.size-1;refine⟨.int<|numAt ys<|argBest (λi j=>decide<|numAt ys i > numAt ys j)<|ys.size-1,H,I.kept (t':=tk) hk,⟨_,rfl⟩,q _ ?_ λz hz=>?_⟩
 ·rw[oA,numAt_eq];exact getD_mem (by rw[ck,fQ];lia)
 ·rw[oA]at hz;obtain⟨j,hj,rfl⟩:=mem_getD hz;rw[ck,fQ]at hj;rw[←numAt_eq];exact h2 j (by lia)
theorem Qe:∀{bs:List Bool} {us:List b8},dR (bs.map V.bl) us->us=bs.map b8.bool
 |[],_,.nil=>rfl
 |b::bs,_,.cons r t=>by rw[Qe t];cases(show _=b8.bool b from r);rfl
theorem vi (hc:X.calm=Â):iL X (.builtin "all") (λxs H Q=>∃(a:cn) (bs:List Bool),xs=[.ref a]/\jJ X.K H a (bs.map V.bl)/\Q (.bl<|bs.all id) H):=by
 intro ce s U H xs us Q I r h;obtain⟨a,bs,rfl,hq,q⟩:=h;obtain⟨u,rfl,ru⟩:=r.one;cases(show u=b8.ref a from ru);obtain⟨dP,rv,pl,hz⟩:=I.list hq;have hb:=Qe rv;subst hb;have hl:=pl.isList;have qH:a<s.heap.objs.size:=by obtain⟨_,e,_⟩:=hl;exact cS e
 refine PySem.call_all_walk<|uI hl ?_;refine⟨s.heap.objs.size,[s.heap.objs.size,a],[s.heap.objs.size],(bs.map b8.bool).toArray.size,_,_,λi=>(bs[i]?).getD Â,rfl,Walks.list (A:=X.A.in1) (I.ok.hd hc) _ a (dG qH) (bs.map b8.bool).toArray,
  ⟨⟨_,cV _ rfl,rfl,rfl⟩,hl.push _⟩,λi v s' Q' E' hP hQ=>?_,λh' tk hk=>?_⟩
 ·have hP:(bs.map b8.bool)[i]?=Z v:=by simpa using hP
  rw[cP]at hP;obtain⟨b,hb,rfl⟩:=fO.mp hP;simp only[hb,rV]at hQ;exact iH hQ
 ·have e:((cE (bs.map b8.bool).toArray.size).all λi=>(bs[i]?).getD Â)=bs.all id:=by rw[cQ,ck];exact PyProof.Rows.LSm.range_all bs
  rw[e];refine⟨.bl<|bs.all id,H,I.kept (t':=tk) λb o KP=>hk b o (λhm=>?_) (cv _ KP),rfl,q⟩;rw[cw.mp hm]at KP;exact iC _<|cS KP
theorem WH:iL X (.builtin "sorted") (λxs H Q=>∃(a:cn) (ns:List Int),xs=[.ref a]/\jJ X.K H a (ns.map V.int)/\ns.length<64/\∀wQ:List Int,wQ.Perm ns->wQ.Pairwise (·<=·)->∀p,H p=C->Q (.ref p) (gK H p<|.lst<|wQ.map V.int)):=by
 intro ce s U H xs us Q I r h;obtain⟨a,ns,rfl,hq,h64,q⟩:=h;obtain⟨u,rfl,ru⟩:=r.one;cases(show u=b8.ref a from ru);obtain⟨dP,rv,pl,hz⟩:=I.list hq;have hi:=IntsAre.of rv;have iI:dP.length=ns.length:=by rw[←rv.length,ck]
 refine sorted_ints pl.isList hi (by lia) λout wQ a1 a2 a3=>?_;obtain⟨e,he⟩:=sortedAll_at s.heap dP out;have BC:wQ.length<=sizeLine:=by rw[a2.length_eq,←ck (f:=V.int)];exact hz
 refine⟨.ref _,_,I.laid (a:=s.heap.objs.size+1) (o:=.lst<|wQ.map V.int) (t':=s.toks) (λb u=>sortedAll_old) (oh _) ?_,rfl,q wQ a2 a3 _<|I.hok.fresh<|oh _⟩;exact⟨by rw[ck];exact BC,out.toList,e,Mn a1,by simpa[seqObj]using he⟩
def mT:List D->Option (List Int)
 |[]=>Z []
 |.int i::O=>(mT O).bind λns=>Z (i::ns)
 |_=>C
theorem Pz:∀{O:List D} {ns:List Int},mT O=Z ns->O=ns.map .int
 |[],_,e=>by cases e;rfl
 |d::O,ns,e=>by
  cases d with
  |int i=>obtain⟨G,h1,h2⟩:=cL<|show(mT O).bind _=_ from e;cases h2;rw[Pz h1];rfl
  |_=>cases e
theorem ju:∀ns:List Int,mT (ns.map .int)=Z ns
 |[]=>rfl
 |n::ns=>by show(mT<|ns.map .int).bind _=_;rw[ju ns];rfl
theorem Pr.intV {F W':Hp}:∀{ns:List Int} {vs:List V},Pr (Al K M F W' n) (ns.map .int) vs->vs=ns.map V.int
 |[],_,.nil=>rfl
 |i::ns,_,.cons h t=>by rw[Pr.intV t,h.int];rfl
def pI:List D->Option (List Bool)
 |[]=>Z []
 |.bl i::O=>(pI O).bind λns=>Z (i::ns)
 |_=>C
theorem Pj:∀{O:List D} {ns:List Bool},pI O=Z ns->O=ns.map .bl
 |[],_,e=>by cases e;rfl
 |d::O,ns,e=>by
  cases d with
  |bl i=>obtain⟨G,h1,h2⟩:=cL<|show(pI O).bind _=_ from e;cases h2;rw[Pj h1];rfl
  |_=>cases e
theorem Pr.blV {F W':Hp}:∀{ns:List Bool} {vs:List V},Pr (Al K M F W' n) (ns.map .bl) vs->vs=ns.map V.bl
 |[],_,.nil=>rfl
 |i::ns,_,.cons h t=>by rw[Pr.blV t,h.bl];rfl
noncomputable def Hq:List Int->Option Int
 |[]=>C
 |x::xs=>Z<|xs.foldl max x
theorem Qf:∀(xs:List Int) (x:Int),(xs.foldl max x=x\/xs.foldl max x∈xs)/\x<=xs.foldl max x/\∀z∈xs,z<=xs.foldl max x
 |[],x=>⟨.inl rfl,jP _,λz h=>by cases h⟩
 |y::xs,x=>by
  obtain⟨h1,h2,h3⟩:=Qf xs<|max x y;refine⟨?_,by show x<=xs.foldl max (max x y);lia,λz hz=>?_⟩
  ·rcases h1 with h1|h1
   ·show xs.foldl max (max x y)=x\/xs.foldl max (max x y)∈y::xs;rw[h1];rcases Int.le_total x y with h|h
    ·rw[Int.max_eq_right h];exact .inr b7
    ·rw[Int.max_eq_left h];exact .inl rfl
   ·exact .inr<|cj _ h1
  ·rcases cu.mp hz with rfl|hz
   ·show z<=xs.foldl max (max x z);lia
   ·exact h3 z hz
theorem Qw {ns:List Int}{U':Int}(h:Hq ns=Z U'):U'∈ns/\∀z∈ns,z<=U':=by
 cases ns with
 |nil=>cases h
 |cons x xs=>
  cases h;obtain⟨h1,h2,h3⟩:=Qf xs x;refine⟨?_,λz hz=>?_⟩
  ·rcases h1 with h1|h1
   ·rw[h1];exact b7
   ·exact cj _ h1
  ·rcases cu.mp hz with rfl|hz
   ·exact h2
   ·exact h3 z hz
def wF:List D->Option D
 |[.lst O]=>(mT O).bind λns=>Z<|.int ns.sum
 |_=>C
def E4:List D->Option D
 |[.lst O]=>(mT O).bind λns=>(Hq ns).bind λU'=>Z<|.int U'
 |_=>C
def lB:List D->Option D
 |[.lst O]=>(pI O).bind λbs=>Z<|.bl<|bs.all id
 |_=>C
def ø (x:Int):List Int->List Int
 |[]=>[x]
 |y::ys=>if x<=y then x::y::ys else y::ø x ys
def vL:List Int->List Int
 |[]=>[]
 |x::xs=>ø x<|vL xs
theorem Mq (x:Int):∀ys,(ø x ys).Perm (x::ys)
 |[]=>.refl _
 |y::ys=>by
  unfold ø;by_cases h:x<=y
  ·rw[if_pos h]
  ·rw[if_neg h];exact((Mq x ys).cons y).trans<|.swap x y ys
theorem qm:∀xs,(vL xs).Perm xs
 |[]=>.refl _
 |x::xs=>(Mq x _).trans<|(qm xs).cons x
theorem Pk (x:Int):∀{ys:List Int},ys.Pairwise (·<=·)->(ø x ys).Pairwise (·<=·)
 |[],_=>List.pairwise_singleton _ _
 |y::ys,h=>by
  obtain⟨h1,h2⟩:=kI.mp h;unfold ø;by_cases hx:x<=y
  ·rw[if_pos hx];exact kI.mpr ⟨λz hz=>by
    rcases cu.mp hz with rfl|hz
    ·exact hx
    ·exact xL hx (h1 z hz),h⟩
  ·rw[if_neg hx];refine kI.mpr ⟨λz hz=>?_,Pk x h2⟩;have:=(Mq x ys).mem_iff.mp hz;rcases cu.mp this with rfl|hz
   ·lia
   ·exact h1 z hz
theorem Pb:∀xs,(vL xs).Pairwise (·<=·)
 |[]=>og.nil
 |x::xs=>Pk x<|Pb xs
theorem Pl:∀{xs ys:List Int},xs.Perm ys->xs.Pairwise (·<=·)->ys.Pairwise (·<=·)->xs=ys
 |[],ys,p,_,_=>(p.nil_eq).symm▸rfl
 |x::xs,[],p,_,_=>absurd p.symm.nil_eq (by simp)
 |x::xs,y::ys,p,hx,hy=>by
  obtain⟨h1,h2⟩:=kI.mp hx;obtain⟨h3,h4⟩:=kI.mp hy;have e:x=y:=by
   have a:=p.mem_iff.mp (b7:x∈x::xs);have b:=p.mem_iff.mpr (b7:y∈y::ys);have a':y<=x:=by
    rcases cu.mp a with rfl|a
    ·exact jP _
    ·exact h3 x a
   have b':x<=y:=by
    rcases cu.mp b with rfl|b
    ·exact jP _
    ·exact h1 y b
   lia
  subst e;rw[Pl ((List.perm_cons x).mp p) h2 h4]
def B6:List D->Option D
 |[.lst O]=>(mT O).bind λns=>if ns.length<64 then Z (.lst<|(vL ns).map .int)else C
 |_=>C
theorem MA {vs:List V}{ns:List Int}(s:dQ F H)(l:pH K M F H [n] [.lst O] vs)(e:mT O=Z ns):∃a,vs=[.ref a]/\jJ K H a (ns.map V.int):=by
 cases l with
 |cons h t=>cases t;obtain⟨a,us,rfl,ha,hp⟩:=h.lst s;have:=Pz e;subst this;have:=hp.intV;subst this;exact⟨a,rfl,ha⟩
theorem Ij:Bs K M [n] k (λxs H Q=>∃(a:cn) (ns:List Int),xs=[.ref a]/\jJ K H a (ns.map V.int)/\Q (.int ns.sum) H) wF:=by
 intro F H vs O d Q s l e w
 match O,l,e with
 |[.lst xs],l,e=>obtain⟨ns,h1,h2⟩:=cL<|show(mT xs).bind _=_ from e;cases h2;obtain⟨a,rfl,ha⟩:=MA s l h1;exact⟨a,ns,rfl,ha,w _ F H (.refl s)<|Al.of<|.int _⟩
theorem zsn:Bs K M [n] k (λxs H Q=>∃(a:cn) (ns:List Int),xs=[.ref a]/\jJ K H a (ns.map V.int)/\ns≠[]/\∀U',U'∈ns->(∀z∈ns,z<=U')->Q (.int U') H) E4:=by
 intro F H vs O d Q s l e w
 match O,l,e with
 |[.lst xs],l,e=>obtain⟨ns,h1,h2⟩:=cL<|show(mT xs).bind _=_ from e;obtain⟨U',h3,h4⟩:=cL h2;cases h4;obtain⟨a,rfl,ha⟩:=MA s l h1;obtain⟨m1,m2⟩:=Qw h3;refine⟨a,ns,rfl,ha,(λz=>by rw[z]at m1;cases m1),λM' h5 h6=>?_⟩;have:M'=U':=Int.le_antisymm (m2 M' h5)<|h6 U' m1;subst this;exact w _ F H (.refl s)<|Al.of<|.int _
theorem qo:Bs K M [n] k (λxs H Q=>∃(a:cn) (bs:List Bool),xs=[.ref a]/\jJ K H a (bs.map V.bl)/\Q (.bl<|bs.all id) H) lB:=by
 intro F H vs O d Q s l e w
 match O,l,e with
 |[.lst xs],l,e=>
  obtain⟨bs,h1,h2⟩:=cL<|show(pI xs).bind _=_ from e;cases h2;cases l with
  |cons h t=>cases t;obtain⟨a,us,rfl,ha,hp⟩:=h.lst s;have:=Pj h1;subst this;have:=hp.blV;subst this;exact⟨a,bs,rfl,ha,w _ F H (.refl s)<|Al.of<|.bl _⟩
theorem Pr.ofInts {F H:Hp}:∀ns:List Int,Pr (Al K M F H 0) (ns.map .int) (ns.map V.int)
 |[]=>.nil
 |n::ns=>.cons (show Dt K M F (.int n) (.int n)from .int n)<|Pr.ofInts ns
theorem Zk:Bt K M [n] 1 (λxs H Q=>∃(a:cn) (ns:List Int),xs=[.ref a]/\jJ K H a (ns.map V.int)/\ns.length<64/\∀wQ:List Int,wQ.Perm ns->wQ.Pairwise (·<=·)->∀p,H p=C->Q (.ref p) (gK H p<|.lst<|wQ.map V.int)) B6:=by
 intro F H vs O d Q s l e w
 match O,l,e with
 |[.lst xs],l,e=>
  obtain⟨ns,h1,h2⟩:=cL<|show(mT xs).bind _=_ from e;by_cases hz:ns.length<64
  ·rw[if_pos hz]at h2;cases h2;obtain⟨a,rfl,ha⟩:=MA s l h1;refine⟨a,ns,rfl,ha,hz,λwQ p1 p2=>?_⟩;have:wQ=vL ns:=Pl (p1.trans (qm ns).symm) p2<|Pb ns;subst this;exact ww s (Pr.ofInts _) w
  ·rw[if_neg hz]at h2;cases h2
def qT (H:Hp)(x:cn):Hp:=λb=>if b=x then C else H b
theorem uu (H:Hp)(x:cn):dQ (qT H x) H:=λb o h=>by
 unfold qT at h;by_cases e:b=x
 ·rw[if_pos e]at h;cases h
 ·rw[if_neg e]at h;exact h
theorem Iz (H:Hp)(x:cn):qT H x x=C:=if_pos rfl
theorem xp {x b:cn}(h:b≠x):qT H x b=H b:=if_neg h
def yL (K:b9)(M:Nat->cn)(cs:List Nat)(pm:List Nat)(mi:Nat->List D->Option D):Sp:=λvs H Q _=>∃(F:Hp) (c:Nat) (O:List D) (d:D) (x dx:cn) (us:List V),c∈cs/\vs=.ref x::us/\H x=Z (.ins (M c) dx [])/\F x=C/\dQ F H/\pH K M F (qT H x) pm O us/\mi c O=Z d /\
 ∀F' H',dQ F F'->dQ (qT H x) H'->dQ F' H'->(∀a o,qT H x a=Z o->ot o->F a=C->F' a=C)->F' x=C->Ow K M F' H' 1 d (.ref x) [x]->Q .non H'
variable {mi:Nat->List D->Option D}
theorem yL.len (h:pm.length+1=ps.length):∀vs H Q E,yL K M cs pm mi vs H Q E->vs.length=ps.length:=by rintro vs H Q E ⟨F,c,O,d,x,dx,us,_,rfl,_,_,_,l,_⟩;rw[cz,l.length,h]
def C7 (N:List Str)(b:SF)(c:Nat)(O:List D):Option D:=(b (Z (.obj c [] [])::Ñ N.tail O)).bind λo=>match o with
 |.nx Y=>(Y[0]?).join
 |_=>C
theorem Yu {w:dW}{fd:cD}{N0:Str}(Fn:ë K x qual st fa fd)(K':iO (N0::N) ps<|dS st)(BE:pm.length+1=ps.length)(EQ:G.length=N.length)(rG:pm.length<=N.length)
  (EO:∀(i n:Nat),pm[i]?=Z n->G[i]?=Z (Mo.al n)\/(n=0/\G[i]?=Z (Mo.ow 0)))
  (body:∀(x:cn) (kM:b8) (A:d4) (outer:List PySem.Env) (s:cF) (H:Hp) (E:XK),fY kk (A.deeper<|envOfC qual (dS st) s.heap.objs.size fa kM)->wM (sS gk P w K mg base (N0::N) qual (dS st) fa kM A outer s H E).nox M (.so x::G) rk (iE st) bf) :
  dO P w K mg base gk (kk+1) fa fd ps (yL K M cs pm<|C7 (N0::N) bf):=by
 refine Fn.ok K' (yL.len BE) λkM A outer s H vs Q E hr h=>?_;obtain⟨F,c,O,d,x,dx,us,hc,rfl,hx,hF,sF,l,hm,q⟩:=h;obtain⟨t,pt,qt⟩:=body x kM A outer s H E hr;refine⟨t,pt,?_⟩;obtain⟨o,h1,h2⟩:=cL hm;have CZ:O.length=us.length:=l.length';have Oq:us.length=pm.length:=l.length;have ow:Ow K M F H 1 (.obj c [] []) (.ref x) [x]:=.inr<|Cq.obj (vs:=[]) hF hx rfl .nil;have OL:dQ F (qT H x):=λb o hb=>by rw[xp<|λe=>by rw[e,hF]at hb;cases hb];exact sF _ _ hb
 refine qt F (qT H x) F H (Z (.obj c [] [])::Ñ N O) (L2.start (N0::N) (.ref x::us)) o _ ⟨.refl _,uu H x,sF,λ_ _ _ _ h=>h,[x],?_,by simp,λa z=>by rw[cw]at z;subst z;exact Iz H _⟩ h1 ?_
 ·have e:L2.start (N0::N) (.ref x::us)=Z (.ref x)::(us.map Z++cB (N.length-us.length) C):=by unfold L2.start;simp
  rw[e];unfold Ñ;rw[CZ];exact SL.so (fp:=[]) ow (SL.start _ l EO<|by lia)
 ·cases o with
  |nx Y=>
   intro U F' H' r;obtain⟨fp,sl,nd,hb⟩:=r.sl;cases sl with
   |no _=>cases h2
   |so Jr _=>cases h2;exact q F' H' r.f0 r.bh r.fh r.nf (Jr.cells x b7).1 Jr
  |rt d'=>cases h2
  |bk Y=>cases h2
  |ct Y=>cases h2
theorem Qx {f:Str}{y:V}:∀{ns:List Str} {vs:List V},ns.length=vs.length->ns.contains f=Ã->nR f y (ns.zip vs)=(ns++[f]).zip (vs++[y])
 |[],[],_,_=>rfl
 |[],_::_,h,_=>by simp at h
 |_::_,[],h,_=>by simp at h
 |n::ns,v::vs,h,hc=>by
  rw[rm,yF]at hc;have hn:¬n=f:=λe=>by rw[e]at hc;simp at hc
  have ih:=Qx (f:=f) (y:=y) (ns:=ns) (vs:=vs) (by simpa using h) hc.2;show nR f y ((n,v)::ns.zip vs)=(n,v)::(ns++[f]).zip (vs++[y]);rw[←ih];show(if n=f then _ else _)=_;rw[if_neg hn]
theorem Ow.obj_inv {c:Nat}{ns:List Str}{v:V}(h:Ow K M F H (k+1) (.obj c ns O) v fp):∃a dx vs fr,v=.ref a/\fp=a::fr/\F a=C/\H a=Z (.ins (M c) dx<|ns.zip vs)/\ns.length=vs.length/\jY (Ow K M F H k) O vs fr:=by
 rcases h with⟨h,_⟩|h
 ·cases h
 ·cases h with
  |obj h1 h2 h3 h4=>exact⟨_,_,_,_,rfl,rfl,h1,h2,h3,h4⟩
variable {V':cn}{s:Str}
section
variable {x0:cn}
def oC (cs:List Nat)(x:Str)(f:EF):SF:=λY=>(f Y).bind λd=>(L 0 Y).bind λo=>match o with
 |.obj c ns O=>if cs.contains c=Â/\ns.contains x=Ã/\ns.length<900 then Z (.nx<|Y.set 0<|Z<|.obj c (ns++[x])<|O++[d])else C
 |_=>C
theorem RS.self {F' H':Hp}(rs:RS K M F0 B (.so x0::G) F H Y U)(hd:Y[0]?=Z (Z d)):U[0]?=Z (Z<|.ref x0)/\Ow K M F H 1 d (.ref x0) [x0]/\B x0=C /\
  ∀(F' H':Hp) (d':D),dQ F F'->dQ B H'->dQ F' H'->(∀a o,B a=Z o->ot o->F0 a=C->F' a=C)->(∀a o,H a=Z o->a≠x0->H' a=Z o)->(∀a o,H a=Z o->a≠x0->ot o->F a=C->F' a=C)->Ow K M F' H' 1 d' (.ref x0) [x0]->RS K M F0 B (.so x0::G) F' H' (Y.set 0<|Z d') U:=by
 obtain⟨fp,sl,nd,hb⟩:=rs.sl;cases sl with
 |no _=>simp at hd
 |so ow t=>simp at hd;subst hd;refine⟨rfl,ow,hb _ b7,λF' H' d' s1 s2 s3 s4 k1 k2 o'=>⟨rs.f0.trans s1,s2,s3,s4,_,.so o'<|t.frame s1 λa z=>?_,nd,hb⟩⟩;obtain⟨hn,o,ho,nt⟩:=t.cells a z;have ne:a≠x0:=λe=>(dz.mp nd).1 (by rw[←e];exact z);exact⟨(k1 a o ho ne).trans ho.symm,k2 a o ho ne nt hn⟩
theorem u4 (hc:∀c∈cs,pT X.K (M c)/\gB X.K (M c) x)(he:XE X M (.so x0::G) 0 e f)(hN:X.N[0]?=Z s:=by rfl)(hv:uQ X.env.scope s:=by walk_at "v1")(hd:lH s:=by decide)
  (mR:vR s:=by decide) (hs:iF e (Z<|.Attribute (.Name s p1) x pos') pos.line X.env=pure Ã:=by rfl):XS X M (.so x0::G) rk (.Assign [.Attribute (.Name s p1) x pos'] e pos) (oC cs x f):=by
 obtain⟨t,pt,qt⟩:=he;refine⟨_,Sg (wc hN hv hd mR) pt hs,λF0 B F H Y U o E rs e z=>?_⟩;obtain⟨d,h1,h2⟩:=cL e;obtain⟨ob,h3,h4⟩:=cL h2;refine qt F0 B F H Y U d _ rs h1 λy F1 H1 x1 l=>?_;have qK:=rs.ext x1;obtain⟨hσ,ow,hB,put⟩:=qK.self (F':=F) (H':=H)<|zo h3;refine⟨_,hσ,?_⟩;cases ob with
 |obj c ns O=>
  dsimp only at h4;by_cases hz:cs.contains c=Â/\ns.contains x=Ã/\ns.length<900
  ·rw[if_pos hz]at h4;cases h4;obtain⟨a,dx,vs,fr,e1,S,hF,hH,hl,ol⟩:=ow.obj_inv;cases e1;cases S;have hh:=hc c (by simpa using hz.1);refine⟨x0,_,dx,_,rfl,hH,hh.1,hh.2,by rw[gz,←hl,jW];lia,?_⟩;rw[Qx hl hz.2.1];refine z U F1 _ (put F1 _ _ (.refl _) (λb o h=>?_) (λb o h=>?_) qK.nf (λb o h ne=>by rw[zu ne];exact h) (λb o h ne _ hn=>hn)<|.inr<|Cq.obj (vs:=vs++[y]) hF zw (by simp[hl]) ?_)
   ·rw[zu<|λe=>by rw[e,hB]at h;cases h];exact qK.bh _ _ h
   ·rw[zu<|λe=>by rw[e,hF]at h;cases h];exact qK.fh _ _ h
   ·have o1:jY (Ow X.K M F1 (gK H1 x0<|.ins (M c) dx<|(ns++[x]).zip<|vs++[y]) 0) O vs []:=ol.mono λ_ _ _ _ q=>⟨q.1,q.2⟩;have:=o1.append<|jY.cons (f:=[]) (g:=[]) (R:=Ow X.K M F1 (gK H1 x0<|.ins (M c) dx<|(ns++[x]).zip<|vs++[y]) 0) ⟨l,rfl⟩ .nil;exact this
  ·rw[if_neg hz]at h4;cases h4
 |_=>cases h4
variable {fd:cD}
theorem zso (U':Mk X.K (M c0) fa)(wZ:c0∈cs)(Fn:dO X.prog X.w X.K X.mg X.base gk kk fa fd ps<|yL X.K M cs (ns++nd) mi)(hr:fY (kk+1) X.A)(hg:Gl X x)(hm:X.mg x=Z (.ref<|M c0))
  (hb:iA X.K fd ps vU) (hd:dR ou vU) (Cz:∀F W',pH X.K M F W' nd zW ou) (ha:XA X M G (e::es) ns fs)
  (oR:lH x:=by decide) (he:SE X e es:=by rfl) (mh:rc X pos es:=by rfl) :
  XO X M G 1 (.Call (.Name x pp) (e::es) [] pos) (λY=>(fs Y).bind λO=>mi c0<|O++zW):=by
 obtain⟨t,pt,_,qt⟩:=ha;refine⟨_,zrg U' Fn hr hg hm hb hd qJ pt oR he mh,λF0 B F H Y U r Q rs e w=>?_⟩;obtain⟨O,h1,h2⟩:=cL e;refine qt F0 B F H Y U O _ rs h1 λvs F1 H1 x1 l y dy hy KZ pU=>?_;have sH:dQ H1 (qT (gK (gK H1 dy<|.own y) y<|.ins (M c0) dy []) y):=λb o h=>by have n1:b≠y:=zx h hy;rw[xp n1,zu n1,zu<|zx h KZ];exact h
 have Vp:dQ H1 (gK (gK H1 dy<|.own y) y<|.ins (M c0) dy []):=sH.trans<|uu _ _;refine⟨F1,c0,O++zW,r,y,dy,vs++ou,wZ,rfl,zw,x1.fh.free hy,x1.fh.trans Vp,pH.mono (.refl _) sH<|pH.append (Cz F1 H1) l,h2,λF' H' s1 s2 s3 s4 hn ow=>⟨rfl,?_⟩⟩;refine w _ F' H' [y] ⟨x1.ff.trans s1,(x1.hh.trans sH).trans s2,s3,λb o h t n=>s4 b o (sH _ _<|x1.hh _ _ h) t<|x1.nf b o h t n⟩ ow (by simp) λb z=>?_;rw[cw]at z;subst z;exact x1.hh.free hy
theorem Zl {sp:Sp}{O:List b8}{E:XK}{m:Str}{p:qP}{t:TA}{mc:b8}(Fn:dO X.prog X.w X.K X.mg X.base gk kk fa fd ps sp)(hr:fY kk X.A)(hg:Gl X x)(hm:X.mg x=Z (.ref V'))
  (h1:kK X.K (.ref V') "__getattribute__"=Z (Z<|.builtin "type.__getattribute__")) (h2:sD X.K V' mc=Â) (h3:sA X.K (.ref V') mc m=Z (.val<|.ref fa)) (hk:fu X.K (.ref fa)=Â) (hb:iA X.K fd ps O) (hd:dR ou O) (hx:nP gk X E) (ha:PA X (e::es) t)
  (oR:lH x:=by decide) (n8:SE X e es:=by rfl) (mh:rc X pos es:=by rfl)
  (ht:fB (.Call (.Attribute (.Name x p) m iB) (e::es) [] pos) X.env=(do
   let ov ← fB (.Name x p) X.env
   k7 iB.atName
   let(f,first) ← gC [ov] (lA ov m pl)
   nc pos f first (kh pos<|dE (e::es) X.env) (lV pos<|iG [] X.env)):=by rfl) :
  PE X (.Call (.Attribute (.Name x p) m iB) (e::es) [] pos) (Eh sp ou E t):=by
 intro ce s U H Q I h;refine k8 (pl:=pl) (vm I hg hm ?_ oR) ht;refine PySem.W.method_cls I.kIn h1<|PySem.W.cls_value I.kIn h2 h3 rfl ?_;have I1:Ê X ce U H { s with toks:=s.toks+1 }:=I.tok _;refine kj (first:=[]) (h₀:=X.base) I.ok.mod.kin hk (fU (ha pos ce _ U H _ I1 h) λus s2 ⟨vs,H2,I2,r,q2⟩=>⟨I2.kIn,?_⟩) n8 mh;exact Ir (us:=us) (vs:=vs) Fn hr hb hd hx I2 r q2
theorem pH.flat {vs:List V}(h:pH K M F W' ns O vs)(e:ns.all (· == 0)=Â):pH K M F G' ns O vs:=by
 induction h with
 |nil=>exact .nil
 |cons h t ih=>rw[f9,c9]at e;cases eq_of_beq e.1;exact .cons h<|ih e.2
def wC (cs:List Nat)(fs:Env->Option (List D))(mi:Nat->List D->Option D):SF:=λY=>(L 0 Y).bind λo=>(fs Y).bind λO=>match o with
 |.obj c [] []=>if cs.contains c=Â then(mi c O).bind λd=>Z (.nx<|Y.set 0<|Z d)else C
 |_=>C
theorem MX {m:Str}{p:qP}{mc:b8}(Fn:dO X.prog X.w X.K X.mg X.base gk kk fa fd ps<|yL X.K M cs ns mi)(hr:fY kk X.A)(hm:X.mg x=Z (.ref V'))
  (h1:kK X.K (.ref V') "__getattribute__"=Z (Z<|.builtin "type.__getattribute__")) (h2:sD X.K V' mc=Â) (h3:sA X.K (.ref V') mc m=Z (.val<|.ref fa)) (hk:fu X.K (.ref fa)=Â) (hb:iA X.K fd ps []) (hz:ns.all (· == 0)=Â) (ha:XA X M (.so x0::G) es ns fs)
  (hg:Gl X x:=by rfl) (hN:X.N[0]?=Z s:=by rfl) (hv:uQ X.env.scope s:=by walk_at "v1") (hd:lH s:=by decide)
  (mR:vR s:=by decide) (oR:lH x:=by decide) (n8:dE (.Name s p1::es) X.env=(Ã,fB (.Name s p1) X.env)::dE es X.env:=by rfl) (mh:rc X jB es:=by rfl)
  (ht:fB (.Call (.Attribute (.Name x p) m iB) (.Name s p1::es) [] jB) X.env=(do
   let ov ← fB (.Name x p) X.env
   k7 iB.atName
   let(f,first) ← gC [ov] (lA ov m pl)
   nc jB f first (kh jB<|dE (.Name s p1::es) X.env) (lV jB<|iG [] X.env)):=by rfl)
  (C5:iF (.Call (.Attribute (.Name x p) m iB) (.Name s p1::es) [] jB) C pos.line X.env=pure Ã:=by rfl) :
  XS X M (.so x0::G) rk (.Expr (.Call (.Attribute (.Name x p) m iB) (.Name s p1::es) [] jB) pos) (wC cs fs mi):=by
 obtain⟨t,pt,_,qt⟩:=ha;refine⟨_,MO (Zl (E:=E0) Fn hr hg hm h1 h2 h3 hk hb .nil qJ (yw (wc hN hv hd mR) pt n8) oR n8 mh ht) C5,λF0 B F H Y U o E rs e z=>?_⟩;obtain⟨ob,O,g1,g2,g3⟩:=fD e;obtain⟨hσ,ow,hB,put⟩:=rs.self (F':=F) (H':=H)<|zo g1;refine⟨_,hσ,qt F0 B F H Y U O _ rs g2 λvs F1 H1 x1 l=>?_⟩;have qK:=rs.ext x1;obtain⟨hσ,ow,hB,put⟩:=qK.self (F':=F) (H':=H)<|zo g1
 match ob,g3,ow with
 |.obj c [] [],g3,ow=>
  dsimp only at g3;by_cases hc:cs.contains c=Â
  ·rw[if_pos hc]at g3;obtain⟨d,g4,g5⟩:=cL g3;cases g5;obtain⟨a,dx,us,fr,e1,S,hF,hH,hl,ol⟩:=ow.obj_inv;cases e1;cases S;refine⟨F1,c,O,d,x0,dx,vs++[],by simpa using hc,rfl,hH,hF,x1.fh,?_,g4,λF' H' s1 s2 s3 s4 hn o'=>?_⟩
   ·rw[dH];exact l.flat hz
   ·have sB:dQ B (qT H1 x0):=λb o h=>by rw[xp<|λe=>by rw[e,hB]at h;cases h];exact qK.bh _ _ h
    exact z U F' H' (put F' H' d s1 (sB.trans s2) s3 (λb o h t n=>s4 b o (sB _ _ h) t<|qK.nf b o h t n) (λb o h ne=>s2 _ _<|by rw[xp ne];exact h) (λb o h ne t GZ=>s4 b o (by rw[xp ne];exact h) t GZ) o')
  ·rw[if_neg hc]at g3;cases g3
end
structure kn (K:b9)(mg:Str->Option b8)(x:Str)(st:eA)(ps:List Str)(f:cn)(fd:cD):Prop where
 fn:ë K x x st f fd
 mgx:mg x=Z (.ref f)
 bd:iA K fd ps []
structure Dm (K:b9)(V':cn)(m qual:Str)(st:eA)(ps:List Str)(f:cn)(fd:cD):Prop where
 fn:ë K m qual st f fd
 me:yM K V' m f
 bd:iA K fd ps []
structure Dc (K:b9)(mg:Str->Option b8)(x:Str)(V':cn):Prop where
 cl:pT K V'
 mgx:mg x=Z (.ref V')
 mks:sC K V'=Â
 kp:fu K (.ref V')=Â
structure Dq (K:b9)(V':cn)(m:Str)(f:cn):Prop where
 sp:kK K (.ref V') "__getattribute__"=Z (Z<|.builtin "type.__getattribute__")
 rd:sD K V' (.type "type")=Â
 fc:sA K (.ref V') (.type "type") m=Z (.val<|.ref f)
variable {an od:Option cn}{kM dV doc oc:b8}{Dg:Array (Option b8)}
theorem Rp {f:cn}{kV pm M:b8}(l:K.lookup f=Z ⟨oc,od,.func<|oI x qual (mw st) (iE st) (dS st) dV kV doc pm an kM M,Dg⟩)
  (c:tD K kM qual=Â) (k:fu K (.ref f)=Â):ë K x qual st f (oI x qual (mw st) (iE st) (dS st) dV kV doc pm an kM M):=⟨⟨oc,od,dV,kV,doc,pm,an,kM,M,Dg,rfl,l,c⟩,k⟩
variable {T:cn}{items:Array b8}
theorem zsp {fd:cD}{O:List b8}{o:iU}(hd:fd.defaults=.ref T)(ho:K.lookup T=Z o)(hs:o.data=.seq items n)
  (h:∀us:List b8,(us++O).length=ps.length->∃k,bindArgs fd ⟨us,[]⟩=seqItems? fd.defaults >>= k/\k (Z items)=pure (ps.zip<|us++O)):iA K fd ps O:=λs us X hl=>by
 obtain⟨k,h1,h2⟩:=h us hl;exact PySem.W.binds_K X hd ho hs h1 h2
theorem Rq (m:Nat){fd:cD}{O:List b8}{o:iU}(ho:K.lookup T=Z o)(h:∀us:List b8,us.length=m->∃k,bindArgs fd ⟨us,[]⟩=seqItems? fd.defaults >>= k/\k (Z items)=pure (ps.zip<|us++O))(hd:fd.defaults=.ref T:=by rfl)(hs:o.data=.seq items n:=by rfl)(hm:m+O.length=ps.length:=by rfl):iA K fd ps O :=
 zsp hd ho hs λus hl=>h us (by rw[cM]at hl;lia)
def Ki (x:Str):It:=⟨λi _=>∃c,x.cps[i]?=Z c,λi H v H'=>H'=H/\∃c,x.cps[i]?=Z c/\v=.str ⟨#[c]⟩,λi _=>x.cps[i]?=C⟩
theorem Zm {w:dW}(x:Str)(t:Tok)(it:cn):ó P w K tg (Ki x) [it] it (λi h=>h.IsStrIter it (fE x) x t i) where
 mem:=by simp
 obj:=λi h st b hb=>by
  have e:b=it:=by simpa using hb
  subst e;obtain⟨o,e,c,d⟩:=st;exact⟨o,e,λv z=>by rw[d]at z;cases z⟩
 keep:=λi h h' st k=>by obtain⟨o,e,c,d⟩:=st;exact⟨o,k it (by simp) o e,c,d⟩
 item:=by
  intro X hP hw hK hc i ce s U H E I hf st hg;subst hP hw hK;obtain⟨c,hx⟩:=hg;obtain⟨f0,f1,f2,f3,f4,f5⟩:=hf it (by simp);have fin:∀h':cO,h'.IsStrIter it (fE x) x t (i+1)->f7 it s.heap h'->cW (c8 X.prog X.w) X.A (nB tg (.ref it)<|.str ⟨#[c]⟩ s.toks) (λ_ s2=>∃v H',Ê X ce U H' s2/\Í v (.str ⟨#[c]⟩ s.toks)/\(Ki x).yld i H v H'/\s2.heap.IsStrIter it (fE x) x t (i+1)/\∀b∈[it],H' b=C) E { s with heap:=h',toks:=s.toks+1 }:=λh' Bj sb=>by have I1:Ê X ce U H { s with heap:=h',toks:=s.toks+1 }:=I.turned (t':=s.toks+1) (λb o hb e=>(sb.2 b hb).trans e) f0 f1 f3 f4 f5;obtain⟨o,e,cc,d⟩:=id Bj;refine NC (s:={ s with heap:=h',toks:=s.toks+1 }) e cc d ?_ ⟨.str ⟨#[c]⟩,H,I1,⟨_,rfl⟩,⟨rfl,c,hx,rfl⟩,Bj,λb hb=>(hf b hb).1⟩;unfold fE;split<;>decide
  cases ha:x.cps.all (·<128)with
  |true=>
   have e:fE x = "str_ascii_iterator":=by unfold fE;rw[ha];rfl
   rw[e]at st fin;exact wpAny_pyNext_ascii_item st hx λh' Bj sb=>⟨_,rfl,by rw[e];exact fin h' Bj sb⟩
  |false=>
   have e:fE x = "str_iterator":=by unfold fE;rw[ha];rfl
   rw[e]at st fin;exact wpAny_pyNext_wide_item st hx λh' Bj sb=>⟨_,rfl,by rw[e];exact fin h' Bj sb⟩
 done:=by
  intro X hP hw hK hc i ce s U H E I hf st hg;subst hP hw hK;obtain⟨f0,f1,f2,f3,f4,f5⟩:=hf it (by simp);cases ha:x.cps.all (·<128)with
  |true=>
   have e:fE x = "str_ascii_iterator":=by unfold fE;rw[ha];rfl
   rw[e]at st;exact wpAny_pyNext_ascii_end (I.ok.hd hc) st hg λh' eb=>⟨rfl,I.turned (t':=s.toks) (λb o hb e=>eb b o hb e) f0 f1 f3 f4 f5⟩
  |false=>
   have e:fE x = "str_iterator":=by unfold fE;rw[ha];rfl
   rw[e]at st;exact wpAny_pyNext_wide_end (I.ok.hd hc) st hg λh' eb=>⟨rfl,I.turned (t':=s.toks) (λb o hb e=>eb b o hb e) f0 f1 f3 f4 f5⟩
 self:=λA i s Q E st h=>by
  cases ha:x.cps.all (·<128)with
  |true=>
   have e:fE x = "str_ascii_iterator":=by unfold fE;rw[ha];rfl
   rw[e]at st;exact wpAny_pyIter_striter_ascii st h
  |false=>
   have e:fE x = "str_iterator":=by unfold fE;rw[ha];rfl
   rw[e]at st;exact wpAny_pyIter_striter_wide st h
def Lp (tl:TE):TI:=λU H R=>tl U H λx H1=>∃z,x=.str z/\R (Ki z) H1
theorem ū {l:Expr}{tl:TE}(hl:PE X l tl):PI X tg l (Lp tl):=by
 intro ce s U H R I h;refine fU (hl ce s U H _ I h) λv s1 gx=>?_;obtain⟨x,H1,I1,r,z,e,q⟩:=gx;subst e;obtain⟨t,rfl⟩:=r;refine wpAny_pyIter_strU ?_;refine⟨s1.heap.objs.size,[s1.heap.objs.size],_,_,H1,rfl,I1.kept (t':=s1.toks) λb o e=>cv _ e,(Zm z t _).ok,⟨_,cV _ rfl,rfl,rfl⟩,λb hb=>?_,q⟩;have e:b=s1.heap.objs.size:=by simpa using hb
 subst e;exact I1.fpOk (cK _)<|I1.hok.fresh<|cK _
noncomputable def t7 (x:Str):List D:=x.cps.toList.map λc=>.str ⟨#[c]⟩
def IL:D->Option (List D)
 |.str x=>Z<|t7 x
 |_=>C
theorem Nk (he:XE X M G m e f):XI X M G n tg e (λY=>(f Y).bind IL):=by
 obtain⟨t,pt,qt⟩:=he;refine⟨_,ū pt,λF0 B F H Y U O R rs e w=>?_⟩;obtain⟨d,h1,h2⟩:=cL e;refine qt F0 B F H Y U _ _ rs h1 λv F' H' x l=>?_;cases d with
 |str z=>
  cases h2;refine⟨z,l.str,w _ F' H' x λi F2 H2 s1 s2 s3=>⟨λd hd=>?_,λhl=>?_⟩⟩
  ·unfold t7 at hd;rw[cP]at hd;obtain⟨c,hc,rfl⟩:=fO.mp hd;have DZ:z.cps[i]?=Z c:=by simpa using hc
   refine⟨⟨c,DZ⟩,λy H3 hy=>?_⟩;obtain⟨rfl,c2,h3,rfl⟩:=hy;rw[DZ]at h3;cases h3;exact⟨F2,.refl s3,Al.of<|.str _⟩
  ·unfold t7 at hl;rw[ck,fQ]at hl;exact Array.getElem?_eq_none hl
 |_=>cases h2
theorem Zn [DecidableEq κ](k:κ)(v:V):∀{ks:List κ} {vs:List V},ks.length=vs.length->å (ks.zip vs) k v=(if ks.contains k=Â then ks.zip ((ks.zip vs).map λp=>if p.1=k then v else p.2)else(ks++[k]).zip (vs++[v])):=by
 intro ks vs hl;unfold å;have e:((ks.zip vs).any λkv=>decide<|kv.1=k)=ks.contains k:=by
  rw[Cc,Bn,xN];constructor
  ·rintro⟨p,hp,he⟩;have:=decide_eq_true_iff.mp he;rw[←this];exact(mn hp).1
  ·intro hk;obtain⟨i,hi,rfl⟩:=List.getElem_of_mem hk;exact⟨(ks[i],vs[i]'(by lia)),ir.mpr ⟨i,by simp;lia,by simp⟩,by simp⟩
 rw[e];by_cases h:ks.contains k=Â
 ·rw[if_pos h,if_pos h];clear e h;induction ks generalizing vs with
  |nil=>simp
  |cons y ks ih=>
   cases vs with
   |nil=>simp at hl
   |cons u vs=>simp only[gJ,cI,ih<|by simpa using hl];by_cases hy:y=k<;>simp[hy]
 ·rw[if_neg h,if_neg h,Cj hl];rfl
def pQ (i:Nat)(fj f:EF):SF:=λY=>(f Y).bind λd=>(L i Y).bind λo=>(fj Y).bind λj=>match o with
 |.dK ks O=>(C9 j).bind λk=>if ks.length<16777216 then Z (.nx<|Y.set i<|Z<|.dK (jG ks O k d).1 (jG ks O k d).2)else C
 |.dT ks O=>(match j with
  |.tup js=>(xA js).bind λk=>if ks.length<16777216 then Z (.nx<|Y.set i<|Z<|.dT (jG ks O k d).1 (jG ks O k d).2)else C
  |_=>C)
 |_=>C
theorem JD [DecidableEq κ]{v:V}(r:R d v)(k:κ){ks:List κ}{vs:List V}(hl:ks.length=vs.length)(hp:Pr R O vs) :
  ∃us,å (ks.zip vs) k v=(jG ks O k d).1.zip us/\(jG ks O k d).1.length=us.length/\Pr R (jG ks O k d).2 us:=by
 rw[Zn k v hl];unfold jG;by_cases h:ks.contains k=Â
 ·rw[if_pos h,if_pos h];refine⟨_,rfl,by simp[hl],?_⟩;clear h;induction ks generalizing O vs with
  |nil=>simp;exact .nil
  |cons y ks ih=>
   cases hp with
   |nil=>simp at hl
   |cons h t=>
    simp only[gJ,cI];refine .cons ?_ (ih (by simpa using hl) t);by_cases hy:y=k
    ·rw[if_pos hy,if_pos hy];exact r
    ·rw[if_neg hy,if_neg hy];exact h
 ·rw[if_neg h,if_neg h];exact⟨_,rfl,by simp[hl],hp.append<|.cons r .nil⟩
theorem Rr (i:Nat){j:Expr}(hm:G[i]?=Z (.ow 1))(hu:X.A.units+1<lW)(hj:XE X M G 0 j fj)(he:XE X M G 0 e f)(hN:X.N[i]?=Z x:=by rfl)(hv:uQ X.env.scope x:=by walk_at "v1")(hd:lH x:=by decide)
  (mR:vR x:=by decide) (hs:iF e (Z<|.Subscript (.Name x p1) j mD) pos.line X.env=pure Ã:=by rfl) :
  XS X M G rk (.Assign [.Subscript (.Name x p1) j mD] e pos) (pQ i fj f):=by
 obtain⟨t,pt,qt⟩:=he;obtain⟨tj,Dh,Di⟩:=hj;refine⟨_,Rj hu (wc hN hv hd mR) Dh pt hs,λF0 B F H Y U o E rs e z=>?_⟩;obtain⟨d,g1,g2⟩:=cL e;obtain⟨d1,zY,g3,g4,g5⟩:=fD g2;refine qt F0 B F H Y U d _ rs g1 λv0 F1 H1 x1 l0=>?_;have qK:=rs.ext x1;obtain⟨f1,fr,n1,b1,dj,i4,cf,put⟩:=qK.put (F':=F) (H':=H) hm;obtain⟨v,hσ,ow⟩:=i4 d1<|zo g3;refine⟨v,hσ,Di F0 B F1 H1 Y U zY _ qK g4 λvj F2 H2 x2 lj=>?_⟩;have Hm:Dt X.K M F2 d v0:=Dt.mono x2.ff l0;cases d1 with
 |dK ks O=>
  dsimp only at g5;obtain⟨key,g6,g7⟩:=cL g5;by_cases hz:ks.length<16777216
  ·rw[if_pos hz]at g7;cases g7;obtain⟨ad,vs,uJ,rfl,rfl,hF,hH,hl,ol⟩:=ow.dK_inv;have hA:=x2.hh _ _ hH;have fA:F2 ad=C:=x2.nf ad _ hH nofun hF;have e0:=ol.nil0;subst e0;have hp:Pr (Dt X.K M F2) O vs:=ol.pr λ_ _ _ _ q=>q.1.mono x2.ff;obtain⟨us,EU,EV,EW⟩:=JD Hm key hl hp;have hk:=JV g6 lj;subst hk;refine⟨ad,_,rfl,uP.k hA<|by rw[gz,←hl,jW,eJ];exact hz,?_⟩;rw[EU];refine z U F2 _ (qK.change hm x2 hσ b1 dj cf put b7 fA (.inr<|.dK fA zw EV<|jY.ofPr<|EW.mono λ_ _ q=>⟨q,rfl⟩) (fn:=[ad]) (by simp) ?_);intro a ha;rw[cw]at ha;subst ha;exact .inl b7
  ·rw[if_neg hz]at g7;cases g7
 |dT ks O=>
  cases zY with
  |tup js=>
   dsimp only at g5;obtain⟨key,g6,g7⟩:=cL g5;by_cases hz:ks.length<16777216
   ·rw[if_pos hz]at g7;cases g7;obtain⟨ad,vs,uJ,rfl,rfl,hF,hH,hl,ol⟩:=ow.dT_inv;have hA:=x2.hh _ _ hH;have fA:F2 ad=C:=x2.nf ad _ hH nofun hF;have e0:=ol.nil0;subst e0;have hp:Pr (Dt X.K M F2) O vs:=ol.pr λ_ _ _ _ q=>q.1.mono x2.ff;obtain⟨us,EU,EV,EW⟩:=JD Hm key hl hp;obtain⟨bd,ws,rfl,hb,G5⟩:=lj.tup x2.fh;have hk:=MS g6 G5;subst hk;refine⟨ad,_,rfl,uP.t hA hb<|by rw[gz,←hl,jW,eJ];exact hz,?_⟩;rw[EU];refine z U F2 _ (qK.change hm x2 hσ b1 dj cf put b7 fA (.inr<|.dT fA zw EV<|jY.ofPr<|EW.mono λ_ _ q=>⟨q,rfl⟩) (fn:=[ad]) (by simp) ?_);intro a ha;rw[cw]at ha;subst ha;exact .inl b7
   ·rw[if_neg hz]at g7;cases g7
  |_=>cases g5
 |_=>cases g5
def HD (K:b9):V->V->Hp->VK->Prop:=λo i H Q=>∃p xs k v,o=.ref p/\i=.int k/\jJ K H p xs/\atI xs k=Z v/\Q v H
theorem Yv:Gr X (HD X.K):=by
 intro ce s U H o i ov iv Q I ro ri h;obtain⟨p,xs,k,z,rfl,rfl,hq,he,q⟩:=h;cases ro;obtain⟨t,rfl⟩:=ri;obtain⟨dP,r,pl,hz⟩:=I.list hq;obtain⟨j,h1,h2,h3,h4,h5⟩:=JN he;obtain⟨w,ew,wB⟩:=r.get h2;have hl:=r.length;have hn:=qU;have fin:EP X ce U Q w s:=⟨z,H,I,wB,q⟩;by_cases h0:0<=k
 ·have hj:k.toNat=j:=by rw[vP h0 h5]at h1;exact Option.some.inj h1
  exact wpAny_getItem_list pl.isList h0 (by lia) (by rw[hj];simpa using ew) fin
 ·have hj:(k+(dP.toArray.size:Int)).toNat=j:=by rw[uF (by lia) h4]at h1;rw[cQ,←hl];exact Option.some.inj h1
  exact wpAny_getItem_list_neg pl.isList (by lia) (by rw[cQ]<;>lia) (by lia) (by rw[hj];simpa using ew) fin
def xG (i:Nat)(fj:EF)(gi:Int->Int->Int)(f:EF):SF:=λY=>(L i Y).bind λo=>(fj Y).bind λj=>(f Y).bind λy=>match o,j with
 |.lst O,.int z=>(atI O z).bind λx=>(match x,y with
  |.int a,.int b=>(xH O z<|.int<|gi a b).bind λvH=>Z<|.nx<|Y.set i<|Z<|.lst vH
  |_,_=>C)
 |_,_=>C
theorem Rt (i:Nat){op:m9}{j:Expr}{gi:Int->Int->Int}(ho:FC X op<|Jn gi)(hm:G[i]?=Z (.ow 1))(hj:XE X M G n j fj)(he:XE X M G m e f)(hN:X.N[i]?=Z x:=by rfl)(hv:uQ X.env.scope x:=by walk_at "v1")(hd:lH x:=by decide)
  (mR:vR x:=by decide) (ha:∀ov iv new,augStore j ov iv new=(do gC [new,ov,iv] (uG ov iv new);A7 [new,ov,iv] [];pure .next):=by intros;rfl) :
  XS X M G rk (.AugAssign (.Subscript (.Name x p1) j mD) op e pos) (xG i fj gi f):=by
 obtain⟨t,pt,qt⟩:=he;obtain⟨tj,Dh,Di⟩:=hj;refine⟨_,Z5 (wc hN hv hd mR) Dh Yv pt ho Ms ha,λF0 B F H Y U o E rs e z=>?_⟩;obtain⟨d1,zY,g3,g4,g5⟩:=fD e;obtain⟨d2,g6,g7⟩:=cL g5;obtain⟨f1,fr,n1,b1,dj,i4,cf,put⟩:=rs.put (F':=F) (H':=H) hm;obtain⟨v,hσ,ow⟩:=i4 d1<|zo g3;refine⟨v,hσ,Di F0 B F H Y U zY _ rs g4 λvj F2 H2 x2 lj=>?_⟩;cases d1<;>try (cases g7;done)
 rename_i O;cases zY<;>try (cases g7;done)
 rename_i zi
 ·skip
  dsimp only at g7;obtain⟨da,g8,g9⟩:=cL g7;obtain⟨ad,vs,uJ,rfl,rfl,hF,hH,ol⟩:=ow.lst_inv;have hA:H2 ad=Z (.lst vs):=x2.hh _ _ hH;have hp:Pr (Al X.K M F2 H2 0) O vs:=ol.pr λ_ _ _ _ q=>q.1.mono x2.ff;obtain⟨va,Ut,Uu⟩:=hp.atI g8;refine⟨ad,vs,zi,va,rfl,lj.int,jJ.of hA,Ut,qt F0 B F2 H2 Y U d2 _ (rs.ext x2) g6 λvy F3 H3 x3 ly=>?_⟩;have xJ:=x2.trans x3;cases da<;>try (cases g9;done)
  rename_i ia;cases d2<;>try (cases g9;done)
  rename_i ib
  ·skip
   dsimp only at g9;obtain⟨vH,Ua,Ub⟩:=cL g9;cases Ub;obtain⟨jn,Uc,Ud⟩:=cL Ua;cases Ud;have Ui:H3 ad=Z (.lst vs):=x3.hh _ _ hA;have fA:F3 ad=C:=xJ.nf ad _ hH nofun hF;have e0:=ol.nil0;subst e0;refine⟨ia,ib,Uu.int,ly.int,ad,vs,zi,jn,rfl,lj.int,Ui,by rw[←ol.length];exact Uc,?_⟩;refine z U F3 _ (rs.change hm xJ hσ b1 dj cf put b7 fA (.inr<|.lst fA zw<|jY.set0 ⟨.int _,rfl⟩ (λ_ _ _ q=>q.2) jn<|ol.mono λ_ _ _ _ q=>⟨q.1.mono xJ.ff,q.2⟩) (fn:=[ad]) (by simp) ?_);intro a ha;rw[cw]at ha;subst ha;exact .inl b7
structure Ic (K:b9)(V':cn):Prop where
 cl:pT K V'
 ha:fL K (.ref V') "__class__"=Z (Z<|.builtin "object.__class__")
 hn:kK K (.builtin "object.__class__") "__get__"=Z (Z<|.builtin "getset_descriptor.__get__")
 ht:Ay K (.builtin "object.__class__")=Z Â
 hm:Bq K V' (.type "object")=Z Â
def BJ (all sub:List Nat):D->Option D
 |.obj c _ _=>if all.contains c=Â then Z (.bl<|sub.contains c)else C
 |_=>C
theorem Ru {all sub:List Nat}(hI:∀c∈all,Ic X.K (M c)/\iD X.K (.ref<|M c) (.ref V')=Z (sub.contains c))(hm:X.mg "isinstance"=C)(yB:X.mg x=Z (.ref V'))(he:XE X M G n e f)(hg:Gl X "isinstance":=by rfl)(wO:Gl X x:=by rfl)(hd2:lH x:=by decide)
  (G7:dE [e,.Name x p2] X.env=(Ã,fB e X.env)::dE [.Name x p2] X.env:=by rfl) (tG:dE [.Name x p2] X.env=(Ã,fB (.Name x p2) X.env)::dE [] X.env:=by rfl) (mh:(kh pos<|dE [.Name x p2] X.env).any (·.1)=Ã:=by rfl) :
  XE X M G k (.Call (.Name "isinstance" pp) [e,.Name x p2] [] pos) (e1 (BJ all sub) f):=by
 obtain⟨t,pt,qt⟩:=he;refine⟨_,JH Yj hg hm jm (yw pt (yw (MM (v:=.ref V') wO yB rfl hd2) v5 tG) G7) (by decide) (by decide) G7 mh,λF0 B F H Y U d Q rs e w=>?_⟩;obtain⟨d1,h1,h2⟩:=cL e;refine qt F0 B F H Y U d1 _ rs h1 λv F' H' x l=>?_;cases d1 with
 |obj c ns O=>
  unfold BJ at h2;dsimp only at h2;by_cases hc:all.contains c=Â
  ·rw[if_pos hc]at h2;cases h2;obtain⟨a,dx,vs,rfl,ha,_⟩:=l.obj x.fh;obtain⟨ic,U6⟩:=hI c (by simpa using hc);exact⟨_,V',_,_,rfl,.ins ha ic.cl ic.ha ic.hn ic.ht ic.hm,U6,w _ F' H' x<|Al.of<|.bl _⟩
  ·rw[if_neg hc]at h2;cases h2
 |_=>cases h2
section
open PySem PySem.Spec L2
noncomputable def ed (i:Int):Str:=((toString i:String):Str)
def nX:List D->Option D
 |[.int i]=>if i.natAbs.log2<1920 then Z (.str<|ed i)else C
 |_=>C
theorem vf:Bs K M [n] k (λxs H Q=>∃i,xs=[.int i]/\i.natAbs.log2<1920/\Q (.str<|toString i) H) nX:=by
 intro F H vs O d Q s l e w;cases l with
 |cons h t=>
  cases t;rename_i d1 v;cases d1 with
  |int i=>
   unfold nX at e;dsimp only at e;by_cases hz:i.natAbs.log2<1920
   ·rw[if_pos hz]at e;cases e;exact⟨i,by rw[h.int],hz,w _ F H (.refl s)<|Al.of<|.str _⟩
   ·rw[if_neg hz]at e;cases e
  |_=>cases e
theorem MB {i:Int}(h:Sz 1900 i):nX [.int i]=Z (.str<|ed i):=by
 unfold nX;dsimp only;rw[if_pos];by_cases h0:i.natAbs=0
 ·rw[h0];decide
 ·rw[qE h0];exact dg h (gu (by decide)<|by decide)
theorem zy (s:String):df.strOk (s:Str)=Â:=by
 unfold df.strOk;rw[←AO,ej];intro x hx;rw[decide_eq_true_iff];show x<0x110000;rw[Str.ofString_eq_toList]at hx;simp at hx;obtain⟨c,_,rfl⟩:=hx;have h:=c.valid;rcases h with h|⟨h1,h2⟩
 ·have:c.val.toNat<0xd800:=h;show c.val.toNat<_;lia
 ·exact h2
theorem Er (i:Int):df.strOk (ed i)=Â:=zy _
theorem SD (hx:df.strOk x=Â)(hy:df.strOk y=Â):df.strOk (x++y)=Â:=by unfold df.strOk at *;show(x.cps++y.cps).all _=Â;rw[Array.all_append,hx,hy];rfl
noncomputable def Es:pv {x:Str // df.strOk x=Â}:=⟨λx=>.str x.1,λx=>.str x.1,0,λ_=>by simp[D.py],λx=>by simp only[df.canLay0];exact x.2,λ_=>by simp[df.depth],λx y=>by
 show(x.1==y.1)=_;by_cases h:x=y
 ·subst h;simp
 ·have:x.1≠y.1:=λz=>h<|Subtype.ext z;simp[h,this]⟩
theorem yn (hx:df.strOk x=Â)(hy:df.strOk y=Â):gb neg (.str x) (.str y)=Z (.bl<|if neg then !decide (x=y)else decide (x=y)):=by have:=Es.eq (by decide) (neg:=neg) ⟨x,hx⟩ ⟨y,hy⟩;simpa[Es]using this
theorem Ik {i:Int}(h:Sz 1900 i):(ed i).length<=1921:=by
 refine PyProof.Rows.int_text_len_1921 ?_;by_cases h0:i.natAbs=0
 ·rw[h0];decide
 ·rw[qE h0];exact dg h (gu (by decide)<|by decide)
theorem yh (x y:Str):(x++y).length=x.length+y.length:=by show(x.cps++y.cps).size=_;rw[Array.size_append];rfl
end
variable {pz:qP}
def E8 (K:b9):V->List V->Hp->VK->Prop:=λx vs H Q=>∃p ys y j,x=.ref p/\vs=[y]/\jJ K H p ys/\ox y=Â/\ys.all ox=Â/\ys.findIdx? (λz=>AG z y)=Z j/\Q (.int (j:Nat)) H
theorem Rv:∀{xs:List V} {us:List b8} {x:V},dR xs us->xs.all ox=Â->us.map (wN x)=xs.map λy=>AG y x
 |_,_,_,.nil,_=>rfl
 |y::xs,u::us,x,.cons r t,f=>by rw[f9,c9]at f;rw[cI,cI,Nb r f.1,Rv t f.2]
theorem Zo:Gm X "list.index" (E8 X.K):=by
 intro ce s U H x vs v us Q I rx rv h;obtain⟨p,ys,y,j,rfl,rfl,hq,fy,fs,hj,q⟩:=h;cases rx;obtain⟨u,rfl,ru⟩:=rv.one;obtain⟨dP,r,pl,hz⟩:=I.list hq;obtain⟨⟨cls,dd,data,sl⟩,ho,hc,n,hd⟩:=pl.isList;simp only at hc hd;subst hc hd;have hm:=Rv (x:=y) r fs;have iI:=r.length;obtain⟨j1,j2,j3⟩:=kN.mp hj;have N3:∀i (hi:i<dP.length),wN y dP[i]=AG (ys[i]'(by lia)) y:=λi hi=>by have:=congrArg (λl=>l[i]?) hm;simp only[cP]at this;rw[cC hi,cC<|by lia]at this;simpa using this
 have hzl:ys.length<=16777216:=hz;refine mH PySem.F.slot_list_index ⟨_,ho,rfl⟩ PySem.F.entry_list_index (PySem.F.args_list_index_2 _ _)
  (SeqAt.list_indexAt p dP.toArray n dd sl u (wN y) j (by simp;lia) (by lia) ?_ ?_) ⟨ho,λw hw=>uo ru fy r fs w<|by simpa using hw,.int (j:Nat),H,I.tok _,⟨_,rfl⟩,q⟩
 ·simp only[yG];rw[N3 j<|by lia];exact j2
 ·intro i hi qH;simp only[yG];rw[N3 i<|by simpa using hi];simpa using j3 i qH
def rH:D->D->Option D
 |.lst O,x=>if x.sc=Â/\O.all D.sc=Â then(O.findIdx? λy=>Cy y x).bind λj=>Z (.int (j:Nat))else C
 |_,_=>C
theorem SG {x:D}(hx:x.sc=Â):∀{O:List D},O.all D.sc=Â->(O.map D.v).findIdx? (λz=>AG z x.v)=O.findIdx? λy=>Cy y x
 |[],_=>rfl
 |d::O,h=>by rw[f9,c9]at h;rw[cI,rn,rn,S5 h.1 hx,SG hx h.2]
theorem vt (ho:XE X M G n o f)(he:XE X M G m e g)(n8:SE X e []:=by rfl)
  (pL:CN X o "index":=by rfl)
  (tR:FA X jB [e]:=by rfl)
  (pM:(iB.endLine==jB.line)=Â:=by rfl) (mS:rc X jB []:=by rfl) :
  XE X M G k (.Call (.Attribute o "index" iB) [e] [] jB) (S rH f g):=by
 obtain⟨ta,pa,qa⟩:=ho;obtain⟨tb,pb,qb⟩:=he;refine⟨_,IC PySem.F.plainAttrs_list PySem.F.slot_list_index PySem.F.type_list_index Zo pa (yw pb v5 n8) pL tR pM n8 mS,λF0 B F H Y U d Q rs e w=>?_⟩;obtain⟨d1,d2,h1,h2,h3⟩:=fD e;refine qa F0 B F H Y U d1 _ rs h1 λv1 F1 H1 x1 l1=>?_;cases d1 with
 |lst O=>
  unfold rH at h3;dsimp only at h3;by_cases hz:d2.sc=Â/\O.all D.sc=Â
  ·rw[if_pos hz]at h3;obtain⟨j,hj,h4⟩:=cL h3;cases h4;obtain⟨p,vs,rfl,hp,Ji⟩:=l1.lst x1.fh;refine⟨.inl ⟨rfl,_,hp⟩,qb F0 B F1 H1 Y U d2 _ (rs.ext x1) h2 λv2 F2 H2 x2 l2=>?_⟩;have hv:=Ji.vs hz.2;subst hv;have hx:=Al.v l2 hz.1;subst hx;exact⟨p,_,_,j,rfl,rfl,x2.hh.seq hp,D.flat hz.1,jp hz.2,by rw[SG hz.1 hz.2];exact hj,w _ F2 H2 (x1.trans x2)<|Al.of<|.int _⟩
  ·rw[if_neg hz]at h3;cases h3
 |_=>cases h3
theorem MK:∀{xs:List V} {us:List b8},xs.length=us.length->(∀(i:Nat) (x:V) (u:b8),xs[i]?=Z x->us[i]?=Z u->L2.Í x u)->dR xs us
 |[],[],_,_=>.nil
 |[],_::_,h,_=>by cases h
 |_::_,[],h,_=>by cases h
 |x::xs,u::us,h,r=>.cons (r 0 x u rfl rfl) (MK (by simpa using h) λi y w hy hw=>r (i+1) y w (by simpa using hy) (by simpa using hw))
def Ef:List V->Hp->VK->Prop:=λvs H Q=>∃j:Int,vs=[.int j]/\0<=j/\j<=16777216/\∀l,H l=C->Q (.ref l) (gK H l<|.lst<|(l7 0 j.toNat).map D.v)
def tW:List D->Option D
 |[.int j]=>if 0<=j/\j<=16777216 then Z (.lst<|l7 0 j.toNat)else C
 |_=>C
theorem Zq {lo:Int}(h:(l7 lo n)[i]?=Z d):d=.int (lo+(i:Int)):=by unfold l7 at h;rw[cP]at h;obtain⟨t,ht,rfl⟩:=fO.mp h;have:=cU.mp ht;obtain⟨h1,h2⟩:=this;rw[rA]at h2;rw[h2]
theorem zsq {ta:TA}(hc:X.calm=Â)(hg:Gl X "list")(hm:X.mg "list"=C)(wO:Gl X "range")(yB:X.mg "range"=C)(ha:PA X [a] ta)(hs:SN X a:=by rfl)
    (tG:dE [.Call (.Name "range" p2) [a] [] pz] X.env=[(Ã,fB (.Call (.Name "range" p2) [a] [] pz) X.env)]:=by rfl) :
    PE X (.Call (.Name "list" p1) [.Call (.Name "range" p2) [a] [] pz] [] pos) (LS Ef ta):=by
  intro ce s U H Q I h;refine fJ (uz I hg hm Ih ?_ (by decide)<|by decide);refine eh ?_ tG rfl;rw[tG];show cW _ _ (spliced ((Ã,fB (.Call (.Name "range" p2) [a] [] pz) X.env)::[])) _ _ s;refine Calls.spliced_cons ?_;refine fJ (uz I wO yB boot_range ?_ (by decide)<|by decide);refine eh (fU (ha pz ce s U H _ I h) λus s1 hq=>?_) hs rfl;obtain⟨vs,H1,I1,r1,q1⟩:=hq;obtain⟨j,rfl,h1,h2,q⟩:=q1;obtain⟨u,rfl,t,rfl⟩:=sN r1;refine call_range_1<|Calls.spliced_nil ?_;have I2:L2.Ê X ce U H1 { s1 with heap:=s1.heap.push { cls:=.type "range",data:=.fields #[.int 0 s1.toks,.int j t,.int 1<|s1.toks+1] },toks:=s1.toks+1+1 }:=I1.kept λb o e=>cv _ e;have hsz:Builtin.Range.rangeSize 0 j 1=(j.toNat:Int):=by rw[rangeSize_one];split<;>lia
  refine call_list_range (n:=j.toNat) (I2.ok.hd hc) (IsRange.new ..) (small_one (by lia) (by lia) (by lia)<|by lia) hsz (by lia) λh' tk qA c' kp hS yT=>?_;have hv:dR ((l7 0 j.toNat).map D.v) qA.toList:=by obtain⟨e1,S⟩:=yT;refine MK (by simp[l7,e1]) λi x u hx hu=>?_;obtain⟨t,rfl⟩:=S i u (by simpa using hu);rw[cP]at hx;obtain⟨d,hd,rfl⟩:=fO.mp hx;have hd:=Zq hd;subst hd;exact⟨t,by rw[tH]⟩
  have hl:((l7 0 j.toNat).map D.v).length<=sizeLine:=by rw[eJ];simp[l7];lia
  exact⟨.ref _,_,I2.laid (t':=tk) kp (cK _) (show gY X.prog X.w _ h' _ (.lst _)from⟨hl,qA.toList,c',hv,hS⟩),rfl,q _<|I2.hok.fresh<|cK _⟩
theorem zsr (lo:Int)(n:Nat):(l7 lo n).all D.sc=Â:=by rw[ej];intro d hd;unfold l7 at hd;obtain⟨t,_,rfl⟩:=cX.mp hd;rfl
theorem Hz {K:b9}{F W':Hp}:∀{O:List D},O.all D.sc=Â->Pr (Al K M F W' 0) O (O.map D.v)
 |[],_=>.nil
 |d::O,h=>by
  rw[f9,c9]at h;refine .cons ?_<|Hz h.2;cases d with
  |non=>exact Al.of .non
  |bl b=>exact Al.of<|.bl b
  |int b=>exact Al.of<|.int b
  |str b=>exact Al.of<|.str b
  |_=>cases h.1
theorem Zr:Bt K M [n] 1 Ef tW:=by
 intro F H vs O d Q s l e w;cases l with
 |cons h t=>
  cases t;rename_i d1 v;cases d1 with
  |int j=>
   unfold tW at e;dsimp only at e;by_cases hz:0<=j/\j<=16777216
   ·rw[if_pos hz]at e;cases e;exact⟨j,by rw[h.int],hz.1,hz.2,ww s (Hz<|zsr 0 j.toNat) w⟩
   ·rw[if_neg hz]at e;cases e
  |_=>cases e
theorem Rw (hc:X.calm=Â)(hg:Gl X "list")(hm:X.mg "list"=C)(wO:Gl X "range")(yB:X.mg "range"=C)(ha:XA X M G [a] [n] fs)(hs:SN X a:=by rfl)
  (tG:dE [.Call (.Name "range" p2) [a] [] pz] X.env=[(Ã,fB (.Call (.Name "range" p2) [a] [] pz) X.env)]:=by rfl) :
  XO X M G 1 (.Call (.Name "list" p1) [.Call (.Name "range" p2) [a] [] pz] [] pos) (eN tW fs):=by
 obtain⟨t,pt,_,qt⟩:=ha;refine⟨_,zsq hc hg hm wO yB pt hs tG,λF0 B F H Y U r Q rs e w=>?_⟩;obtain⟨O,h1,h2⟩:=cL e;exact qt F0 B F H Y U O _ rs h1 λvs F1 H1 x1 l=>Zr F1 H1 vs O r Q x1.fh l h2 λv F2 H2 fp x2 l2 nd hf=>w v F2 H2 fp (x1.trans x2) l2 nd λz hz=>x1.hh.free<|hf z hz
theorem XC {xI:qP}
  (hm:G[i]?=Z (.ow k)) (hN:X.N.Nodup) (CA:X.N[i]?=Z x) (hx:ï X.env.scope x)
  (B:qF X scope N own cap) (hc:X.calm=Â) (ho:om.length=own) (oz:∀i∈cap,i<G.length) (hi:DU X M G n tg iter fi)
  (hg:∀cl V' fp s₀ H₀,Ct (pw X scope cl N V' fp s₀ H₀) M (om++lh G cap) own n tg gg) (ht:∀cl V' fp s₀ H₀,DV (pw X scope cl N V' fp s₀ H₀) M (om++lh G cap) ifs p) (he:∀cl V' fp s₀ H₀,XO (pw X scope cl N V' fp s₀ H₀) M (om++lh G cap) (k-1) rh f)
  (C5:iF (.ListComp rh [⟨tg,iter,ifs,0⟩] scope pos) (Z<|.Name x pos') xI.line X.env=pure Â:=by rfl)
  (hs:Co X iter:=by intro _;rfl) (hf:wW X x:=by walk_at "v2") :
  XS X M G rk (.Assign [.Name x pos'] (.ListComp rh [⟨tg,iter,ifs,0⟩] scope pos) xI) (É i<|fF fi own cap gg p f):=by
 obtain⟨wi,g,tt,te,pi,kg,pg,pt,pe,q⟩:=Qt (k:=k-1) (pos:=pos) B hc ho oz hi hg ht he;refine⟨_,Xy B hc pi kg pg pt pe hN CA hx C5 hs hf,λF0 B F H Y U o E rs e w=>?_⟩;obtain⟨d,h1,h2⟩:=cL e;cases h2;cases k with
 |succ k=>exact q F0 B F H Y U d _ rs h1 λv F' H' fp x l nd hf=>w _ F' H'<|rs.set hm x l nd hf
 |zero=>refine q F0 B F H Y U d _ rs h1 λv F' H' fp x l nd hf=>?_;obtain⟨F2,x2,l2⟩:=l.freeze x hf;exact w _ F2 H' (rs.set hm x2 (Ow.zero l2) dC λa z=>by cases z)
theorem zss (hm:G[i]?=Z (.ow k))(hN:X.N[i]?=Z x:=by rfl)(hv:uQ X.env.scope x:=by walk_at "v1")(hd:lH x:=by decide)
  (mR:vR x:=by decide):XS X M G 0 (.Return (Z<|.Name x pos') pos) (Ì<|L i):=by
 refine⟨_,Iq<|wc hN hv hd mR,λF0 B F H Y U o E rs e w=>?_⟩;obtain⟨d,h1,h2⟩:=cL e;cases h2;obtain⟨fp,sl,nd,hb⟩:=rs.sl;obtain⟨f1,fr,i1,i2,i3,i4,i5⟩:=sl.put hm;obtain⟨v,FR,l⟩:=i4 d<|zo h1;obtain⟨F',x,l2⟩:=l.freeze (⟨rs.f0,rs.bh,rs.fh,rs.nf⟩:kL F0 B F H)<|λz hz=>hb z<|i1 z hz;exact⟨v,FR,w v F' H [] x.ff x.hh x.fh x.nf (Ow.zero l2) dC λz hz=>by cases hz⟩
theorem Ū (hu:X.A.units+1<lW)(ha:XE X M G n a f)(hb:XE X M G m b g)(hm:fH .In b=Ã):XT X M G (.Compare a [.In] [b] pos) (tb λY=>(f Y).bind λx=>(g Y).bind λy=>(nD y x).bind λr=>Z<|.bl r.isSome):=by
 obtain⟨ta,En,pa,pb,q⟩:=ha.bin hb;refine⟨_,JW (ϔ hu pa pb) hm,λF0 B F H Y U t Q rs e w=>?_⟩;obtain⟨d0,h0,h9⟩:=cL e;obtain⟨d1,d2,h1,h2,h3⟩:=fD h0;obtain⟨r,h4,h5⟩:=cL h3;cases h5;cases h9;refine q F0 B F H Y U d1 d2 _ rs h1 h2 λx y F' H' x1 l1 l2=>?_;obtain⟨a,o,rfl,g,_,h⟩:=MT (r:=r) x1.fh l2 l1 h4;refine⟨a,o,rfl,g,?_⟩;cases r with
 |none=>rw[h.none_of];exact⟨_,rfl,w F' H' x1⟩
 |some d=>obtain⟨u,rfl,Ha⟩:=h.some_of;exact⟨_,rfl,w F' H' x1⟩
theorem Yw (hu:X.A.units+1<lW)(ha:XE X M G n a f)(hb:XE X M G m b g)(hm:fH .NotIn b=Ã):XT X M G (.Compare a [.NotIn] [b] pos) (tb λY=>(f Y).bind λx=>(g Y).bind λy=>(nD y x).bind λr=>Z<|.bl<|!r.isSome):=by
 obtain⟨ta,En,pa,pb,q⟩:=ha.bin hb;refine⟨_,JW (Yg hu pa pb) hm,λF0 B F H Y U t Q rs e w=>?_⟩;obtain⟨d0,h0,h9⟩:=cL e;obtain⟨d1,d2,h1,h2,h3⟩:=fD h0;obtain⟨r,h4,h5⟩:=cL h3;cases h5;cases h9;refine q F0 B F H Y U d1 d2 _ rs h1 h2 λx y F' H' x1 l1 l2=>?_;obtain⟨a,o,rfl,g,_,h⟩:=MT (r:=r) x1.fh l2 l1 h4;refine⟨a,o,rfl,g,?_⟩;cases r with
 |none=>rw[h.none_of];exact⟨_,rfl,w F' H' x1⟩
 |some d=>obtain⟨u,rfl,Ha⟩:=h.some_of;exact⟨_,rfl,w F' H' x1⟩
theorem SL.fz (h0:SL K M F B H G Y U fp)(s:dQ F H):fp.Nodup->G[i]?=Z (.ow k)->∃f1:List cn,(∀a∈f1,a∈fp) /\
  ∃nE,SL K M (nO F H f1) B H (G.set i<|.ow 0) Y U nE/\nE.Nodup/\∀a∈nE,a∈fp/\a∉f1:=by
 induction h0 generalizing i with
 |nil=>intro _ e;simp at e
 |@no m0 o0 G Y U fp t ih=>
  intro nd e;cases i with
  |zero=>obtain⟨w1,w2,w3⟩:=wf (F:=F) (H:=H) (fp:=[]) s (λa z=>by cases z);exact⟨[],λa z=>(by cases z),fp,.no<|t.frame w1 λa z=>⟨rfl,by unfold nO;rw[if_neg<|by simp];exact(t.cells a z).1⟩,nd,λa z=>⟨z,by simp⟩⟩
  |succ i=>obtain⟨f1,h1,nE,q1,q2,q3⟩:=ih (i:=i) nd (by simpa using e);exact⟨f1,h1,nE,.no q1,q2,q3⟩
 |@al n0 d0 v0 G Y U fp h t ih=>
  intro nd e;cases i with
  |zero=>simp at e
  |succ i=>obtain⟨f1,h1,nE,q1,q2,q3⟩:=ih (i:=i) nd (by simpa using e);obtain⟨w1,w2,w3⟩:=wf (F:=F) (H:=H) (fp:=f1) s<|λa z=>(t.cells a<|h1 a z).1;exact⟨f1,h1,nE,.al (h.mono w1<|.refl _) q1,q2,q3⟩
 |@px d0 v0 G Y U fp h t ih=>
  intro nd e;cases i with
  |zero=>simp at e
  |succ i=>obtain⟨f1,h1,nE,q1,q2,q3⟩:=ih (i:=i) nd (by simpa using e);obtain⟨w1,w2,w3⟩:=wf (F:=F) (H:=H) (fp:=f1) s<|λa z=>(t.cells a<|h1 a z).1;exact⟨f1,h1,nE,.px (h.mono w1<|.refl _) q1,q2,q3⟩
 |@so d0 x G Y U fp h t ih=>
  intro nd e;cases i with
  |zero=>simp at e
  |succ i=>
   obtain⟨n1,n2⟩:=dz.mp nd;obtain⟨f1,h1,nE,q1,q2,q3⟩:=ih (i:=i) n2 (by simpa using e);obtain⟨w1,w2,w3⟩:=wf (F:=F) (H:=H) (fp:=f1) s<|λa z=>(t.cells a<|h1 a z).1;refine⟨f1,λa z=>cj _<|h1 a z,x::nE,.so (h.frame w1 λa z=>⟨rfl,?_⟩) q1,dz.mpr ⟨λz=>n1 (q3 x z).1,q2⟩,λa z=>?_⟩
   ·rw[cw]at z;unfold nO;rw[if_neg λq=>n1<|z▸h1 a q];exact(h.cells a<|by rw[z];exact b7).1
   ·rcases cu.mp z with z|z
    ·exact⟨z▸b7,λq=>n1<|z▸h1 a q⟩
    ·exact⟨cj _ (q3 a z).1,(q3 a z).2⟩
 |@ow n0 d0 v0 G Y U f fp h t ih=>
  intro nd e;cases i with
  |zero=>obtain⟨w1,w2,w3⟩:=wf (F:=F) (H:=H) (fp:=f) s<|λa z=>(h.cells a z).1;obtain⟨n1,n2,n3⟩:=dh.mp nd;refine⟨f,λa z=>dF _ z,[]++fp,.ow ⟨h.dt w1 w3,rfl⟩<|t.frame w1 λa z=>⟨rfl,?_⟩,n2,λa z=>⟨cT _ z,λq=>n3 a q a z rfl⟩⟩;unfold nO;rw[if_neg λq=>n3 a q a z rfl];exact(t.cells a z).1
  |succ i=>
   obtain⟨n1,n2,n3⟩:=dh.mp nd;obtain⟨f1,h1,nE,q1,q2,q3⟩:=ih (i:=i) n2 (by simpa using e);obtain⟨w1,w2,w3⟩:=wf (F:=F) (H:=H) (fp:=f1) s<|λa z=>(t.cells a<|h1 a z).1;refine⟨f1,λa z=>cT _<|h1 a z,f++nE,.ow (h.frame w1 λa z=>⟨rfl,?_⟩) q1,dh.mpr ⟨n1,q2,λa z b zb=>n3 a z b (q3 b zb).1⟩,λa z=>?_⟩
   ·unfold nO;rw[if_neg λq=>n3 a z a (h1 a q) rfl];exact(h.cells a z).1
   ·rcases cH.mp z with z|z
    ·exact⟨dF _ z,λq=>n3 a z a (h1 a q) rfl⟩
    ·exact⟨cT _ (q3 a z).1,(q3 a z).2⟩
theorem SL.forget (m':Mo)(i:Nat)(h0:SL K M F B H G Y U fp):∃nE,SL K M F B H (G.set i m') (Y.set i C) U nE/\nE.Sublist fp:=by
 induction h0 generalizing i with
 |nil=>exact⟨[],.nil,.refl _⟩
 |@no m0 o0 G Y U fp t ih=>
  cases i with
  |zero=>exact⟨fp,.no t,.refl _⟩
  |succ i=>obtain⟨nE,q1,q2⟩:=ih i;exact⟨nE,.no q1,q2⟩
 |@al n0 d0 v0 G Y U fp h t ih=>
  cases i with
  |zero=>exact⟨fp,.no t,.refl _⟩
  |succ i=>obtain⟨nE,q1,q2⟩:=ih i;exact⟨nE,.al h q1,q2⟩
 |@px d0 v0 G Y U fp h t ih=>
  cases i with
  |zero=>exact⟨fp,.no t,.refl _⟩
  |succ i=>obtain⟨nE,q1,q2⟩:=ih i;exact⟨nE,.px h q1,q2⟩
 |@so d0 x G Y U fp h t ih=>
  cases i with
  |zero=>exact⟨fp,.no t,List.sublist_cons_self _ _⟩
  |succ i=>obtain⟨nE,q1,q2⟩:=ih i;exact⟨_,.so h q1,q2.cons₂ _⟩
 |@ow n0 d0 v0 G Y U f fp h t ih=>
  cases i with
  |zero=>exact⟨fp,.no t,List.sublist_append_right _ _⟩
  |succ i=>obtain⟨nE,q1,q2⟩:=ih i;exact⟨_,.ow h q1,(List.Sublist.refl _).append q2⟩
theorem RS.fz (rs:RS K M F0 B G F H Y U)(hm:G[i]?=Z (.ow k)):∃F',RS K M F0 B (G.set i<|.ow 0) F' H Y U:=by
 obtain⟨fp,sl,nd,hb⟩:=rs.sl;obtain⟨f1,h1,nE,q1,q2,q3⟩:=sl.fz rs.fh nd hm;obtain⟨w1,w2,w3⟩:=wf (F:=F) (H:=H) (fp:=f1) rs.fh<|λa z=>(sl.cells a<|h1 a z).1;refine⟨nO F H f1,rs.f0.trans w1,rs.bh,w2,λa o ho nt hn=>?_,nE,q1,q2,λa z=>hb a (q3 a z).1⟩;have:¬a∈f1:=λz=>by rw[hb a<|h1 a z]at ho;cases ho
 unfold nO;rw[if_neg this];exact rs.nf a o ho nt hn
theorem RS.forget (m':Mo)(i:Nat)(rs:RS K M F0 B G F H Y U):RS K M F0 B (G.set i m') F H (Y.set i C) U:=by obtain⟨fp,sl,nd,hb⟩:=rs.sl;obtain⟨nE,q1,q2⟩:=sl.forget m' i;exact⟨rs.f0,rs.bh,rs.fh,rs.nf,nE,q1,q2.nodup nd,λa z=>hb a<|q2.subset z⟩
def BV (i:Nat):ð->ð
 |.nx Y=>.nx<|Y.set i C
 |.rt d=>.rt d
 |.bk Y=>.bk<|Y.set i C
 |.ct Y=>.ct<|Y.set i C
def ā (i:Nat)(u:SF):SF:=λY=>(u Y).bind λo=>Z<|BV i o
theorem XD (hm:G[i]?=Z (.ow k)):(G.set i<|.ow 0).set i (.ow k)=G:=by
 rw[List.set_set];apply nY;intro j;rw[AX];split
 ·next h=>subst h;rw[hm];have:=(cU.mp hm).1;rw[if_pos this]
 ·rfl
theorem ņ {t:rX->St->Hp->Prop}(hm:G[i]?=Z (.ow k))
  (q:∀(F0 B F H:Hp) (Y:Env) (U:St) (o:ð) (E:rX),RS X.K M F0 B (G.set i<|.ow 0) F H Y U->w Y=Z o->sK X.K M F0 B (G.set i<|.ow 0) rk E o->t E U H)
  (F0 B F H:Hp) (Y:Env) (U:St) (o:ð) (E:rX) (rs:RS X.K M F0 B G F H Y U) (e:ā i w Y=Z o) (z:sK X.K M F0 B G rk E o):t E U H:=by
 obtain⟨F',r2⟩:=rs.fz hm;obtain⟨o1,e1,S⟩:=cL e;refine q F0 B F' H Y U o1 E r2 e1 ?_;have back:∀{ρ':Env} {σ':St} {F2 H2:Hp},RS X.K M F0 B (G.set i<|.ow 0) F2 H2 ρ' σ'->RS X.K M F0 B G F2 H2 (ρ'.set i C) σ':=λr=>by have:=r.forget (.ow k) i;rw[XD hm]at this;exact this
 cases o1 with
 |nx ρ'=>cases S;exactλσ' F2 H2 r=>z σ' F2 H2<|back r
 |rt d=>cases S;exact z
 |bk ρ'=>cases S;exactλσ' F2 H2 r=>z σ' F2 H2<|back r
 |ct ρ'=>cases S;exactλσ' F2 H2 r=>z σ' F2 H2<|back r
theorem Nl {sts:List eA}(hm:G[i]?=Z (.ow k))(h:wM X M (G.set i<|.ow 0) rk sts w):wM X M G rk sts (ā i w):=by obtain⟨t,pt,qt⟩:=h;exact⟨t,pt,ņ hm qt⟩
theorem đ:BV i (.rt d)=.rt d:=rfl
theorem Đ:BV i (.nx Y)=.nx (Y.set i C):=rfl
def sX:List D->List D->List D
 |x::xs,y::ys=>.tup [x,y]::sX xs ys
 |_,_=>[]
theorem QF:∀{xs ys:List D} {i:Nat} {d:D},(sX xs ys)[i]?=Z d->∃x y,xs[i]?=Z x/\ys[i]?=Z y/\d=.tup [x,y]
 |[],_,_,_,h=>by simp[sX]at h
 |_::_,[],_,_,h=>by simp[sX]at h
 |x::xs,y::ys,0,d,h=>by simp[sX]at h;subst h;exact⟨x,y,rfl,rfl,rfl⟩
 |x::xs,y::ys,i+1,d,h=>by obtain⟨u,v,h1,h2,h3⟩:=QF (xs:=xs) (ys:=ys) (i:=i) (d:=d) (by simpa[sX]using h);exact⟨u,v,by simpa using h1,by simpa using h2,h3⟩
theorem QG:∀{xs ys:List D},(sX xs ys).length=min xs.length ys.length
 |[],_=>by simp[sX]
 |_::_,[]=>by simp[sX]
 |x::xs,y::ys=>by simp[sX,QG (xs:=xs) (ys:=ys)]
section
variable {sp:Expr}
theorem ũ (hn:n<=1)(he:XE X M G n e f)(hp:XE X M G m sp<|e1 vZ<|eC<|.int 1):XO X M G 1 (.Subscript e (.Slice C C (Z sp) p1) pos) (λY=>((Ù f) Y).bind λO=>Z<|.lst O.reverse):=by obtain⟨t,pt,qt⟩:=he;obtain⟨t1,xD,xE⟩:=hp;refine⟨_,ϑ pt<|JM xD,λF0 B F H Y U r Q rs e w=>?_⟩;obtain⟨O,h1,h2⟩:=cL e;cases h2;obtain⟨d,h3,h4⟩:=cL h1;rw[JJ h4]at h3;refine qt F0 B F H Y U _ _ rs h3 λv F1 H1 x1 l1=>?_;refine xE F0 B F1 H1 Y U (.int<|-1) _ (rs.ext x1) rfl λu F2 H2 x2 l2=>⟨-1,l2.int,rfl,?_⟩;obtain⟨a,vs,rfl,ha,hp⟩:=Al.lst1 hn (l1.mono x2.ff x2.hh) x2.fh;refine⟨a,vs,rfl,ha,ww x2.fh hp.reverse λv F' H' fp x o nd hf=>w v F' H' fp ((x1.trans x2).trans x) o nd λz hz=>(x1.trans x2).hh.free<|hf z hz⟩
end
theorem zst:xZ (b8.type "list_reverseiterator") (Str.ofString "__len__")=pure C:=by with_unfolding_all rfl
theorem Zs:xZ (b8.type "list_reverseiterator") (Str.ofString "__length_hint__")=pure (Z<|b8.builtin "list_reverseiterator.__length_hint__"):=by with_unfolding_all rfl
theorem Yx:splitId "list_reverseiterator.__length_hint__"=Z ("list_reverseiterator","__length_hint__"):=by with_unfolding_all rfl
theorem zsu:isSubtype (b8.type "list_reverseiterator") (b8.type "list_reverseiterator")=pure Â:=by with_unfolding_all rfl
variable {A:d4}{it:cn}{prog:eG}
theorem Zt {w:dW}{E:b8->cF->Prop}{s:cF}{i:Int}{Q:Bool->cF->Prop}(st:s.heap.IsRevIter it l i)(h:Q Ã s):cW (c8 prog w) A (Builtin.List.listLengthHint<|b8.ref it) Q E s:=by unfold Builtin.List.listLengthHint;refine cy<|wL st.typeIs zst ?_;simp only[];refine cy<|wL st.typeIs Zs ?_;simp only[Yx];refine cy<|wpAny_isInstance st.typeIs zsu ?_;rw[if_neg<|by decide];rw[if_pos<|by with_unfolding_all decide,if_neg<|by decide];exact di h
theorem XF {w:dW}{s:cF}{R:Result->cF->Prop}(hh:A.handled=C)(st:s.heap.IsRevIter it l<|(items.size:Int)-1)(hl:s.heap.IsList l items)(pU:l≠it)(hsz:items.size<=sizeLine)(K':cn)(res:b8)(c₀:Nat)(hS:s.heap.get? K'=Z { cls:=b8.type "list",data:=qW.seq #[] c₀ })(Uq:K'≠l)
    (hR:∀(h':cO) (tk:Nat) (qA:Array b8) (c':Nat),(∀(b:cn) (o:iU),b≠K'->b≠it->s.heap.get? b=Z o->h'.get? b=Z o)->h'.get? K'=Z { cls:=b8.type "list",data:=qW.seq qA c' }->ItemsOf (λi v=>items[items.size-1-i]?=Z v) qA items.size->R (Except.ok<|Flow.ret res) { s with heap:=h',toks:=tk }) :
    cW (c8 prog w) A.in1 (Builtin.List.listExtendWith (b8.ref K') (b8.ref it) res) (λfin s'=>match fin with|Fin.done f=>R (Except.ok f) s'|Fin.again c'=>c'.quiet=Â/\n4 (c8 prog w) A c' R s') (λe s'=>R (Except.error e) s') s:=by
  have GJ:K'≠it:=λe=>by obtain⟨o,h1,h2,h3⟩:=st;rw[←e,hS]at h1;cases h1;simp at h2
  have W:=(Walks.listRev (prog:=prog) (w:=w) (A:=A.in1) hh it l pU items).toS;have key:n4 (c8 prog w) A (wK.builtin "list.extend.loop" { pos:=[b8.ref K',b8.ref it,res] }) R s:=by refine codeAny_extend_loopS W hsz K' (by simp[GJ,Uq]) res items.size 0 s #[] c₀ rfl (fI _) ⟨fI _,by simpa using st,hl⟩ hS (ItemsOf.nil _) λs' qA c' hm KM yT=>?_;rw[Moved.eq_with hm];exact hR s'.heap s'.toks qA c' (λb o hb hi e=>hm.heap b o (by simp[hb,hi]) e) KM yT
  unfold Builtin.List.listExtendWith;refine cy<|wpAny_typeOf st.typeIs ?_;have h1:Builtin.List.listSameRef (b8.ref K') (b8.ref it)=Ã:=by simp[Builtin.List.listSameRef,GJ]
  have h2:(b8.type "list_reverseiterator" == b8.type "list")=Ã:=by decide
  have h3:(b8.type "list_reverseiterator" == b8.type "tuple")=Ã:=by decide
  simp only[h1,h2,h3,DF,fX,if_false];refine cy<|wpAny_pyIter_revIter st ?_;refine cy<|mM<|Zt st ?_;rw[if_neg<|by with_unfolding_all decide];exact di ⟨plainId_quiet F.plain_extend_loop _,key⟩
theorem Wt {w:dW}{E:b8->cF->Prop}{s:cF}{Q:b8->cF->Prop}(hh:A.handled=C)(st:s.heap.IsRevIter it l<|(items.size:Int)-1)(hl:s.heap.IsList l items)(pU:l≠it)(hsz:items.size<=sizeLine)
    (hQ:∀(h':cO) (tk:Nat) (qA:Array b8) (c':Nat),(∀(b:cn) (o:iU),b≠it->s.heap.get? b=Z o->h'.get? b=Z o)->h'.get? s.heap.objs.size=Z { cls:=b8.type "list",data:=qW.seq qA c' }->ItemsOf (λi v=>items[items.size-1-i]?=Z v) qA items.size->Q (b8.ref s.heap.objs.size) { s with heap:=h',toks:=tk }) :
    cW (c8 prog w) A (call (b8.type "list") [b8.ref it]) Q E s:=by
  refine callType_codes (Q₁:=λobj s₁=>obj=b8.ref s.heap.objs.size/\s₁ = { s with heap:=s.heap.push { cls:=b8.type "list",data:=qW.seq #[] } }) F.called_list (F.typeCall_list_1<|b8.ref it) F.entry_list_init (code_list_new (b8.ref it) ⟨rfl,rfl⟩) λobj s₁ h₁=>?_;obtain⟨rfl,rfl⟩:=h₁;have hS:=cV s.heap (o:={ cls:=b8.type "list",data:=qW.seq #[] }) rfl;refine⟨⟨_,hS,rfl⟩,F.args_list_init_2 (b8.ref s.heap.objs.size)<|b8.ref it,?_⟩;have Ho:∀b o,s.heap.get? b=Z o->b≠s.heap.objs.size:=λb o e=>dG<|cS e;have UI:s.heap.objs.size≠l:=λe=>by obtain⟨o,h1,_⟩:=hl;exact Ho l o h1 e.symm
  have UY:(#[]:Array b8).size<=sizeLine:=fI _;have FT:(#[]:Array b8).size<=sizeLine+1:=fI _;show cW _ _ (Builtin.List.listItems (b8.ref s.heap.objs.size) >>= _) _ _ _;refine cy ?_;show cW _ _ (seqItems? (b8.ref s.heap.objs.size) >>= _) _ _ _;refine cy<|wpAny_seqItems hS rfl ?_;refine di ?_;show cW _ _ (updateSeq s.heap.objs.size (λ_=>#[]) >>= _) _ _ _;refine cy<|wpAny_updateSeq hS rfl ?_ UY FT;have Ur:((s.heap.push { cls:=b8.type "list",data:=qW.seq #[] }).update s.heap.objs.size<|iU.mapSeq λ_=>#[]).get? s.heap.objs.size=Z { cls:=b8.type "list",data:=qW.seq #[] 0 }:=lF (iU.mapSeq λ_=>#[]) hS rfl;have LC:∀(b:cn) (o:iU),b≠s.heap.objs.size->s.heap.get? b=Z o->((s.heap.push { cls:=b8.type "list",data:=qW.seq #[] }).update s.heap.objs.size<|iU.mapSeq λ_=>#[]).get? b=Z o:=λb o hb e=>(o8 _ _<|Ne.symm hb).trans<|cv _ e;refine cy<|wpAny_letGo ?_;obtain⟨oi,i1,i2,i3⟩:=st;obtain⟨ol,l1,l2,l3⟩:=hl;refine XF (A:=A.in1) (R:=wants (λr s₂=>r=b8.none/\Q (b8.ref s.heap.objs.size) s₂) E) (s:={ s with heap:=(s.heap.push { cls:=b8.type "list",data:=qW.seq #[] }).update s.heap.objs.size (iU.mapSeq λ_=>#[]) }) (l:=l) (items:=items) hh ⟨oi,LC it oi (Ho it oi i1) i1,i2,i3⟩ ⟨ol,LC l ol (Ho l ol l1) l1,l2,l3⟩ pU hsz s.heap.objs.size b8.none _ Ur UI λh' tk qA c' hk KM yT=>⟨rfl,hQ h' tk qA c' (λb o hb e=>hk b o (Ho b o e) hb<|LC b o (Ho b o e) e) KM yT⟩
def Ee (K:b9):V->Hp->VK->Prop:=λx H Q=>∃a xs,x=.ref a/\jJ K H a xs/\∀p,H p=C->Q (.ref p) (gK H p<|.lst xs.reverse)
def HU (K:b9)(te:TE):TE:=λU H Q=>te U H λx H1=>Ee K x H1 Q
theorem zsv {te:TE}(hc:X.calm=Â)(hg:Gl X "list")(hm:X.mg "list"=C)(wO:Gl X "reversed")(yB:X.mg "reversed"=C)(he:PE X e te)(hs:SN X e:=by rfl)
  (tG:dE [.Call (.Name "reversed" p2) [e] [] pz] X.env=[(Ã,fB (.Call (.Name "reversed" p2) [e] [] pz) X.env)]:=by rfl) :
  PE X (.Call (.Name "list" p1) [.Call (.Name "reversed" p2) [e] [] pz] [] pos) (HU X.K te):=by
 intro ce s U H Q I h;refine fJ (uz I hg hm Ih ?_ (by decide)<|by decide);refine eh ?_ tG rfl;rw[tG];show cW _ _ (spliced ((Ã,fB (.Call (.Name "reversed" p2) [e] [] pz) X.env)::[])) _ _ s;refine Calls.spliced_cons ?_;refine fJ (uz (u:=.type "reversed") I wO yB (by rfl) ?_ (by decide)<|by decide);refine eh (fU ((yw he v5 hs) pz ce s U H (λvs H1=>match vs with|[x]=>Ee X.K x H1 Q|_=>False) I h) λus s1 hq=>?_) hs rfl;obtain⟨vs,H1,I1,r,q⟩:=hq
 match vs,q with
 |[x],q=>
  obtain⟨a,xs,rfl,hq,q⟩:=q;obtain⟨u,rfl,ru⟩:=r.one;cases ru;obtain⟨dP,rv,pl,hz⟩:=I1.list hq;have hl:=rv.length;refine call_reversed_list pl.isList<|Calls.spliced_nil ?_;have I2:L2.Ê X ce U H1 { s1 with heap:=s1.heap.push (DO a<|(dP.toArray.size:Int)-1) }:=I1.kept (t':=s1.toks) λb o e=>cv _ e;have st:(s1.heap.push<|DO a<|(dP.toArray.size:Int)-1).IsRevIter s1.heap.objs.size a ((dP.toArray.size:Int)-1):=⟨_,cV _ rfl,rfl,by simp[DO]⟩;have Vh:(s1.heap.push<|DO a<|(dP.toArray.size:Int)-1).IsList a dP.toArray:=by obtain⟨o,h1,h2⟩:=pl.isList;exact⟨o,cv _ h1,h2⟩
  have Tw:a≠s1.heap.objs.size:=by obtain⟨o,h1,h2⟩:=pl.isList;exact dG<|cS h1
  refine Wt (I2.ok.hd hc) st Vh Tw (by rw[cQ,←hl];exact hz) λh' tk qA c' kp hS yT=>?_;have D5:(s1.heap.push<|DO a<|(dP.toArray.size:Int)-1).objs.size=s1.heap.objs.size+1:=by simp[cO.push]
  have hv:dR xs.reverse qA.toList:=by
   obtain⟨e1,S⟩:=yT;have e3:qA.size=dP.length:=by rw[e1,cQ]
   refine MK ((fT).trans<|hl.trans<|e3.symm.trans fQ.symm) λi x u hx hu=>?_;have hi:i<xs.length:=by have:=(cU.mp hx).1;rwa[fT]at this
   rw[xP hi]at hx;obtain⟨u',Ha,ru⟩:=rv.get hx;have:=S i u (by simpa using hu);rw[cQ,←hl]at this;have h3:dP[xs.length-1-i]?=Z u:=by simpa using this
   rw[Ha]at h3;cases h3;exact ru
  have iI:xs.reverse.length<=sizeLine:=by rw[fT];exact hz
  refine⟨.ref _,_,I1.laid (t':=tk) (λb o e=>kp b o (dG<|cS e)<|cv _ e) (by rw[D5];lia) (show gY X.prog X.w _ h' _ (.lst _)from⟨iI,qA.toList,c',hv,hS⟩),rfl,q _<|I1.hok.fresh<|by rw[D5];lia⟩
def BO:D->Option D
 |.lst O=>Z<|.lst O.reverse
 |_=>C
theorem zsw (hn:n<=1)(hc:X.calm=Â)(hg:Gl X "list")(hm:X.mg "list"=C)(wO:Gl X "reversed")(yB:X.mg "reversed"=C)(he:XE X M G n e f)(hs:SN X e:=by rfl)
  (tG:dE [.Call (.Name "reversed" p2) [e] [] pz] X.env=[(Ã,fB (.Call (.Name "reversed" p2) [e] [] pz) X.env)]:=by rfl) :
  XO X M G 1 (.Call (.Name "list" p1) [.Call (.Name "reversed" p2) [e] [] pz] [] pos) (e1 BO f):=by
 obtain⟨t,pt,qt⟩:=he;refine⟨_,zsv hc hg hm wO yB pt hs tG,λF0 B F H Y U r Q rs e w=>?_⟩;obtain⟨d,h1,h2⟩:=cL e;refine qt F0 B F H Y U d _ rs h1 λv F1 H1 x1 l=>?_;cases d with
 |lst O=>cases h2;obtain⟨a,vs,rfl,ha,hp⟩:=Al.lst1 hn l x1.fh;exact⟨a,vs,rfl,ha,ww x1.fh (Pr.reverse hp) λv F2 H2 fp x2 l2 nd hf=>w v F2 H2 fp (x1.trans x2) l2 nd λz hz=>x1.hh.free<|hf z hz⟩
 |_=>cases h2
section
variable {l:Nat}
theorem Zu {o o':D->D->Option D}{ta En tc:TE}(hs:qR X.K M n m k r o)(Ab:qR X.K M m l k r' o')
    (qa:∀(F0 B F H:Hp) (Y:Env) (U:St) (d:D) (Q:VK),RS X.K M F0 B G F H Y U->f Y=Z d->(∀v F' H',kL F H F' H'->Al X.K M F' H' n d v->Q v H')->ta U H Q)
    (qb:∀(F0 B F H:Hp) (Y:Env) (U:St) (d:D) (Q:VK),RS X.K M F0 B G F H Y U->g Y=Z d->(∀v F' H',kL F H F' H'->Al X.K M F' H' m d v->Q v H')->En U H Q)
    (qc:∀(F0 B F H:Hp) (Y:Env) (U:St) (d:D) (Q:VK),RS X.K M F0 B G F H Y U->h Y=Z d->(∀v F' H',kL F H F' H'->Al X.K M F' H' l d v->Q v H')->tc U H Q)
 {t:Bool} (rs:RS X.K M F0 B G F H Y U) (e:Ø (tb<|S o f g) (tb<|S o' g h) Y=Z t) (w:∀F' H',kL F H F' H'->Q (.bl t) H'):B7 r r' ta En tc U H Q:=by
  obtain⟨b1,e1,e3⟩:=cL e;obtain⟨z1,z2,z3⟩:=cL e1;rw[xz z3]at z2;obtain⟨d1,d2,h1,h2,h3⟩:=fD z2;refine qa F0 B F H Y U d1 _ rs h1 λx F1 H1 x1 l1=>?_;refine qb F0 B F1 H1 Y U d2 _ (rs.ext x1) h2 λy F2 H2 x2 l2=>?_;refine hs F2 H2 x y d1 d2 _ _ x2.fh (l1.mono x2.ff x2.hh) l2 h3 λv F3 H3 x3 l3=>⟨b1,l3.bl,?_⟩;have FZ:=x1.trans<|x2.trans x3;cases b1 with
  |false=>rw[if_neg cJ]at e3 ⊢;cases e3;exact w F3 H3 FZ
  |true=>rw[if_pos rfl]at e3 ⊢;obtain⟨z1',O4,VE⟩:=cL e3;rw[xz VE]at O4;obtain⟨d2',d3,h4,h5,h6⟩:=fD O4;rw[h2]at h4;cases h4;refine qc F0 B F3 H3 Y U d3 _ (rs.ext FZ) h5 λu F4 H4 x4 l4=>?_;exact Ab F4 H4 y u d2 d3 _ _ x4.fh ((l2.mono x3.ff x3.hh).mono x4.ff x4.hh) l4 h6 λv' F5 H5 x5 l5=>by rw[l5.bl];exact w F5 H5<|FZ.trans<|x4.trans x5
theorem Zv {E6:Ck}{o o':D->D->Option D}(ho:k9 X (d6 op) r)(hs:qR X.K M n m k r o)(BD:k9 X (d6 E6) r')(Ab:qR X.K M m l k r' o')(ha:XE X M G n a f)(hb:XE X M G m b g)(hc:XE X M G l c h)
  (hm:lastMarks [op,E6] [b,c]=Ã:=by with_unfolding_all rfl):XE X M G 0 (.Compare a [op,E6] [b,c] pos) (eB<|Ø (tb<|S o f g)<|tb<|S o' g h):=by
 obtain⟨ta,pa,qa⟩:=ha;obtain⟨En,pb,qb⟩:=hb;obtain⟨tc,pc,qc⟩:=hc;refine⟨_,YY ho BD pa pb pc hm,λF0 B F H Y U t Q rs e w=>?_⟩;obtain⟨t1,h1,h2⟩:=cL e;cases h2;exact Zu hs Ab qa qb qc rs h1 λF' H' x=>w _ F' H' x<|Al.of<|.bl t1
end
def FF (f:EF):EF:=λY=>(f Y).bind λd=>if d.sc=Â then Z d else C
theorem S6 (he:XE X M G n e f):XO X M G k e (FF f):=by
 obtain⟨t,p,q⟩:=he;refine⟨t,p,λF0 B F H Y U d Q r e w=>?_⟩;obtain⟨d0,h1,h2⟩:=cL e;by_cases hs:d0.sc=Â
 ·rw[if_pos hs]at h2;cases h2;exact q F0 B F H Y U d Q r h1 λv F' H' x l=>w v F' H' [] x (Ow.scal (Al.scal l hs) hs) dC λa z=>(by cases z)
 ·rw[if_neg hs]at h2;cases h2
def iQ:D->Bool
 |.lst _=>Â
 |.dK _ _=>Â
 |.dT _ _=>Â
 |.obj _ _ _=>Â
 |_=>Ã
theorem Ow.cell {v:V}(h:Ow K M F H 1 d v fp)(hc:iQ d=Â):∃a,v=.ref a/\fp=[a]:=by
 cases d with
 |lst O=>obtain⟨a,vs,fr,rfl,rfl,_,_,ol⟩:=h.lst_inv;have e0:=ol.nil0;subst e0;exact⟨_,rfl,rfl⟩
 |dK ks O=>obtain⟨a,vs,fr,rfl,rfl,_,_,_,ol⟩:=h.dK_inv;have e0:=ol.nil0;subst e0;exact⟨_,rfl,rfl⟩
 |dT ks O=>obtain⟨a,vs,fr,rfl,rfl,_,_,_,ol⟩:=h.dT_inv;have e0:=ol.nil0;subst e0;exact⟨_,rfl,rfl⟩
 |obj c ns O=>obtain⟨a,dx,vs,fr,rfl,rfl,_,_,_,ol⟩:=h.obj_inv;have e0:=ol.nil0;subst e0;exact⟨_,rfl,rfl⟩
 |_=>cases hc
theorem SL.putS {x:cn}(h0:SL K M F B H G Y U fp):fp.Nodup->G[i]?=Z (.so x)->Y[i]?=Z (Z d) ->
  U[i]?=Z (Z<|.ref x)/\Ow K M F H 1 d (.ref x) [x]/\x∈fp/\∀(F' H':Hp) (d':D),dQ F F'->(∀a∈fp,a≠x->H' a=H a/\F' a=C)->Ow K M F' H' 1 d' (.ref x) [x]->SL K M F' B H' G (Y.set i<|Z d') U fp:=by
 induction h0 generalizing i with
 |nil=>intro _ e _;simp at e
 |@no m0 o0 G Y U fp t ih=>
  intro nd e e';cases i with
  |zero=>have e:=e';simp at e
  |succ i=>obtain⟨h1,h2,h3,h4⟩:=ih (i:=i) nd (by simpa using e) (by simpa using e');exact⟨by simpa using h1,h2,h3,λF' H' d' s k o=>.no<|h4 F' H' d' s k o⟩
 |@al n0 d0 v0 G Y U fp h t ih=>
  intro nd e e';cases i with
  |zero=>simp at e
  |succ i=>obtain⟨h1,h2,h3,h4⟩:=ih (i:=i) nd (by simpa using e) (by simpa using e');exact⟨by simpa using h1,h2,h3,λF' H' d' s k o=>.al (h.mono s<|.refl _)<|h4 F' H' d' s k o⟩
 |@px d0 v0 G Y U fp h t ih=>
  intro nd e e';cases i with
  |zero=>simp at e
  |succ i=>obtain⟨h1,h2,h3,h4⟩:=ih (i:=i) nd (by simpa using e) (by simpa using e');exact⟨by simpa using h1,h2,h3,λF' H' d' s k o=>.px (h.mono s<|.refl _)<|h4 F' H' d' s k o⟩
 |@so d0 y G Y U Kv h t ih=>
  intro nd e e';cases i with
  |zero=>simp at e e';subst e;subst e';obtain⟨n1,n2⟩:=dz.mp nd;exact⟨rfl,h,b7,λF' H' d' s k o=>.so o<|t.frame s λa z=>k a (cj _ z) λe=>n1<|e▸z⟩
  |succ i=>obtain⟨n1,n2⟩:=dz.mp nd;obtain⟨h1,h2,h3,h4⟩:=ih (i:=i) n2 (by simpa using e) (by simpa using e');refine⟨by simpa using h1,h2,cj _ h3,λF' H' d' s k o=>.so (h.frame s λa z=>?_)<|h4 F' H' d' s (λa z=>k a<|cj _ z) o⟩;rw[cw]at z;subst z;exact k a b7 λe=>n1<|e▸h3
 |@ow n0 d0 v0 G Y U f Kv h t ih=>
  intro nd e e';cases i with
  |zero=>simp at e
  |succ i=>obtain⟨n1,n2,n3⟩:=dh.mp nd;obtain⟨h1,h2,h3,h4⟩:=ih (i:=i) n2 (by simpa using e) (by simpa using e');refine⟨by simpa using h1,h2,cT _ h3,λF' H' d' s k o=>.ow (h.frame s λa z=>?_)<|h4 F' H' d' s (λa z=>k a<|cT _ z) o⟩;exact k a (dF _ z) λe=>n3 a z x h3 e
theorem RS.changeS {d':D}{o:HO}(rs:RS K M F0 B G F H Y U)(hm:G[i]?=Z (.so ad))(hρ:Y[i]?=Z (Z d))(x:kL F H F' H')(Ks:F' ad=C)(o':Ow K M F' (gK H' ad o) 1 d' (.ref ad) [ad]) :
  RS K M F0 B G F' (gK H' ad o) (Y.set i<|Z d') U:=by
 have r:=rs.ext x;obtain⟨fp,sl,nd,hb⟩:=rs.sl;obtain⟨h1,h2,h3,h4⟩:=sl.putS nd hm hρ;have hB:B ad=C:=hb ad h3;refine⟨r.f0,λz u h=>?_,λz u h=>?_,r.nf,fp,h4 F' _ d' x.ff (λa z ne=>?_) o',nd,hb⟩
 ·rw[zu<|λe=>by rw[e,hB]at h;cases h];exact r.bh _ _ h
 ·rw[zu<|λe=>by rw[e,Ks]at h;cases h];exact x.fh _ _ h
 ·obtain⟨hn,o,ho,nt⟩:=sl.cells a z;rw[zu ne];exact⟨(x.hh _ _ ho).trans ho.symm,x.nf a o ho nt hn⟩
theorem RS.so_at (rs:RS K M F0 B G F H Y U)(hm:G[i]?=Z (.so ad))(hρ:Y[i]?=Z (Z d)):U[i]?=Z (Z<|.ref ad)/\Ow K M F H 1 d (.ref ad) [ad]/\B ad=C:=by obtain⟨fp,sl,nd,hb⟩:=rs.sl;obtain⟨h1,h2,h3,h4⟩:=sl.putS nd hm hρ;exact⟨h1,h2,hb _ h3⟩
variable {xa:cn}
theorem Zw (i:Nat){j:Expr}(hm:G[i]?=Z (.so xa))(hj:XE X M G n j fj)(he:XE X M G 0 e f)(hN:X.N[i]?=Z x:=by rfl)(hv:uQ X.env.scope x:=by walk_at "v1")(hd:lH x:=by decide)
  (mR:vR x:=by decide)
  (ha:∀v,mG (.Subscript (.Name x p1) j mD) X.env v=(do
   let ov ← gC [v] (fB (.Name x p1) X.env)
   let iv ← gC [v,ov] (fB j X.env)
   k7 mD
   gC [v,ov,iv] (uG ov iv v)
   A7 [v,ov,iv] []):=by intro _;rfl)
  (hs:mL [.Subscript (.Name x p1) j mD] e pos.line X.env=pure Ã:=by rfl) (hw:mK [.Subscript (.Name x p1) j mD] e X.env=pure C:=by rfl)
  (h1:(eE [.Subscript (.Name x p1) j mD] X.env).map (·.2)=[mG (.Subscript (.Name x p1) j mD) X.env]:=by rfl) :
  XS X M G rk (.Assign [.Subscript (.Name x p1) j mD] e pos) (qM i fj f):=by
 obtain⟨t,pt,qt⟩:=he;obtain⟨tj,Dh,Di⟩:=hj;refine⟨_,M5 pt (Sd (wc hN hv hd mR) Dh Ms ha) hs hw h1,λF0 B F H Y U o E rs e z=>?_⟩;obtain⟨d,g1,g2⟩:=cL e;obtain⟨d1,zY,g3,g4,g5⟩:=fD g2;refine qt F0 B F H Y U d _ rs g1 λv0 F1 H1 x1 l0=>?_;have qK:=rs.ext x1;obtain⟨hσ,ow,hB⟩:=qK.so_at hm<|zo g3;refine⟨_,hσ,Di F0 B F1 H1 Y U zY _ qK g4 λvj F2 H2 x2 lj=>?_⟩;cases d1 with
 |lst O=>
  cases zY with
  |int zi=>obtain⟨vH,g6,g7⟩:=cL g5;cases g7;obtain⟨jn,g8,g9⟩:=cL g6;cases g9;obtain⟨ad,vs,uJ,ea,ef,hF,hH,ol⟩:=ow.lst_inv;cases ea;cases ef;have hA:H2 xa=Z (.lst vs):=x2.hh _ _ hH;have fA:F2 xa=C:=x2.nf xa _ hH nofun hF;refine⟨xa,vs,zi,jn,rfl,lj.int,hA,by rw[←ol.length];exact g8,?_⟩;exact z U F2 _<|qK.changeS hm (zo g3) x2 fA<|.inr<|.lst fA zw<|jY.set0 ⟨Dt.mono x2.ff l0,rfl⟩ (λ_ _ _ q=>q.2) jn<|ol.mono λ_ _ _ _ q=>⟨q.1.mono x2.ff,q.2⟩
  |_=>cases g5
 |_=>cases g5
theorem Zx (i:Nat){j:Expr}(hm:G[i]?=Z (.so xa))(hu:X.A.units+1<lW)(hj:XE X M G 0 j fj)(he:XE X M G 0 e f)(hN:X.N[i]?=Z x:=by rfl)(hv:uQ X.env.scope x:=by walk_at "v1")(hd:lH x:=by decide)
  (mR:vR x:=by decide) (hs:iF e (Z<|.Subscript (.Name x p1) j mD) pos.line X.env=pure Ã:=by rfl) :
  XS X M G rk (.Assign [.Subscript (.Name x p1) j mD] e pos) (pQ i fj f):=by
 obtain⟨t,pt,qt⟩:=he;obtain⟨tj,Dh,Di⟩:=hj;refine⟨_,Rj hu (wc hN hv hd mR) Dh pt hs,λF0 B F H Y U o E rs e z=>?_⟩;obtain⟨d,g1,g2⟩:=cL e;obtain⟨d1,zY,g3,g4,g5⟩:=fD g2;refine qt F0 B F H Y U d _ rs g1 λv0 F1 H1 x1 l0=>?_;have qK:=rs.ext x1;obtain⟨hσ,ow,hB⟩:=qK.so_at hm<|zo g3;refine⟨_,hσ,Di F0 B F1 H1 Y U zY _ qK g4 λvj F2 H2 x2 lj=>?_⟩;have Hm:Dt X.K M F2 d v0:=Dt.mono x2.ff l0;cases d1 with
 |dK ks O=>
  dsimp only at g5;obtain⟨key,g6,g7⟩:=cL g5;by_cases hz:ks.length<16777216
  ·rw[if_pos hz]at g7;cases g7;obtain⟨ad,vs,uJ,ea,ef,hF,hH,hl,ol⟩:=ow.dK_inv;cases ea;cases ef;have hA:=x2.hh _ _ hH;have fA:F2 xa=C:=x2.nf xa _ hH nofun hF;have hp:Pr (Dt X.K M F2) O vs:=ol.pr λ_ _ _ _ q=>q.1.mono x2.ff;obtain⟨us,EU,EV,EW⟩:=JD Hm key hl hp;have hk:=JV g6 lj;subst hk;refine⟨xa,_,rfl,uP.k hA<|by rw[gz,←hl,jW,eJ];exact hz,?_⟩;rw[EU];exact z U F2 _<|qK.changeS hm (zo g3) x2 fA<|.inr<|.dK fA zw EV<|jY.ofPr<|EW.mono λ_ _ q=>⟨q,rfl⟩
  ·rw[if_neg hz]at g7;cases g7
 |dT ks O=>
  cases zY with
  |tup js=>
   dsimp only at g5;obtain⟨key,g6,g7⟩:=cL g5;by_cases hz:ks.length<16777216
   ·rw[if_pos hz]at g7;cases g7;obtain⟨ad,vs,uJ,ea,ef,hF,hH,hl,ol⟩:=ow.dT_inv;cases ea;cases ef;have hA:=x2.hh _ _ hH;have fA:F2 xa=C:=x2.nf xa _ hH nofun hF;have hp:Pr (Dt X.K M F2) O vs:=ol.pr λ_ _ _ _ q=>q.1.mono x2.ff;obtain⟨us,EU,EV,EW⟩:=JD Hm key hl hp;obtain⟨bd,ws,rfl,hb,G5⟩:=lj.tup x2.fh;have hk:=MS g6 G5;subst hk;refine⟨xa,_,rfl,uP.t hA hb<|by rw[gz,←hl,jW,eJ];exact hz,?_⟩;rw[EU];exact z U F2 _<|qK.changeS hm (zo g3) x2 fA<|.inr<|.dT fA zw EV<|jY.ofPr<|EW.mono λ_ _ q=>⟨q,rfl⟩
   ·rw[if_neg hz]at g7;cases g7
  |_=>cases g5
 |_=>cases g5
abbrev EM:=Env->Option (D×Env)
def vS (X:Cx)(M:Nat->cn)(G:List Mo)(st:List eA)(f:EM):Prop:=∃t,yP X st t/\∀(F0 B F H:Hp) (Y ρ':Env) (U:St) (d:D) (E:rX),RS X.K M F0 B G F H Y U->f Y=Z (d,ρ')->(∀v σ' F' H',RS X.K M F0 B G F' H' ρ' σ'->Dt X.K M F' d v->E.rt v H')->t E U H
def à (f:SF)(g:EM):EM:=λY=>(f Y).bind λo=>match o with
 |.nx ρ'=>g ρ'
 |_=>C
def è (f:EF):EM:=λY=>(f Y).bind λd=>Z (d,Y)
theorem Et (he:XE X M G 0 e f):vS X M G [.Return (Z e) pos] (è f):=by obtain⟨t,pt,qt⟩:=he;refine⟨_,MN<|Iq pt,λF0 B F H Y ρ' U d E rs e z=>?_⟩;obtain⟨d',h1,h2⟩:=cL e;cases h2;exact qt F0 B F H Y U _ _ rs h1 λv F' H' x l=>z v U F' H' (rs.ext x) l
theorem xg {gm:EM}(h1:XS X M G 0 st u)(h2:vS X M G Î gm):vS X M G (st::Î) (à u gm):=by
 obtain⟨t,pt,qt⟩:=h1;obtain⟨t2,qC,sW⟩:=h2;refine⟨_,Mr pt qC,λF0 B F H Y ρ' U d E rs e z=>?_⟩;obtain⟨o1,e1,S⟩:=cL e;refine qt F0 B F H Y U o1 _ rs e1 ?_;cases o1 with
 |nx ρ1=>exactλσ' F' H' LN=>sW F0 B F' H' ρ1 ρ' σ' d E LN S z
 |rt d=>cases S
 |bk ρ'=>cases S
 |ct ρ'=>cases S
theorem SL.app {Oz:List Mo}{ρ2:Env}{σ2:St}{NR:List cn}(h2:SL K M F B H Oz ρ2 σ2 NR)(h0:SL K M F B H G Y U fp):SL K M F B H (G++Oz) (Y ++ ρ2) (U ++ σ2) (fp++NR):=by
 induction h0 with
 |nil=>exact h2
 |@no m0 o0 G Y U fp t ih=>exact .no ih
 |@al n0 d0 v0 G Y U fp h t ih=>exact .al h ih
 |@px d0 v0 G Y U fp h t ih=>exact .px h ih
 |@so d0 x0 G Y U Kv h t ih=>exact .so h ih
 |@ow n0 d0 v0 G Y U f0 Kv h t ih=>rw[dN];exact .ow h ih
theorem SL.none {K:b9}{M:Nat->cn}{F B H:Hp}:∀(G:List Mo),SL K M F B H G (cB G.length C) (cB G.length C) []
 |[]=>.nil
 |m::G=>.no<|SL.none G
theorem SL.start0 {K:b9}{M:Nat->cn}{F B H:Hp}:∀{O:List D} {us:List V},Pr (Dt K M F) O us->SL K M F B H (cB O.length<|Mo.ow 0) (O.map Z) (us.map Z) []
 |_,_,.nil=>.nil
 |_,_,.cons h t=>SL.ow (f:=[]) (Ow.zero h)<|SL.start0 t
def FB (K:b9)(M:Nat->cn)(n:Nat)(mf:List D->Option D):Sp:=λvs H Q _=>∃(F:Hp) (O:List D) (us:List V) (d p q p' q':D) (a b:cn),vs=us++[.ref a,.ref b]/\O.length=n/\dQ F H/\Pr (Dt K M F) O us/\a≠b/\Ow K M F H 1 p (.ref a) [a]/\Ow K M F H 1 q (.ref b) [b]/\mf (O++[p,q])=Z (.tup [d,p',q']) /\
 ∀v F' H',dQ F F'->(∀x o,H x=Z o->x≠a->x≠b->H' x=Z o)->dQ F' H'->(∀x o,H x=Z o->ot o->F x=C->F' x=C)->Ow K M F' H' 1 p' (.ref a) [a]->Ow K M F' H' 1 q' (.ref b) [b]->Dt K M F' d v->Q v H'
theorem FB.len (h:n+2=ps.length):∀vs H Q E,FB K M n mf vs H Q E->vs.length=ps.length:=by rintro vs H Q E ⟨F,O,us,d,p,q,p',q',a,b,rfl,hn,_,l,_⟩;rw[←h,←hn,l.length,cM];rfl
def E3 (n:Nat)(N:List Str)(bf:EM)(O:List D):Option D:=(bf<|Ñ N O).bind λr=>(r.2[n]?).join.bind λp=>(r.2[n+1]?).join.bind λq=>Z<|.tup [r.1,p,q]
theorem Zy {w:dW}{fd:cD}{bf:EM}(Fn:ë K x qual st fa fd)(K':iO N ps<|dS st)(BE:n+2=ps.length)(EQ:n+2+G.length=N.length)
  (body:∀(a b:cn) (kM:b8) (A:d4) (outer:List PySem.Env) (s:cF) (H:Hp) (E:XK),fY kk (A.deeper<|envOfC qual (dS st) s.heap.objs.size fa kM)->vS (sS gk P w K mg base N qual (dS st) fa kM A outer s H E).nox M (cB n (Mo.ow 0) ++ .so a::.so b::G) (iE st) bf) :
  dO P w K mg base gk (kk+1) fa fd ps (FB K M n<|E3 n N bf):=by
 refine Fn.ok K' (FB.len BE) λkM A outer s H vs Q E hr h=>?_;obtain⟨F,O,us,d,p,q,p',q',a,b,rfl,hn,sF,l,CY,oa,ob,hm,z⟩:=h;subst hn;obtain⟨t,pt,qt⟩:=body a b kM A outer s H E hr;refine⟨t,pt,?_⟩;obtain⟨⟨d1,ρ'⟩,h1,h2⟩:=cL hm;obtain⟨p1,h3,h4⟩:=cL h2;obtain⟨q1,h5,h6⟩:=cL h4;cases h6;have Oq:us.length=O.length:=l.length.symm;have GC:=(oa.cells a b7).1;have Kt:=(ob.cells b b7).1;have OL:dQ F (qT (qT H a) b):=λy o hy=>by rw[xp (λe=>by rw[e,Kt]at hy;cases hy),xp<|λe=>by rw[e,GC]at hy;cases hy];exact sF _ _ hy
 have hB:dQ (qT (qT H a) b) H:=(uu _ _).trans<|uu _ _;refine qt F (qT (qT H a) b) F H (Ñ N<|O++[p,q]) ρ' (L2.start N<|us++[.ref a,.ref b]) d1 _ ⟨.refl _,hB,sF,λ_ _ _ _ h=>h,[a,b],?_,by simp[CY],λy hy=>?_⟩ h1 ?_
 ·have e1:Ñ N (O++[p,q])=O.map Z++(Z p::Z q::cB G.length C):=by unfold Ñ;rw[show N.length-(O++[p,q]).length=G.length by rw[cM];simp;lia];simp
  have S:L2.start N (us++[.ref a,.ref b])=us.map Z++(Z (.ref a)::Z (.ref b)::cB G.length C):=by unfold L2.start;rw[show N.length-(us++[V.ref a,V.ref b]).length=G.length by rw[cM];simp;lia];simp
  rw[e1,S];have:=SL.app (.so oa<|.so ob<|SL.none (K:=K) (M:=M) (F:=F) (B:=qT (qT H a) b) (H:=H) G)<|SL.start0 (B:=qT (qT H a) b) (H:=H) l;have h7:SL K M F (qT (qT H a) b) H (cB O.length (Mo.ow 0)++Mo.so a::Mo.so b::G) (O.map Z++(Z p::Z q::cB G.length C)) (us.map Z++(Z (.ref a)::Z (.ref b)::cB G.length C)) [a,b]:=by simpa using this
  exact h7
 ·simp at hy;rcases hy with rfl|rfl
  ·rw[xp CY];exact Iz _ _
  ·exact Iz _ _
 ·intro v σ' F' H' r dt;obtain⟨_,o1,_⟩:=r.so_at (i:=O.length) (ad:=a) (by simp)<|zo h3;obtain⟨_,o2,_⟩:=r.so_at (i:=O.length+1) (ad:=b) (by simp)<|zo h5;refine z v F' H' r.f0 (λy o hy n1 n2=>r.bh _ _<|by rw[xp n2,xp n1];exact hy) r.fh (λy o hy t hn=>?_) o1 o2 dt;by_cases ea:y=a
  ·subst ea;exact(o1.cells _ b7).1
  by_cases eb:y=b
  ·subst eb;exact(o2.cells _ b7).1
  exact r.nf y o (by rw[xp eb,xp ea];exact hy) t hn
variable {gm:EM}
section
def IJ (X:Cx)(M:Nat->cn)(G:List Mo)(i j:Nat)(es:List Expr)(f:Env->Option (List D)):Prop:=∃t,PA X es t/\∀(F0 B F H:Hp) (Y:Env) (U:St) (O:List D) (a b:cn) (Q:List V->Hp->Prop),RS X.K M F0 B G F H Y U->f Y=Z O->U[i]?=Z (Z<|.ref a)->U[j]?=Z (Z<|.ref b) ->
 (∀us F' H',kL F H F' H'->Pr (Dt X.K M F') O us->Q (us++[.ref a,.ref b]) H')->t U H Q
theorem zsx (hN:X.N[i]?=Z x:=by rfl)(hv:uQ X.env.scope x:=by walk_at "v1")(hd:lH x:=by decide)(mR:vR x:=by decide)
  (Um:X.N[j]?=Z y:=by rfl) (Jh:uQ X.env.scope y:=by walk_at "v1") (hd2:lH y:=by decide) (KQ:vR y:=by decide) :
  IJ X M G i j [.Name x p1,.Name y p2] Å:=by
 refine⟨_,yw (wc hN hv hd mR)<|yw (wc Um Jh hd2 KQ) v5,λF0 B F H Y U O a b Q rs e ha hb z=>?_⟩;cases e;exact⟨_,ha,_,hb,z [] F H (.refl rs.fh) .nil⟩
theorem MC (h1:XE X M G 0 a f)(h2:IJ X M G i j es fs)(hs:SE X a es:=by rfl):IJ X M G i j (a::es) (Ä f fs):=by obtain⟨t,pt,qt⟩:=h1;obtain⟨t2,qC,sW⟩:=h2;refine⟨_,yw pt qC hs,λF0 B F H Y U O xa xb Q rs e ha hb z=>?_⟩;obtain⟨d,vH,g1,g2,g3⟩:=fD e;cases g3;refine qt F0 B F H Y U d _ rs g1 λv F1 H1 x1 l=>?_;exact sW F0 B F1 H1 Y U vH xa xb _ (rs.ext x1) g2 ha hb λus F2 H2 x2 l2=>z (v::us) F2 H2 (x1.trans x2)<|.cons (Dt.mono x2.ff l) l2
def XM (X:Cx)(M:Nat->cn)(G:List Mo)(e:Expr)(g:EM):Prop:=∃t,PE X e t/\∀(F0 B F H:Hp) (Y ρ':Env) (U:St) (d:D) (Q:VK),RS X.K M F0 B G F H Y U->g Y=Z (d,ρ')->(∀v F' H',RS X.K M F0 B G F' H' ρ' U->Dt X.K M F' d v->Q v H')->t U H Q
def tQ (i j:Nat)(fs:Env->Option (List D))(mf:List D->Option D):EM:=λY=>(fs Y).bind λO=>(L i Y).bind λp=>(L j Y).bind λq=>if iQ p=Â/\iQ q=Â then(mf<|O++[p,q]).bind λr=>match r with
 |.tup [d,p',q']=>Z (d,(Y.set i<|Z p').set j<|Z q')
 |_=>C else C
theorem MD {v:V}(h:U[i]?=Z (Z v)):U.set i (Z v) = U:=by
 apply nY;intro k;rw[AX];by_cases e:i=k
 ·subst e;rw[if_pos rfl];by_cases hl:i < U.length
  ·rw[if_pos hl,h]
  ·rw[if_neg hl,lG<|by lia]
 ·rw[if_neg e]
theorem RS.two {p q:D}(rs:RS K M F0 B G F H Y U)(Bg:i≠j)(D2:G[i]?=Z (.ow 1))(D3:G[j]?=Z (.ow 1))(hp:Y[i]?=Z (Z p))(hq:Y[j]?=Z (Z q))(cp:iQ p=Â)(cq:iQ q=Â) :
  ∃a b,U[i]?=Z (Z<|.ref a)/\U[j]?=Z (Z<|.ref b)/\a≠b/\Ow K M F H 1 p (.ref a) [a]/\Ow K M F H 1 q (.ref b) [b]/\B a=C/\B b=C /\
   ∀(F' H':Hp) (p' q':D),dQ F F'->(∀x o,H x=Z o->x≠a->x≠b->H' x=Z o)->dQ F' H'->(∀x o,H x=Z o->ot o->F x=C->F' x=C)->Ow K M F' H' 1 p' (.ref a) [a]->Ow K M F' H' 1 q' (.ref b) [b]->RS K M F0 B G F' H' ((Y.set i<|Z p').set j<|Z q') U:=by
 obtain⟨f1,fr,n1,b1,dj,i4,cf,put⟩:=rs.put (F':=F) (H':=H) D2;obtain⟨v,hσ,ow⟩:=i4 p hp;obtain⟨a,rfl,rfl⟩:=ow.cell cp;obtain⟨f2,fr2,n2,b2,dj2,U2,cf2,put2⟩:=rs.put (F':=F) (H':=H) D3;obtain⟨v2,EX,LD⟩:=U2 q hq;obtain⟨b,rfl,rfl⟩:=LD.cell cq;have ca:=ow.cells a b7;have cb:=LD.cells b b7;have CY:a≠b:=by
  intro e;subst e;have r1:=put F (qT H a) (.non) .non [] (.refl _) (λy o hy=>by rw[xp<|λe=>by rw[e,b1 a b7]at hy;cases hy];exact rs.bh _ _ hy) (λy o hy=>by rw[xp<|λe=>by rw[e,ca.1]at hy;cases hy];exact rs.fh _ _ hy) rs.nf
   (λy hy=>⟨xp<|λe=>dj a b7<|e▸hy,(cf y hy).1⟩) (Ow.scal .non rfl) dC (λy hy=>by cases hy) (λy hy=>by cases hy)
  obtain⟨f3,IQ,n3,b3,Ko,Lo,NM,put3⟩:=r1.put (F':=F) (H':=H) D3;obtain⟨v3,Hd,Js⟩:=Lo q (by rw[gq Bg];exact hq);obtain⟨a3,rfl,rfl⟩:=Js.cell cq;rw[gq Bg,EX]at Hd;cases Hd;obtain⟨o,ho,_⟩:=(Js.cells a b7).2;rw[Iz]at ho;cases ho
 refine⟨a,b,hσ,EX,CY,ow,LD,b1 a b7,b2 b b7,λF' H' p' q' s1 kH s3 nf o1 o2=>?_⟩;have Ba:=b1 a b7;have Bb:=b2 b b7;have GC:=(o1.cells a b7).1;have Kt:=(o2.cells b b7).1;obtain⟨ob,UO,_⟩:=cb.2;have hm:∀y,y≠b->gK H' b ob y=H' y:=λy ne=>zu ne;have r1:=put F' (gK H' b ob) p' (.ref a) [a] s1 (λy o hy=>by
   have na:y≠a:=λe=>by rw[e,Ba]at hy;cases hy
   have nb:y≠b:=λe=>by rw[e,Bb]at hy;cases hy
   rw[hm y nb];exact kH y o (rs.bh _ _ hy) na nb) (λy o hy=>by
   rw[hm y<|λe=>by rw[e,Kt]at hy;cases hy];exact s3 _ _ hy) (λy o hy t hn=>nf y o (rs.bh _ _ hy) t<|rs.nf y o hy t hn) (λy hy=>by
   obtain⟨hn,o,ho,nt⟩:=cf y hy;refine⟨?_,nf y o ho nt hn⟩;have na:y≠a:=λe=>dj a b7<|e▸hy;by_cases nb:y=b
   ·subst nb;rw[zw,UO]
   ·rw[hm y nb,kH y o ho na nb,ho]) (o1.frame (.refl _) λy hy=>by
   rw[cw]at hy;subst hy;exact⟨hm _ CY,GC⟩) (by simp) (λy hy=>by
   rw[cw]at hy;subst hy;exact dj _ b7) (λy hy=>by
   rw[cw]at hy;subst hy;exact Ba)
 rw[MD hσ]at r1;obtain⟨f3,IQ,n3,b3,Ko,Lo,NM,put3⟩:=r1.put (F':=F) (H':=H) D3;obtain⟨v3,Hd,Js⟩:=Lo q (by rw[gq Bg];exact hq);obtain⟨a3,rfl,rfl⟩:=Js.cell cq;rw[EX]at Hd;cases Hd;have r2:=put3 F' H' q' (.ref b) [b] (.refl _) (λy o hy=>by
   have na:y≠a:=λe=>by rw[e,Ba]at hy;cases hy
   have nb:y≠b:=λe=>by rw[e,Bb]at hy;cases hy
   exact kH y o (rs.bh _ _ hy) na nb) s3 r1.nf (λy hy=>by
   have nb:y≠b:=λe=>Ko b b7<|e▸hy;exact⟨(hm y nb).symm,(NM y hy).1⟩) o2 (by simp) (λy hy=>by
   rw[cw]at hy;subst hy;exact Ko _ b7) (λy hy=>by
   rw[cw]at hy;subst hy;exact Bb)
 rw[MD EX]at r2;exact r2
variable {fd:cD}
theorem zsy (Bg:i≠j)(D2:G[i]?=Z (.ow 1))(D3:G[j]?=Z (.ow 1))(Fn:dO X.prog X.w X.K X.mg X.base gk kk fa fd ps<|FB X.K M n mf)(hr:fY kk X.A)(hg:Gl X x)(hm:X.mg x=Z (.ref fa))(hk:fu X.K (.ref fa)=Â)
  (hb:iA X.K fd ps vU) (hd:dR [] vU) (hn:∀Y O,fs Y=Z O->O.length=n) (ha:IJ X M G i j (e::es) fs)
  (oR:lH x:=by decide) (he:SE X e es:=by rfl) (mh:rc X pos es:=by rfl) :
  XM X M G (.Call (.Name x pp) (e::es) [] pos) (tQ i j fs mf):=by
 obtain⟨t,pt,qt⟩:=ha;refine⟨_,MP Fn hr hg hm hk hb hd qJ pt oR he mh,λF0 B F H Y ρ' U d Q rs e z=>?_⟩;obtain⟨O,h1,h2⟩:=cL e;obtain⟨p,h3,h4⟩:=cL h2;obtain⟨q,h5,h6⟩:=cL h4;by_cases hc:iQ p=Â/\iQ q=Â
 ·rw[if_pos hc]at h6;obtain⟨r,h7,h8⟩:=cL h6;have:∃p' q',r=.tup [d,p',q']/\ρ'=(Y.set i<|Z p').set j (Z q'):=by
   split at h8
   ·cases h8;exact⟨_,_,rfl,rfl⟩
   ·cases h8
  obtain⟨p',q',rfl,rfl⟩:=this;obtain⟨a0,b0,hσ,EX,_⟩:=rs.two Bg D2 D3 (zo h3) (zo h5) hc.1 hc.2;refine qt F0 B F H Y U O a0 b0 _ rs h1 hσ EX λus F1 H1 x1 l=>?_;obtain⟨a,b,CD,Hc,CY,oa,ob,Ba,Bb,put⟩:=(rs.ext x1).two Bg D2 D3 (zo h3) (zo h5) hc.1 hc.2;rw[hσ]at CD;rw[EX]at Hc;cases CD;cases Hc;refine⟨F1,O,us,d,p,q,p',q',a0,b0,by simp,hn _ _ h1,x1.fh,l,CY,oa,ob,h7,λv F' H' s1 kH s3 nf o1 o2 dt=>?_⟩;exact z v F' H' (put F' H' p' q' s1 kH s3 nf o1 o2) dt
 ·rw[if_neg hc]at h6;cases h6
theorem u5:∀(Y:Env) (O:List D),Å Y=Z O->O.length=0:=λY O e=>by cases e;rfl
theorem xq (h:∀(Y:Env) (O:List D),fs Y=Z O->O.length=n):∀(Y:Env) (O:List D),Ä f fs Y=Z O->O.length=n+1:=λY O e=>by obtain⟨x,xs,h1,h2,h3⟩:=fD e;cases h3;rw[cz,h Y xs h2]
def Ö (i:Nat)(g:EM):SF:=λY=>(g Y).bind λr=>Z<|.nx<|r.2.set i<|Z r.1
theorem JP (hm:G[i]?=Z (.ow 0))(hN:X.N.Nodup)(hi:X.N[i]?=Z x)(hx:ï X.env.scope x)(he:XM X M G e gm)(hs:Gv X e x pos' pos:=by rfl)
  (hf:wW X x:=by walk_at "v2"):XS X M G rk (.Assign [.Name x pos'] e pos) (Ö i gm):=by
 obtain⟨t,pt,qt⟩:=he;refine⟨_,Se hN hi hx pt hs hf,λF0 B F H Y U o E rs e w=>?_⟩;obtain⟨⟨d,ρ'⟩,h1,h2⟩:=cL e;cases h2;exact qt F0 B F H Y ρ' U d _ rs h1 λv F' H' r l=>w _ F' H' (r.set hm (.refl r.fh) (Ow.zero l) dC λa z=>(by cases z))
end
def gL (gs:List D->Env->Option Env):D->Env->Option Env:=λd Y=>match d with
 |.lst O=>gs O Y
 |_=>C
theorem Ũ (hc:X.calm=Â)(h:Gx X M G (n-1) qN gs)(hl:(eE qN X.env).length=qN.length:=by rfl)(n8:(eE qN X.env).findIdx? (·.1)=C:=by rfl):XG X M G n (.Tuple qN j pos) (gL gs):=by
 obtain⟨t,pt,lt,qt⟩:=h;refine⟨_,ϐ (n:=qN.length) hc pt hl n8,λF0 B F H Y ρ' U d v Q rs l e w=>?_⟩;cases d with
 |lst O=>
  have:∃a vs,v=.ref a/\jJ X.K H a vs/\Pr (Al X.K M F B<|n-1) O vs:=by
   cases n with
   |zero=>
    have l:Dt X.K M F (.lst O) v:=l;cases l with
    |lst q t=>exact⟨_,_,rfl,rs.fh.seq q,t.pr⟩
   |succ n=>
    rcases l with l|l
    ·cases l with
     |lst q t=>exact⟨_,_,rfl,rs.fh.seq q,t.pr.mono λ_ _=>Al.of⟩
    ·cases l with
     |lst q t=>exact⟨_,_,rfl,jJ.of<|rs.bh _ _ q,t⟩
  obtain⟨a,vs,rfl,ha,hp⟩:=this;exact⟨a,vs,rfl,ha,hp.length.symm.trans<|lt _ _ _ e,qt F0 B F H Y ρ' U O vs Q rs hp e w⟩
 |_=>cases e
def ą (K:b9):V->List V->Hp->VK->Prop:=λx vs H Q=>∃sp p ys,x=.str sp/\vs=[.ref p]/\jJ K H p (ys.map V.str)/\(ys.map (·.length)).sum+ys.length*sp.length<=16777216/\Q (.str<|PySem.Str.join sp ys) H
theorem oE:∀{ys:List Str} {us:List b8},dR (ys.map V.str) us->StrsAre us ys
 |[],_,.nil=>.nil
 |y::ys,_,.cons r t=>by obtain⟨tk,rfl⟩:=r;exact .cons y tk<|oE t
theorem zsz:Gm X "str.join" (ą X.K):=by intro ce s U H x vs v us Q I rx rv h;obtain⟨sp,p,ys,rfl,rfl,hq,hl,q⟩:=h;obtain⟨tk,rfl⟩:=rx;obtain⟨u,rfl,ru⟩:=rv.one;cases ru;obtain⟨dP,r,pl,hz⟩:=I.list hq;refine PyProof.Rows.join_list pl.isList (by simpa using oE r) hl λt' k=>⟨.str<|PySem.Str.join sp ys,H,I.tok _,⟨t',?_⟩,q⟩;have:PySem.Txt.join sp ys=PySem.Str.join sp ys:=PySem.StrLaws.glued_eq_join sp ys;rw[this]
def sM:List D->Option (List Str)
 |[]=>Z []
 |.str i::O=>(sM O).bind λns=>Z (i::ns)
 |_=>C
theorem PB:∀{O:List D} {ns:List Str},sM O=Z ns->O=ns.map .str
 |[],_,e=>by cases e;rfl
 |d::O,ns,e=>by
  cases d with
  |str i=>obtain⟨G,h1,h2⟩:=cL<|show(sM O).bind _=_ from e;cases h2;rw[PB h1];rfl
  |_=>cases e
def qI:D->D->Option D
 |.str sp,.lst O=>(sM O).bind λys=>if(ys.map (·.length)).sum+ys.length*sp.length<=16777216 then Z (.str<|PySem.Str.join sp ys)else C
 |_,_=>C
theorem SH {F H:Hp}{K:b9}:∀{ys:List Str} {vs:List V},Pr (Al K M F H n) (ys.map D.str) vs->vs=ys.map V.str
 |[],_,.nil=>rfl
 |y::ys,_,.cons h t=>by have q:=Al.scal (F':=F) h rfl;cases q;rw[SH t];rfl
theorem ML (ho:XE X M G n o f)(he:XE X M G m e g)(n8:SE X e []:=by rfl)
  (pL:CN X o "join":=by rfl)
  (tR:FA X jB [e]:=by rfl)
  (pM:(iB.endLine==jB.line)=Â:=by rfl) (mS:rc X jB []:=by rfl) :
  XE X M G k (.Call (.Attribute o "join" iB) [e] [] jB) (S qI f g):=by
 obtain⟨ta,pa,qa⟩:=ho;obtain⟨tb,pb,qb⟩:=he;refine⟨_,IC PySem.F.plainAttrs_str PySem.F.slot_str_join PySem.F.type_str_join zsz pa (yw pb v5 n8) pL tR pM n8 mS,λF0 B F H Y U d Q rs e w=>?_⟩;obtain⟨d1,d2,h1,h2,h3⟩:=fD e;refine qa F0 B F H Y U d1 _ rs h1 λv1 F1 H1 x1 l1=>?_;cases d1 with
 |str sp=>
  cases d2 with
  |lst O=>
   obtain⟨ys,h4,h5⟩:=cL<|show(sM O).bind _=_ from h3;by_cases hz:(ys.map (·.length)).sum+ys.length*sp.length<=16777216
   ·rw[if_pos hz]at h5;cases h5;have q1:=Al.scal (F':=F1) l1 rfl;cases q1;refine⟨rfl,qb F0 B F1 H1 Y U _ _ (rs.ext x1) h2 λv2 F2 H2 x2 l2=>?_⟩;obtain⟨p,vs,rfl,hp,Ji⟩:=l2.lst x2.fh;rw[PB h4]at Ji;have hv:=SH Ji;subst hv;exact⟨sp,p,ys,rfl,rfl,hp,hz,w _ F2 H2 (x1.trans x2)<|Al.of<|.str _⟩
   ·rw[if_neg hz]at h5;cases h5
  |_=>cases h3
 |_=>cases h3
def AF (h:cO)(dx:df)(y:b8):Bool:=@decide (∃d J,Reads h y d J/\d.canLay0=Â/\df.eqv d dx=Â)<|Classical.propDecidable _
theorem Rx {h:cO}{dx d:df}{y:b8}{J:List cn}(r:Reads h y d J)(c:d.canLay0=Â):AF h dx y=df.eqv d dx:=by
 unfold AF;cases e:df.eqv d dx with
 |true=>exact@decide_eq_true _ (Classical.propDecidable _) ⟨d,J,r,c,e⟩
 |false=>refine@decide_eq_false _ (Classical.propDecidable _) λgx=>?_;obtain⟨d',Tx,r',c',e'⟩:=gx;have:=SeqAt.Reads.unique d d' y J Tx c r r';rw[←this,e]at e';cases e'
theorem Qg {h:cO}:∀{us:List b8} {O:List df} {bs:List cn},ReadsAll h us O bs->∀w∈us,∃d J,Reads h w d J/\d∈O
 |_,_,_,.nil,w,hw=>by cases hw
 |_,_,_,.cons r t,w,hw=>by
  rcases cu.mp hw with rfl|hw
  ·exact⟨_,_,r,b7⟩
  ·obtain⟨d,J,h1,h2⟩:=Qg t w hw;exact⟨d,J,h1,cj _ h2⟩
theorem Ry {h:cO}{dx:df}:∀{us:List b8} {O:List df} {bs:List cn},ReadsAll h us O bs->(∀d∈O,d.canLay0=Â)->us.any (AF h dx)=O.any λd=>df.eqv d dx
 |_,_,_,.nil,_=>rfl
 |_,_,_,.cons r t,c=>by rw[ga,ga,Rx r<|c _ b7,Ry t λd hd=>c d<|cj _ hd]
def HE (K:b9)(neg:Bool):R2:=λx y H Q=>∃p xs dx O,y=.ref p/\jJ K H p xs/\L2.Dt K H x dx/\L2.ä K H xs O/\dx.canLay0=Â/\dx.depth<=60/\(∀d∈O,d.canLay0=Â)/\Q (.bl<|if neg then !(O.any λd=>df.eqv d dx)else O.any λd=>df.eqv d dx) H
theorem Yy (hu:X.A.units+64<lW):k9 X (d6 .In) (HE X.K Ã):=by
 intro ce s U H x y v u Q I rx ry h;obtain⟨p,xs,dx,O,rfl,hq,hx,hs,cx,dp,cs,q⟩:=h;cases ry;obtain⟨dP,r,pl,hz⟩:=I.list hq;obtain⟨ax,Vk⟩:=hx.reads I rx;obtain⟨bs,OK⟩:=hs.reads I r;refine SeqAt.in_listAt (AF s.heap dx) pl.isList (λw hw=>?_) ⟨.bl _,H,I,rfl,?_⟩
 ·obtain⟨d,J,h1,h2⟩:=Qg OK w (by simpa using hw);rw[Rx h1<|cs d h2];refine SeqAt.eqAt_reads d dx _ s w v J ax h1 Vk (cs d h2) cx ?_;have:=Nat.min_le_right d.depth dx.depth;show X.A.units+1+min d.depth dx.depth<lW;lia
 ·rw[show dP.toArray.any (AF s.heap dx)=dP.any (AF s.heap dx)by simp,Ry OK cs];exact q
def inE (neg:Bool)(x y:D):Option D:=match y with
 |.lst O=>x.py.bind λa=>(D.pys O).bind λbs=>if pP a=Â/\bs.all pP=Â then Z (.bl<|if neg then !(bs.any λb=>df.eqv b a)else bs.any λb=>df.eqv b a)else C
 |_=>C
theorem zs0:qR K M n m k (HE K neg) (inE neg):=by
 intro F H x y d1 d2 d Q s l1 l2 e w;cases d2 with
 |lst O=>
  unfold inE at e;dsimp only at e;obtain⟨a,b,h1,h2,h3⟩:=fD e;by_cases h:pP a=Â/\b.all pP=Â
  ·rw[if_pos h]at h3;cases h3;have o1:=h.1;unfold pP at o1;rw[c9,decide_eq_true_iff]at o1;have hy:=Al.toPy s l2 (show(D.lst O).py=Z (.list b)by simp only[D.py];rw[h2];rfl);have hx:=Al.toPy s l1 h1;cases hy with
   |lst hq hs=>refine⟨_,_,a,b,rfl,hq,hx,hs,o1.1,o1.2,λd hd=>?_,w _ F H (.refl s)<|Al.of<|.bl _⟩;have:=ej.mp h.2 d hd;unfold pP at this;rw[c9]at this;exact this.1
  ·rw[if_neg h]at h3;cases h3
 |_=>cases e
section
variable [DecidableEq α]
theorem pv.inE (E:pv α)(h:E.dep<=60)(x:α)(ys:List α):L3.inE neg (E.enc x) (.lst<|ys.map E.enc)=Z (.bl<|if neg then !decide (x∈ys)else decide (x∈ys)):=by
 unfold L3.inE;dsimp only;rw[E.is x,MW E ys];have ok:∀z,pP (E.py z)=Â:=λz=>by unfold pP;rw[E.lay z,decide_eq_true<|eD (E.dp z) h];rfl
 simp only[d8];rw[if_pos ⟨ok x,by rw[mJ];exact ej.mpr λz _=>ok z⟩];have e:(ys.map E.py).any (λb=>df.eqv b<|E.py x)=decide (x∈ys):=by
  rw[rT];induction ys with
  |nil=>rfl
  |cons y ys ih=>
   rw[ga,ih];show(df.eqv (E.py y) (E.py x) || _)=_;rw[E.eqv];by_cases h1:y=x
   ·simp[h1]
   ·have:¬x=y:=λz=>h1 z.symm;simp[h1,this]
 rw[e]
end
variable {kq:Nat}
section
variable {fd:cD}
theorem ma (h:XO X M G k e f):XO X M G 0 e f:=XE.ow<|XO.sh (n:=0) h
theorem o7 (hN:X.N.Nodup)(ho:i<own:=by decide)(hm:G[i]?=Z (.ow 0):=by rfl)(hi:X.N[i]?=Z x:=by rfl)(hx:ï X.env.scope x:=by walk_at "v3")
  (hf:wW X x:=by walk_at "v2"):Ct X M G own 0 (.Name x pos) (gV i):=Zg ho hm hN hi hx hf
theorem mZ (hN:X.N.Nodup)(he:XO X M G k e f)(hm:G[i]?=Z (.ow k):=by rfl)(hi:X.N[i]?=Z x:=by rfl)(hx:ï X.env.scope x:=by walk_at "v3")
  (hs:Gv X e x pos' pos:=by rfl)
  (hf:wW X x:=by walk_at "v2"):XS X M G rk (.Assign [.Name x pos'] e pos) (É i f):=Ŵ hm hN hi hx he hs hf
theorem rO (hN:X.N.Nodup)(hm:G[i]?=Z (.ow 0):=by rfl)(hi:X.N[i]?=Z x:=by rfl)(hx:ï X.env.scope x:=by walk_at "v3")
  (hf:wW X x:=by walk_at "v2"):XG X M G 0 (.Name x pos) (gV i):=zr4 hm hN hi hx hf
theorem iJ (d:kn X.K X.mg x st ps fa fd)(Fn:dO X.prog X.w X.K X.mg X.base gk kk fa fd ps<|jR X.K M ns rk mf)(hr:fY kq X.A)(ha:XA X M G (e::es) ns fs)(rG:kk<=kq:=by decide)(hg:Gl X x:=by rfl)
  (oR:lH x:=by decide) (he:SE X e es:=by rfl) (mh:rc X pos es:=by rfl) :
  XO X M G rk (.Call (.Name x pp) (e::es) [] pos) (λY=>(fs Y).bind λO=>mf<|O++[]) :=
 Z7 (ns:=ns) (nd:=[]) (zW:=[]) (by rw[dH];exact Fn) (hr.mono rG) hg d.mgx d.fn.kp d.bd .nil (λ_ _=>.nil) ha oR he mh
theorem dL {i:Int}{j}:XE X M G 0 (.Constant (.int i) j pos) (eC<|.int i):=Ŷ
theorem pY {j}:XE X M G 0 (.Constant .none j pos) (eC .non):=ŵ
theorem mE (ha:XE X M G 0 a f)(hb:XE X M G 0 b g):XO X M G 1 (.BinOp a .Add b pos) (S d9 f g):=Ī zsf (zsg (by decide)<|by decide) ha hb
theorem e9 (ha:XE X M G 0 a f)(hb:XE X M G 0 b g)(hp:tF b:=by exactλ_ _=>rfl):XE X M G 0 (.Subscript a b pos) (S dM f g):=S4 (n:=0) Sh Su ha hb hp
theorem qD (hm:X.mg "len"=C)(ha:XA X M G [e] [n] fs)(hg:Gl X "len":=by rfl)(he:SE X e []:=by rfl)(mh:rc X pos []:=by rfl):XE X M G 0 (.Call (.Name "len" pp) [e] [] pos) (eN fC fs):=yp (k:=0) X8 zsa hg hm ϒ ha (by decide) (by decide) he mh
theorem lA0 {P:List b8->Prop}(h:P [])(us:List b8)(e:us.length=0):P us:=by
 cases us with
 |nil=>exact h
 |cons a t=>cases e
theorem Ġ {P:List b8->Prop}(h:∀a1,P [a1])(us:List b8)(e:us.length=1):P us:=by
 cases us with
 |nil=>cases e
 |cons a t=>exact lA0 (P:=λt=>P (a::t)) (h a) t<|Nat.succ.inj e
theorem ğ {P:List b8->Prop}(h:∀a1 a2,P [a1,a2])(us:List b8)(e:us.length=2):P us:=by
 cases us with
 |nil=>cases e
 |cons a t=>exact Ġ (P:=λt=>P (a::t)) (h a) t<|Nat.succ.inj e
theorem Ğ {P:List b8->Prop}(h:∀a1 a2 a3,P [a1,a2,a3])(us:List b8)(e:us.length=3):P us:=by
 cases us with
 |nil=>cases e
 |cons a t=>exact ğ (P:=λt=>P (a::t)) (h a) t<|Nat.succ.inj e
theorem Ĉ {P:List b8->Prop}(h:∀a1 a2 a3 a4,P [a1,a2,a3,a4])(us:List b8)(e:us.length=4):P us:=by
 cases us with
 |nil=>cases e
 |cons a t=>exact Ğ (P:=λt=>P (a::t)) (h a) t<|Nat.succ.inj e
theorem ć {P:List b8->Prop}(h:∀a1 a2 a3 a4 a5,P [a1,a2,a3,a4,a5])(us:List b8)(e:us.length=5):P us:=by
 cases us with
 |nil=>cases e
 |cons a t=>exact Ĉ (P:=λt=>P (a::t)) (h a) t<|Nat.succ.inj e
theorem Ĥ {P:List b8->Prop}(h:∀a1 a2 a3 a4 a5 a6,P [a1,a2,a3,a4,a5,a6])(us:List b8)(e:us.length=6):P us:=by
 cases us with
 |nil=>cases e
 |cons a t=>exact ć (P:=λt=>P (a::t)) (h a) t<|Nat.succ.inj e
end
inductive Tt where
 |ok (d:D)|xc (d:D)
inductive Kj where
 |ok (o:ð)|xc (Y:Env) (d:D)
abbrev SFx:=Env->Option Kj
theorem zya {B:cn}{b:Bool}(h1:Ax K B=Â)(h2:A9 K (.ref B)=Z (.type "type"))(h3:Br K (.ref V') (.ref B)=Z b)(h4:Br K (.ref B) (.type "BaseException")=Z Â):A8 K (.ref V') (.ref B)=Z b:=by unfold A8 PySem.W.kitCls;rw[h4,if_pos<|by decide];dsimp only;rw[if_pos,h3];unfold Ax at h1;rw[h1,h2];rfl
def lT:List D->List D->List D->List D
 |x::xs,y::ys,u::us=>.tup [x,y,u]::lT xs ys us
 |_,_,_=>[]
theorem Qh:∀{xs ys us:List D} {i:Nat} {d:D},(lT xs ys us)[i]?=Z d->∃x y u,xs[i]?=Z x/\ys[i]?=Z y/\us[i]?=Z u/\d=.tup [x,y,u]
 |[],_,_,_,_,h=>by simp[lT]at h
 |_::_,[],_,_,_,h=>by simp[lT]at h
 |_::_,_::_,[],_,_,h=>by simp[lT]at h
 |x::xs,y::ys,u::us,0,d,h=>by simp[lT]at h;subst h;exact⟨x,y,u,rfl,rfl,rfl,rfl⟩
 |x::xs,y::ys,u::us,i+1,d,h=>by obtain⟨a,b,c,h1,h2,h3,h4⟩:=Qh (xs:=xs) (ys:=ys) (us:=us) (i:=i) (d:=d) (by simpa[lT]using h);exact⟨a,b,c,by simpa using h1,by simpa using h2,by simpa using h3,h4⟩
theorem Qi:∀{xs ys us:List D},(lT xs ys us).length=min xs.length (min ys.length us.length)
 |[],_,_=>by simp[lT]
 |_::_,[],_=>by simp[lT]
 |_::_,_::_,[]=>by simp[lT]
 |x::xs,y::ys,u::us=>by simp only[lT,cz,Qi (xs:=xs) (ys:=ys) (us:=us)];lia
theorem ŧ {a b c:cn}{vs ws:List V}{es fs:List D}(hp:Pr (Al K M F B n) O vs)(yV:Pr (Al K M F B n) es us)(FP:Pr (Al K M F B n) fs ws)(keep:∀F' H',dQ F F'->dQ B H'->dQ F' H'->jJ K H' a vs/\jJ K H' b us/\jJ K H' c ws):Az K M F B (n+1) (Kf K [(a,Ã),(b,Ã),(c,Ã)]) (lT O es fs):=by
 intro i F' H' s1 s2 s3;obtain⟨hs,Ab,tG⟩:=keep F' H' s1 s2 s3;refine⟨λd hd=>?_,λhl=>⟨λq hq=>?_,?_⟩⟩
 ·obtain⟨x,y,u,hx,hy,hu,rfl⟩:=Qh hd;obtain⟨v,hv,l⟩:=hp.get' hx;obtain⟨v',FR,l'⟩:=yV.get' hy;obtain⟨v2,Jh,l2⟩:=FP.get' hu;refine⟨λq hq=>?_,λz H2 q=>?_⟩
  ·simp only[cu,dZ,or_false]at hq;rcases hq with rfl|rfl|rfl
   ·exact⟨vs,hs,v,hv⟩
   ·exact⟨us,Ab,v',FR⟩
   ·exact⟨ws,tG,v2,Jh⟩
  ·obtain⟨r,g,hr,rfl,rfl,q⟩:=q;have e1:=hv.symm.trans (q (a,Ã) (by simp) vs hs);have S:=FR.symm.trans (q (b,Ã) (by simp) us Ab);have e3:=Jh.symm.trans (q (c,Ã) (by simp) ws tG);rw[cI,cI,cI,pf,←Option.some.inj e1,←Option.some.inj S,←Option.some.inj e3];have sm:=s1.trans<|vb (s3.free hr)<|.tup [v,v',v2];exact⟨_,kL.newS s3 hr _,.inr<|.tup zw<|.cons (l.mono sm<|.refl _)<|.cons (l'.mono sm<|.refl _)<|.cons (l2.mono sm<|.refl _) .nil⟩
 ·simp only[cu,dZ,or_false]at hq;rcases hq with rfl|rfl|rfl
  ·exact⟨vs,hs⟩
  ·exact⟨us,Ab⟩
  ·exact⟨ws,tG⟩
 ·rw[Qi,hp.length,yV.length,FP.length]at hl;rcases(by lia:vs.length<=i\/us.length<=i\/ws.length<=i)with h|h|h
  ·exact⟨(a,Ã),by simp,vs,hs,h⟩
  ·exact⟨(b,Ã),by simp,us,Ab,h⟩
  ·exact⟨(c,Ã),by simp,ws,tG,h⟩
def Cb:List D->Option (List D)
 |[.lst xs,.lst ys,.lst us]=>Z<|lT xs ys us
 |_=>C
theorem Zz {kt:Nat}(hm:X.mg "zip"=C)(ha:XA X M G [a,b,c] [n,n,n] fs)(hg:Gl X "zip":=by rfl)(he:dE [a,b,c] X.env=(Ã,fB a X.env)::dE [b,c] X.env:=by rfl)(hp:(kh pos<|dE [b,c] X.env).any (·.1)=Ã:=by rfl) :
  DU X M G (n-1+1) (.Tuple uS kt pt) (.Call (.Name "zip" pp) [a,b,c] [] pos) (λY=>(fs Y).bind Cb):=by
 obtain⟨t,pt,_,qt⟩:=ha;refine⟨_,OH (by decide) (by decide) zrw hg hm pt he hp,λF0 B F H Y U O R rs e w=>?_⟩;obtain⟨vH,h1,h2⟩:=cL e;refine qt F0 B F H Y U _ _ rs h1 λvs F' H' x l=>?_;cases l with
 |cons h t=>
  cases t with
  |cons h' t=>
   cases t with
   |cons h3 t=>
    cases t;rename_i d v d' v' d3 v3;cases d with
    |lst xs=>
     cases d' with
     |lst ys=>
      cases d3 with
      |lst us=>
       cases h2;obtain⟨a,vs,rfl,ha,hp⟩:=h.lst x.fh;obtain⟨b,us,rfl,hb,yV⟩:=h'.lst x.fh;obtain⟨c,ws,rfl,hc,FP⟩:=h3.lst x.fh;refine⟨[(a,Ã),(b,Ã),(c,Ã)],rfl,rfl,λq hq=>?_,w _ F' H' x<|ŧ hp yV FP λF2 H2 s1 s2 s3=>⟨s2.seq ha,s2.seq hb,s2.seq hc⟩⟩;simp only[cu,dZ,or_false]at hq;rcases hq with rfl|rfl|rfl
       ·exact⟨vs,ha⟩
       ·exact⟨us,hb⟩
       ·exact⟨ws,hc⟩
      |_=>cases h2
     |_=>cases h2
    |_=>cases h2
noncomputable def LL (c n:Nat):Str:=⟨Array.replicate n c⟩
def Vc:D->D->Option D
 |.str y,.int i=>match y.cps.toList with
  |[c]=>if -1000000<=i/\i<=1000000 then Z (.str<|LL c i.toNat)else C
  |_=>C
 |_,_=>C
def LK:V->Option Int->Option Int->Hp->VK->Prop:=λx lo hi H Q=>∃y,x=.str y/\y.length<=sizeLine/\Q (.str<|Txt.slice y lo hi) H
theorem Ŧ:Kk X LK:=by
 intro ce s U H x v vl vu lo hi sl Q I rx hs pl pu h;obtain⟨y,rfl,hz,q⟩:=h;obtain⟨t,rfl⟩:=rx;have key:∀l u:Option (Int×Tok),vl=PySem.partValue l->vu=PySem.partValue u->lo=l.map (·.1)->hi=u.map (·.1)->cW (c8 X.prog X.w) X.A (rW (.str y t)<|.ref sl) (EP X ce U Q) X.xe s:=by rintro l u rfl rfl rfl rfl;refine wpAny_getItem_str_slice (l:=l) (u:=u) (st:=none) hs rfl<|post_val_or_str ⟨eD (Txt.slice_le y (l.map (·.1))<|u.map (·.1)) hz,λt' k=>⟨.str<|Txt.slice y (l.map (·.1))<|u.map (·.1),H,I.tok _,⟨t',rfl⟩,q⟩⟩
 refine⟨"str",_,F.slot_str_getitem.lookup,typeIs_str _ _ _,?_⟩;cases pl with
 |none=>cases pu with
  |none=>exact key C C rfl rfl rfl rfl
  |int j tj=>exact key C (Z (j,tj)) rfl rfl rfl rfl
 |int i ti=>cases pu with
  |none=>exact key (Z (i,ti)) C rfl rfl rfl rfl
  |int j tj=>exact key (Z (i,ti)) (Z (j,tj)) rfl rfl rfl rfl
def t8 (d:D)(lo hi:Option Int):Option D:=match d with
 |.str y=>if y.length<=16777216 then Z (.str<|Txt.slice y lo hi)else C
 |_=>C
theorem Qj {lo hi:Option Expr}{pl ph:PF}{p1}(he:XE X M G n e f)(hl:XP X M G lo pl)(hh:XP X M G hi ph):XE X M G k (.Subscript e (.Slice lo hi C p1) pos) (λY=>(f Y).bind λd=>(pl Y).bind λl=>(ph Y).bind λh=>t8 d l h):=by
 obtain⟨t,pt,qt⟩:=he;obtain⟨t1,xD,xE⟩:=hl;obtain⟨t2,qC,sW⟩:=hh;refine⟨_,QD Ŧ pt xD qC,λF0 B F H Y U r Q rs e w=>?_⟩;obtain⟨d,l,h1,h2,h3⟩:=fD e;obtain⟨hh,h4,h5⟩:=cL h3;refine qt F0 B F H Y U d _ rs h1 λv F1 H1 x1 l1=>?_;refine xE F0 B F1 H1 Y U l _ (rs.ext x1) h2 λF2 H2 x2=>?_;refine sW F0 B F2 H2 Y U hh _ ((rs.ext x1).ext x2) h4 λF3 H3 x3=>?_;cases d with
 |str y=>
  have h5:(if y.length<=16777216 then Z (D.str<|Txt.slice y l hh)else C)=Z r:=h5;by_cases hz:y.length<=16777216
  ·rw[if_pos hz]at h5;cases h5;have q1:=Al.scal (F':=F1) l1 rfl;cases q1;exact⟨y,rfl,hz,w _ F3 H3 ((x1.trans x2).trans x3)<|Al.of<|.str _⟩
  ·rw[if_neg hz]at h5;cases h5
 |_=>cases h5
def se:D->D->Option D
 |.str y,.str z=>if(z.length==0)=Ã/\y.length<=16777216/\(Txt.split y z).length<=16777216 then Z (.lst<|(Txt.split y z).map .str)else C
 |_,_=>C
theorem Rz {K:b9}{F:Hp}:∀l:List Str,Pr (Dt K M F) (l.map D.str) (l.map V.str)
 |[]=>.nil
 |x::l=>.cons (.str x)<|Rz l
theorem QH (ho:XE X M G n o f)(he:XE X M G m e g)(n8:SE X e []:=by rfl)
  (pL:CN X o "split":=by rfl)
  (tR:FA X jB [e]:=by rfl)
  (pM:(iB.endLine==jB.line)=Â:=by rfl) (mS:rc X jB []:=by rfl) :
  XO X M G 1 (.Call (.Attribute o "split" iB) [e] [] jB) (S se f g):=by
 obtain⟨ta,pa,qa⟩:=ho;obtain⟨tb,pb,qb⟩:=he;refine⟨_,IC PySem.F.plainAttrs_str PySem.F.slot_str_split PySem.F.type_str_split YN pa (yw pb v5 n8) pL tR pM n8 mS,λF0 B F H Y U d Q rs e w=>?_⟩;obtain⟨d1,d2,h1,h2,h3⟩:=fD e;refine qa F0 B F H Y U d1 _ rs h1 λv1 F1 H1 x1 l1=>?_;cases d1 with
 |str y=>
  cases d2 with
  |str z=>
   have h3:(if(z.length==0)=Ã/\y.length<=16777216/\(Txt.split y z).length<=16777216 then Z (D.lst<|(Txt.split y z).map .str)else C)=Z d:=h3;by_cases hp:(z.length==0)=Ã/\y.length<=16777216/\(Txt.split y z).length<=16777216
   ·rw[if_pos hp]at h3;cases h3;have q1:=Al.scal (F':=F1) l1 rfl;cases q1;refine⟨rfl,qb F0 B F1 H1 Y U _ _ (rs.ext x1) h2 λv2 F2 H2 x2 l2=>?_⟩;have q2:=Al.scal (F':=F2) l2 rfl;cases q2;refine⟨y,z,rfl,rfl,hp.1,by rw[eJ];exact hp.2.1,by rw[eJ];exact hp.2.2,ww x2.fh (Rz _) λv F' H' fp x o nd hf=>w v F' H' fp ((x1.trans x2).trans x) o nd λz hz=>(x1.trans x2).hh.free<|hf z hz⟩
   ·rw[if_neg hp]at h3;cases h3
  |_=>cases h3
 |_=>cases h3
theorem Pr.every2 {vs:List V}(h:Pr R O vs):Pr R (L2.every2 O) (L2.every2 vs):=by
 have:∀(n:Nat) (O:List D) (vs:List V),O.length<=n->Pr R O vs->Pr R (L2.every2 O) (L2.every2 vs):=by
  intro n;induction n with
  |zero=>
   intro xs us hl r;cases r with
   |nil=>exact .nil
   |cons _ _=>simp at hl
  |succ n ih=>
   intro xs us hl r;cases r with
   |nil=>exact .nil
   |cons h t=>
    cases t with
    |nil=>exact .cons h .nil
    |cons h2 t2=>exact .cons h (ih _ _ (by simp at hl;lia) t2)
 exact this _ _ _ (cK _) h
theorem JQ {sl sp:Expr}(hn:n<=1)(he:XE X M G n e f)(hl:XE X M G m sl<|eC<|.int i)(hp:XE X M G k sp<|eC<|.int 2):XO X M G 1 (.Subscript e (.Slice (Z sl) C (Z sp) p1) pos) (λY=>((Ù f) Y).bind λO=>Z<|.lst<|every2<|O.drop i):=by obtain⟨t,pt,qt⟩:=he;obtain⟨t1,xD,xE⟩:=hl;obtain⟨t2,qC,sW⟩:=hp;refine⟨_,zrx pt (JM xD)<|JM qC,λF0 B F H Y U r Q rs e w=>?_⟩;obtain⟨O,h1,h2⟩:=cL e;cases h2;obtain⟨d,h3,h4⟩:=cL h1;rw[JJ h4]at h3;refine qt F0 B F H Y U _ _ rs h3 λv F1 H1 x1 l1=>?_;refine xE F0 B F1 H1 Y U (.int i) _ (rs.ext x1) rfl λu F2 H2 x2 l2=>⟨_,l2.int,?_⟩;refine sW F0 B F2 H2 Y U (.int 2) _ ((rs.ext x1).ext x2) rfl λu F3 H3 x3 l3=>⟨_,l3.int,?_⟩;have xJ:=x2.trans x3;obtain⟨a,vs,rfl,ha,hp⟩:=Al.lst1 hn (l1.mono xJ.ff xJ.hh) xJ.fh;exact⟨i,a,vs,rfl,rfl,rfl,ha,ww xJ.fh (hp.drop i).every2 λv F' H' fp x o nd hf=>w v F' H' fp ((x1.trans xJ).trans x) o nd λz hz=>(x1.trans xJ).hh.free<|hf z hz⟩
def tS:List D->Option D
 |[.str y]=>if y.length<=640 then(PySem.intText? y).bind λi=>Z (.int i)else C
 |_=>C
theorem ve:Bs K M [n] k (λxs H Q=>∃y i,xs=[.str y]/\PySem.intText? y=Z i/\y.length<=640/\Q (.int i) H) tS:=by
 intro F H vs O d Q s l e w;cases l with
 |cons h t=>
  cases t;rename_i d0 v0;cases d0 with
  |str y=>
   have e:(if y.length<=640 then(PySem.intText? y).bind λi=>Z (D.int i)else C)=Z d:=e;by_cases hl:y.length<=640
   ·rw[if_pos hl]at e;obtain⟨i,h1,h2⟩:=cL e;cases h2;exact⟨y,i,by rw[h.str],h1,hl,w _ F H (.refl s)<|Al.of<|.int i⟩
   ·rw[if_neg hl]at e;cases e
  |_=>cases e
def vD (K:b9)(M:Nat->cn)(n m:Nat)(mf:List D->Option D):Sp:=λvs H Q _=>∃(F:Hp) (O es:List D) (us ws:List V) (d p p':D) (a:cn),vs=us ++ .ref a::ws/\O.length=n/\es.length=m/\dQ F H/\Pr (Dt K M F) O us/\Pr (Dt K M F) es ws/\Ow K M F H 1 p (.ref a) [a]/\mf (O++p::es)=Z (.tup [d,p']) /\
 ∀v F' H',dQ F F'->(∀x o,H x=Z o->x≠a->H' x=Z o)->dQ F' H'->(∀x o,H x=Z o->ot o->F x=C->F' x=C)->Ow K M F' H' 1 p' (.ref a) [a]->Dt K M F' d v->Q v H'
theorem vD.len (h:n+1+m=ps.length):∀vs H Q E,vD K M n m mf vs H Q E->vs.length=ps.length:=by rintro vs H Q E ⟨F,O,es,us,ws,d,p,p',a,rfl,hn,hm,_,l,l2,_⟩;rw[←h,←hn,←hm,l.length,l2.length,cM,cz];lia
def í (n:Nat)(N:List Str)(bf:EM)(O:List D):Option D:=(bf<|Ñ N O).bind λr=>(r.2[n]?).join.bind λp=>Z<|.tup [r.1,p]
theorem ue {w:dW}{fd:cD}{bf:EM}(Fn:ë K x qual st fa fd)(K':iO N ps<|dS st)(BE:n+1+m=ps.length)(EQ:n+1+m+G.length=N.length)
  (body:∀(a:cn) (kM:b8) (A:d4) (outer:List PySem.Env) (s:cF) (H:Hp) (E:XK),fY kk (A.deeper<|envOfC qual (dS st) s.heap.objs.size fa kM)->vS (sS gk P w K mg base N qual (dS st) fa kM A outer s H E).nox M (cB n (Mo.ow 0) ++ .so a::(cB m (Mo.ow 0)++G)) (iE st) bf) :
  dO P w K mg base gk (kk+1) fa fd ps (vD K M n m<|í n N bf):=by
 refine Fn.ok K' (vD.len BE) λkM A outer s H vs Q E hr h=>?_;obtain⟨F,O,es,us,ws,d,p,p',a,rfl,hn,GX,sF,l,l2,oa,hm,z⟩:=h;subst hn GX;obtain⟨t,pt,qt⟩:=body a kM A outer s H E hr;refine⟨t,pt,?_⟩;obtain⟨⟨d1,ρ'⟩,h1,h2⟩:=cL hm;obtain⟨p1,h3,h4⟩:=cL h2;cases h4;have GC:=(oa.cells a b7).1;have OL:dQ F (qT H a):=λy o hy=>by rw[xp<|λe=>by rw[e,GC]at hy;cases hy];exact sF _ _ hy
 refine qt F (qT H a) F H (Ñ N (O++p::es)) ρ' (L2.start N (us ++ .ref a::ws)) d1 _ ⟨.refl _,uu _ _,sF,λ_ _ _ _ h=>h,[a],?_,by simp,λy hy=>?_⟩ h1 ?_
 ·have e1:Ñ N (O++p::es)=O.map Z++(Z p::(es.map Z++cB G.length C)):=by unfold Ñ;rw[show N.length-(O++p::es).length=G.length by rw[cM,cz];lia];simp
  have S:L2.start N (us ++ .ref a::ws)=us.map Z++(Z (.ref a)::(ws.map Z++cB G.length C)):=by unfold L2.start;rw[show N.length-(us++V.ref a::ws).length=G.length by rw[cM,cz,←l.length,←l2.length];lia];simp
  rw[e1,S];have q2:=SL.app (SL.none (K:=K) (M:=M) (F:=F) (B:=qT H a) (H:=H) G)<|SL.start0 (B:=qT H a) (H:=H) l2;have:=SL.app (.so oa q2)<|SL.start0 (B:=qT H a) (H:=H) l;have h7:SL K M F (qT H a) H (cB O.length (Mo.ow 0)++Mo.so a::(cB es.length (Mo.ow 0)++G)) (O.map Z++(Z p::(es.map Z++cB G.length C))) (us.map Z++(Z (.ref a)::(ws.map Z++cB G.length C))) [a]:=by simpa using this
  exact h7
 ·rw[cw.mp hy];exact Iz _ _
 ·intro v σ' F' H' r dt;obtain⟨_,o1,_⟩:=r.so_at (i:=O.length) (ad:=a) (by simp)<|zo h3;refine z v F' H' r.f0 (λy o hy n1=>r.bh _ _<|by rw[xp n1];exact hy) r.fh (λy o hy t hn=>?_) o1 dt;by_cases ea:y=a
  ·subst ea;exact(o1.cells _ b7).1
  exact r.nf y o (by rw[xp ea];exact hy) t hn
section
theorem RS.one {p:D}(rs:RS K M F0 B G F H Y U)(D2:G[i]?=Z (.ow 1))(hp:Y[i]?=Z (Z p))(cp:iQ p=Â) :
  ∃a,U[i]?=Z (Z<|.ref a)/\Ow K M F H 1 p (.ref a) [a]/\B a=C /\
   ∀(F' H':Hp) (p':D),dQ F F'->(∀x o,H x=Z o->x≠a->H' x=Z o)->dQ F' H'->(∀x o,H x=Z o->ot o->F x=C->F' x=C)->Ow K M F' H' 1 p' (.ref a) [a]->RS K M F0 B G F' H' (Y.set i<|Z p') U:=by
 obtain⟨f1,fr,n1,b1,dj,i4,cf,put⟩:=rs.put (F':=F) (H':=H) D2;obtain⟨v,hσ,ow⟩:=i4 p hp;obtain⟨a,rfl,rfl⟩:=ow.cell cp;refine⟨a,hσ,ow,b1 a b7,λF' H' p' s1 kH s3 nf o1=>?_⟩;have Ba:=b1 a b7;have r:=put F' H' p' (.ref a) [a] s1 (λy o hy=>kH y o (rs.bh _ _ hy) λe=>by rw[e,Ba]at hy;cases hy) s3 (λy o hy t hn=>nf y o (rs.bh _ _ hy) t<|rs.nf y o hy t hn) (λy hy=>by
  obtain⟨hn,o,ho,nt⟩:=cf y hy;exact⟨(kH y o ho λe=>dj a b7<|e▸hy).trans ho.symm,nf y o ho nt hn⟩) o1 (by simp) (λy hy=>by
  rw[cw]at hy;subst hy;exact dj _ b7) (λy hy=>by
  rw[cw]at hy;subst hy;exact Ba)
 rw[MD hσ]at r;exact r
def FE (X:Cx)(M:Nat->cn)(G:List Mo)(es:List Expr)(g:Env->Option (List D)):Prop:=∃t,PA X es t/\∀(F0 B F H:Hp) (Y:Env) (U:St) (es:List D) (Q:List V->Hp->Prop),RS X.K M F0 B G F H Y U->g Y=Z es->(∀ws F' H',kL F H F' H'->Pr (Dt X.K M F') es ws->Q ws H')->t U H Q
theorem vv:FE X M G [] Å:=⟨_,v5,λF0 B F H Y U es Q rs e z=>by cases e;exact z [] F H (.refl rs.fh) .nil⟩
theorem xr (h1:XE X M G 0 a f)(h2:FE X M G es fs)(hs:SE X a es:=by rfl):FE X M G (a::es) (Ä f fs):=by obtain⟨t,pt,qt⟩:=h1;obtain⟨t2,qC,sW⟩:=h2;refine⟨_,yw pt qC hs,λF0 B F H Y U O Q rs e z=>?_⟩;obtain⟨d,vH,g1,g2,g3⟩:=fD e;cases g3;refine qt F0 B F H Y U d _ rs g1 λv F1 H1 x1 l=>?_;exact sW F0 B F1 H1 Y U vH _ (rs.ext x1) g2 λus F2 H2 x2 l2=>z (v::us) F2 H2 (x1.trans x2)<|.cons (Dt.mono x2.ff l) l2
variable {fd:cD}
end
mutual
inductive KC (K:b9):D->b8->Prop
 |non:KC K .non .none
 |int {i:Int} {t:Tok}:KC K (.int i) (.int i t)
 |str {x:Str} {t:Tok}:KC K (.str x) (.str x t)
 |kt {a:cn} {od:Option cn} {dP:Array b8} {n:Nat} {sl:Array (Option b8)} {O:List D}:K.lookup a=Z ⟨.type "tuple",od,.seq dP n,sl⟩->dP.size<=1000->ý K O dP.toList->KC K (.kt O) (.ref a)
inductive ý (K:b9):List D->List b8->Prop
 |nil:ý K [] []
 |cons {d:D} {u:b8} {O:List D} {us:List b8}:KC K d u->ý K O us->ý K (d::O) (u::us)
end
theorem KC.dt {u:b8}(h:KC K d u):∃v,Í v u/\∀F,Dt K M F d v :=
 KC.rec (motive_1:=λd u _=>∃v,Í v u/\∀F,Dt K M F d v) (motive_2:=λO us _=>∃vs,dR vs us/\∀F,ä K M F O vs) ⟨.non,rfl,λ_=>.non⟩ (λ{i t}=>⟨.int i,⟨t,rfl⟩,λ_=>.int i⟩) (λ{x t}=>⟨.str x,⟨t,rfl⟩,λ_=>.str x⟩)
  (λ{a} _ _ _ _ _ l z _ ⟨vs,r,q⟩=>⟨.ref a,rfl,λF=>.kt ⟨_,_,_,l,rfl,rfl,ú z,r⟩<|q F⟩) ⟨[],.nil,λ_=>.nil⟩ (λ_ _ ⟨v,r,q⟩ ⟨vs,rs,qs⟩=>⟨v::vs,.cons r rs,λF=>.cons (q F)<|qs F⟩) h
class inductive KL (K:b9):List (Str×D)->List (Str×b8)->Prop
 |nil:KL K [] []
 |cons {k:Str} {d:D} {u:b8} {ts:List (Str×D)} {L':List (Str×b8)}:KC K d u->KL K ts L'->KL K ((k,d)::ts) ((k,u)::L')
variable {L':List (Str×b8)}{ts:List (Str×D)}
theorem KL.look (h:KL K ts L')(x:Str):(L'.lookup x).isSome=(ts.lookup x).isSome/\∀d,ts.lookup x=Z d->∃u,L'.lookup x=Z u/\KC K d u:=by
 induction h with
 |nil=>exact⟨rfl,λd e=>by cases e⟩
 |@cons k d u ts L' q t ih=>
  rw[dc,dc];cases x==k with
  |true=>exact⟨rfl,λd' e=>by cases e;exact⟨u,rfl,q⟩⟩
  |false=>exact ih
def KG (K:b9)(w:dW)(mg:Str->Option b8)(x:Str)(ts:List<|Str×D):Prop:=∃da L',KD K w mg x da L'/\KL K ts L'
def EY (ts:List<|Str×D):D->Option D
 |.str k=>ts.lookup k
 |_=>C
def tV (neg:Bool)(ts:List<|Str×D):D->Option D
 |.str k=>Z<|.bl<|if neg then !(ts.lookup k).isSome else(ts.lookup k).isSome
 |_=>C
section
variable {p:qP}
theorem S7 (h:∃u,X.mg x=Z u/\KC X.K d u)(hg:Gl X x:=by rfl)(hd:lH x:=by decide):XE X M G n (.Name x pos) (eC d):=by obtain⟨u,hm,q⟩:=h;obtain⟨v,r,q⟩:=q.dt (M:=M);refine⟨_,MM hg hm r hd,λF0 B F H Y U d' Q rs e w=>?_⟩;cases e;exact w _ F H (.refl rs.fh)<|Al.of<|q F
theorem S8 (W':KG X.K X.w X.mg x ts)(he:XE X M G n e f)(hg:Gl X x:=by rfl)(hs:yN e:=by exactλ_ _=>rfl)(hd:lH x:=by decide):XE X M G k (.Subscript (.Name x p) e pos) (e1 (EY ts) f):=by
 obtain⟨da,L',D,l⟩:=W';obtain⟨t,pt,qt⟩:=he;refine⟨_,ī D hg pt hs hd,λF0 B F H Y U d Q rs e w=>?_⟩;obtain⟨y,h1,h2⟩:=cL e;refine qt F0 B F H Y U y _ rs h1 λv F1 H1 x1 l1=>?_;cases y with
 |str z=>obtain⟨u,h3,h4⟩:=(l.look z).2 d h2;obtain⟨v',r,q⟩:=h4.dt (M:=M);exact⟨z,u,v',l1.str,h3,r,w v' F1 H1 x1<|Al.of<|q F1⟩
 |_=>cases h2
theorem zs1 (W':KG X.K X.w X.mg x ts)(he:XE X M G n e f)(hg:Gl X x:=by rfl)(hd:lH x:=by decide)(hm:fH .In (.Name x p)=Ã:=by rfl):XT X M G (.Compare e [.In] [.Name x p] pos) (tb<|e1 (tV Ã ts) f):=by
 obtain⟨da,L',D,l⟩:=W';obtain⟨t,pt,qt⟩:=he;refine⟨_,JW (zrt D hg pt hd) hm,λF0 B F H Y U b Q rs e w=>?_⟩;obtain⟨d,h0,h4⟩:=cL e;obtain⟨y,h1,h2⟩:=cL h0;refine qt F0 B F H Y U y _ rs h1 λv F1 H1 x1 l1=>?_;cases y with
 |str z=>cases h2;cases h4;refine⟨z,l1.str,_,rfl,?_⟩;rw[(l.look z).1];exact w F1 H1 x1
 |_=>cases h2
theorem XH (W':KG X.K X.w X.mg x ts)(he:XE X M G n e f)(hg:Gl X x:=by rfl)(hd:lH x:=by decide)(hm:fH .NotIn (.Name x p)=Ã:=by rfl):XT X M G (.Compare e [.NotIn] [.Name x p] pos) (tb<|e1 (tV Â ts) f):=by
 obtain⟨da,L',D,l⟩:=W';obtain⟨t,pt,qt⟩:=he;refine⟨_,JW (Xz D hg pt hd) hm,λF0 B F H Y U b Q rs e w=>?_⟩;obtain⟨d,h0,h4⟩:=cL e;obtain⟨y,h1,h2⟩:=cL h0;refine qt F0 B F H Y U y _ rs h1 λv F1 H1 x1 l1=>?_;cases y with
 |str z=>cases h2;cases h4;refine⟨z,l1.str,_,rfl,?_⟩;rw[(l.look z).1];exact w F1 H1 x1
 |_=>cases h2
def DD:List D->Option (List D)
 |[.lst xs,.kt ys]=>Z<|sX xs ys
 |_=>C
theorem zs2 (us:List b8)(h:us.length=2):checkTypeCall "zip" ⟨us,[]⟩=pure ()/\checkBuiltinCall "zip.__new__" ⟨.type "zip"::us,[]⟩=pure ()/\∀obj,argsOk "object.__init__" ⟨obj::us,[]⟩:=by
 match us,h with
 |[a,b],_=>exact⟨F.typeCall_zip_2 _ _,F.newCall_zip_2 _ _,λobj=>F.args_object_init_3 obj _ _⟩
theorem SI {kt:Nat}(hm:X.mg "zip"=C)(ha:XA X M G [a,b] [0,0] fs)(hg:Gl X "zip":=by rfl)(he:dE [a,b] X.env=(Ã,fB a X.env)::dE [b] X.env:=by rfl)(hp:(kh pos<|dE [b] X.env).any (·.1)=Ã:=by rfl) :
  DU X M G 1 (.Tuple uS kt pt) (.Call (.Name "zip" pp) [a,b] [] pos) (λY=>(fs Y).bind DD):=by
 obtain⟨t,pt,_,qt⟩:=ha;refine⟨_,OH (by decide) (by decide) zs2 hg hm pt he hp,λF0 B F H Y U O R rs e w=>?_⟩;obtain⟨vH,h1,h2⟩:=cL e;refine qt F0 B F H Y U _ _ rs h1 λvs F' H' x l=>?_;cases l with
 |cons h t=>
  cases t with
  |cons h' t=>
   cases t;rename_i d v d' v';cases d with
   |lst xs=>
    cases d' with
    |kt ys=>
     cases h2;obtain⟨a,vs,rfl,ha,hp⟩:=Dt.lst_inv h;obtain⟨b,us,rfl,hb,yV⟩:=Al.kt (n:=0) (W':=H') h';have sq:∀{H2:Hp},jJ X.K H2 a vs->∀q∈[(a,Ã),(b,Â)],∃xs,Sq X.K H2 q xs:=λhs q hq=>by
      simp only[cu,dZ,or_false]at hq;rcases hq with rfl|rfl
      ·exact⟨vs,hs⟩
      ·exact⟨us,.inr hb⟩
     refine⟨[(a,Ã),(b,Â)],rfl,rfl,sq<|x.fh.seq ha,w _ F' H' x λi F2 H2 s1 s2 s3=>?_⟩;have hs:jJ X.K H2 a vs:=s3.seq<|s1.seq ha;have Ab:p9 X.K H2 b us:=.inr hb;refine⟨λd hd=>?_,λhl=>⟨sq hs,?_⟩⟩
     ·obtain⟨x,y,hx,hy,rfl⟩:=QF hd;obtain⟨v,hv,l⟩:=hp.pr.get' hx;obtain⟨u,hu,l'⟩:=yV.get' hy;refine⟨λq hq=>?_,λz H3 q=>?_⟩
      ·simp only[cu,dZ,or_false]at hq;rcases hq with rfl|rfl
       ·exact⟨vs,hs,v,hv⟩
       ·exact⟨us,Ab,u,hu⟩
      ·obtain⟨r,g,hr,rfl,rfl,q⟩:=q;have e1:=hv.symm.trans (q (a,Ã) (by simp) vs hs);have S:=hu.symm.trans (q (b,Â) (by simp) us Ab);rw[cI,cI,pf,←Option.some.inj e1,←Option.some.inj S];exact⟨_,kL.newS s3 hr _,.inr<|.tup zw<|.cons (Dt.mono (s1.trans<|vb (s3.free hr) _) l)<|.cons (Dt.mono (s1.trans<|vb (s3.free hr) _) l') .nil⟩
     ·rw[QG,hp.pr.length,yV.length]at hl;rcases(by lia:vs.length<=i\/us.length<=i)with h|h
      ·exact⟨(a,Ã),by simp,vs,hs,h⟩
      ·exact⟨(b,Â),by simp,us,Ab,h⟩
    |_=>cases h2
   |_=>cases h2
end
variable {Jv:eA}
section
open PySem PySem.Spec L2
open PyProof.Rows hiding St
open PySem.W
def pR {α:Type}(f:Str)(y:α):List Str->List α->List α
 |n::ns,v::vs=>if n=f then y::vs else v::pR f y ns vs
 |_,vs=>vs
theorem ME {f:Str}{y:V}:∀{ns:List Str} {vs:List V},ns.length=vs.length->ns.contains f=Â->nR f y (ns.zip vs)=ns.zip (pR f y ns vs)
 |[],_,_,h=>by cases h
 |_::_,[],h,_=>by simp at h
 |n::ns,v::vs,h,hc=>by
  show(if n=f then _ else _)=_;unfold pR;by_cases e:n=f
  ·rw[if_pos e,if_pos e];rfl
  ·rw[if_neg e,if_neg e,gJ];show(n,v)::nR f y (ns.zip vs)=_;rw[ME (by simpa using h)<|by rw[rm,pB]at hc;exact hc.resolve_left λz=>e (eq_of_beq z).symm]
theorem QI {α:Type}{f:Str}{y:α}:∀{ns:List Str} {vs:List α},(pR f y ns vs).length=vs.length
 |[],_=>by unfold pR;rfl
 |_::_,[]=>by unfold pR;rfl
 |n::ns,v::vs=>by
  unfold pR;by_cases e:n=f
  ·rw[if_pos e];rfl
  ·rw[if_neg e,cz,QI,cz]
theorem RA {R:D->V->Prop}{f:Str}{d:D}{y:V}(r:R d y):∀{ns:List Str} {O:List D} {vs:List V},Pr R O vs->Pr R (pR f d ns O) (pR f y ns vs)
 |[],_,_,h=>by unfold pR;exact h
 |_::_,_,_,.nil=>by unfold pR;exact .nil
 |n::ns,_,_,.cons h t=>by
  unfold pR;by_cases e:n=f
  ·rw[if_pos e,if_pos e];exact .cons r t
  ·rw[if_neg e,if_neg e];exact .cons h<|RA r t
def sJ (K:b9)(M:Nat->cn)(G:List Mo)(i:Nat):Prop:=∀(F0 B F H:Hp) (Y:Env) (U:St) (p:D),RS K M F0 B G F H Y U->Y[i]?=Z (Z p)->iQ p=Â ->
 ∃a,U[i]?=Z (Z<|.ref a)/\Ow K M F H 1 p (.ref a) [a]/\B a=C /\
  ∀(F' H':Hp) (p':D),dQ F F'->(∀x o,H x=Z o->x≠a->H' x=Z o)->dQ F' H'->(∀x o,H x=Z o->ot o->F x=C->F' x=C)->Ow K M F' H' 1 p' (.ref a) [a]->RS K M F0 B G F' H' (Y.set i<|Z p') U
theorem Bw (h:G[i]?=Z (.ow 1)):sJ K M G i:=λF0 B F H Y U p rs hp hc=>rs.one h hp hc
theorem uR {a:cn}(h:G[i]?=Z (.so a)):sJ K M G i:=λF0 B F H Y U p rs hp hc=>by obtain⟨fp,sl,nd,hb⟩:=rs.sl;obtain⟨h1,h2,h3,h4⟩:=sl.putS nd h hp;have hB:B a=C:=hb a h3;refine⟨a,h1,h2,hB,λF' H' p' s1 kH s3 nf o1=>⟨rs.f0.trans s1,(λy o hy=>kH y o (rs.bh _ _ hy) λe=>by rw[e,hB]at hy;cases hy),s3,(λy o hy t hn=>nf y o (rs.bh _ _ hy) t<|rs.nf y o hy t hn),fp,h4 F' H' p' s1 (λy hy ne=>?_) o1,nd,hb⟩⟩;obtain⟨hn,o,ho,nt⟩:=sl.cells y hy;exact⟨(kH y o ho ne).trans ho.symm,nf y o ho nt hn⟩
section
def lS (i:Nat)(cs:List Nat)(x:Str)(f:EF):SF:=λY=>(f Y).bind λd=>(L i Y).bind λo=>match o with
 |.obj c ns O=>if cs.contains c=Â/\ns.contains x=Â/\ns.length<900 then Z (.nx<|Y.set i<|Z<|.obj c ns<|pR x d ns O)else C
 |_=>C
theorem RB {dx:cn}{cc:Nat}{ns:List Str}{vs:List V}{y:V}(hF:F xa=C)(hl:ns.length=vs.length)(ol:Pr (Dt K M F) O vs)(l:Dt K M F d y) :
  Ow K M F (gK H xa<|.ins (M cc) dx<|ns.zip<|pR x y ns vs) 1 (.obj cc ns<|pR x d ns O) (.ref xa) [xa] :=
 .inr (Cq.obj (vs:=pR x y ns vs) hF zw (by rw[QI];exact hl)<|jY.ofPr<|(RA l ol).mono λ_ _ q=>⟨q,rfl⟩)
theorem Il (hC:sJ X.K M G i)(hc:∀c∈cs,pT X.K (M c)/\gB X.K (M c) x)(he:XE X M G 0 e f)(hN:X.N[i]?=Z s:=by rfl)(hv:uQ X.env.scope s:=by walk_at "v1")(hd:lH s:=by decide)
  (mR:vR s:=by decide) (hs:iF e (Z<|.Attribute (.Name s p1) x pos') pos.line X.env=pure Ã:=by rfl):XS X M G rk (.Assign [.Attribute (.Name s p1) x pos'] e pos) (lS i cs x f):=by
 obtain⟨t,pt,qt⟩:=he;refine⟨_,Sg (wc hN hv hd mR) pt hs,λF0 B F H Y U o E rs e z=>?_⟩;obtain⟨d,h1,h2⟩:=cL e;obtain⟨ob,h3,h4⟩:=cL h2;refine qt F0 B F H Y U d _ rs h1 λy F1 H1 x1 l=>?_;cases ob with
 |obj c ns O=>
  dsimp only at h4;by_cases hz:cs.contains c=Â/\ns.contains x=Â/\ns.length<900
  ·rw[if_pos hz]at h4;cases h4;obtain⟨xa,hσ,ow,hB,put⟩:=hC _ _ _ _ _ _ _ (rs.ext x1) (zo h3) rfl;obtain⟨a,dx,vs,fr,e1,S,hF,hH,hl,ol⟩:=ow.obj_inv;cases e1;cases S;have hh:=hc c (by simpa using hz.1);refine⟨_,hσ,xa,_,dx,_,rfl,hH,hh.1,hh.2,by rw[gz,←hl,jW];lia,?_⟩;rw[ME hl hz.2.1];exact z U F1 _ (put F1 _ _ (.refl _) (λb o h ne=>by rw[zu ne];exact h) (λb o h=>by rw[zu<|λe=>by rw[e,hF]at h;cases h];exact x1.fh _ _ h) (λb o h _ hn=>hn)<|RB hF hl (ol.pr λ_ _ _ _ q=>q.1) l)
  ·rw[if_neg hz]at h4;cases h4
 |_=>cases h4
def Ak (i:Nat)(cs:List Nat)(x:Str)(f:EF):SF:=λY=>(L i Y).bind λo=>(f Y).bind λd=>match o,d with
 |.obj c ns O,.int b=>if cs.contains c=Â/\ns.contains x=Â/\ns.length<900 then match (ns.zip O).lookup x with
  |some (.int a)=>Z<|.nx<|Y.set i<|Z<|.obj c ns<|pR x (.int<|a+b) ns O
  |_=>C else C
 |_,_=>C
theorem zs3 (hC:sJ X.K M G i)(hc:∀c∈cs,pT X.K (M c)/\gB X.K (M c) x)(he:XE X M G 0 e f)(hN:X.N[i]?=Z s:=by rfl)(hv:uQ X.env.scope s:=by walk_at "v1")(hd:lH s:=by decide)
  (mR:vR s:=by decide):XS X M G rk (.AugAssign (.Attribute (.Name s p1) x mD) .Add e pos) (Ak i cs x f):=by
 obtain⟨t,pt,qt⟩:=he;refine⟨_,Ya (wc hN hv hd mR) pt Δ,λF0 B F H Y U o E rs e z=>?_⟩;obtain⟨ob,d,h3,h1,h4⟩:=fD e;cases ob with
 |obj c ns O=>
  cases d with
  |int bi=>
   dsimp only at h4;by_cases hz:cs.contains c=Â/\ns.contains x=Â/\ns.length<900
   ·rw[if_pos hz]at h4;have hh:=hc c (by simpa using hz.1);cases La:(ns.zip O).lookup x with
    |none=>rw[La]at h4;cases h4
    |some d1=>
     rw[La]at h4;cases d1 with
     |int ai=>cases h4;obtain⟨xa,hσ,ow,hB,put⟩:=hC _ _ _ _ _ _ _ rs (zo h3) rfl;obtain⟨a,dx,vs,fr,e1,S,hF,hH,hl,ol⟩:=ow.obj_inv;cases e1;cases S;obtain⟨v1,Lk,l1⟩:=qk (ol.pr (R':=Dt X.K M F) λ_ _ _ _ q=>q.1) La;cases l1;refine⟨_,hσ,xa,_,dx,_,_,rfl,hH,hh.1,hh.2,Lk,qt F0 B F H Y U _ _ rs h1 λy F1 H1 x1 l=>?_⟩;have ey:=Al.int l;subst ey;refine⟨ai,bi,rfl,rfl,?_⟩;obtain⟨xa',CD,Jr,NU,LF⟩:=hC _ _ _ _ _ _ _ (rs.ext x1) (zo h3) rfl;rw[hσ]at CD;cases CD;obtain⟨a,GB,Mh,fr,e1,S,NV,Ul,C0,Vf⟩:=Jr.obj_inv;cases e1;cases S;refine⟨GB,_,Ul,by rw[gz,←C0,jW];lia,?_⟩;rw[ME C0 hz.2.1];exact z U F1 _ (LF F1 _ _ (.refl _) (λb o h ne=>by rw[zu ne];exact h) (λb o h=>by rw[zu<|λe=>by rw[e,NV]at h;cases h];exact x1.fh _ _ h) (λb o h _ hn=>hn)<|RB NV C0 (Vf.pr λ_ _ _ _ q=>q.1)<|.int _)
     |_=>cases h4
   ·rw[if_neg hz]at h4;cases h4
  |_=>cases h4
 |_=>cases h4
variable {fd:cD}
def BW (i:Nat)(Y:Env):D->Option (D×Env)
 |.tup [d,p']=>Z (d,Y.set i<|Z p')
 |_=>C
theorem Yn {r:D}(h:BW i Y r=Z (d,ρ')):∃p',r=.tup [d,p']/\ρ' = Y.set i (Z p'):=by
 unfold BW at h;split at h
 ·cases h;exact⟨_,rfl,rfl⟩
 ·cases h
def qG (i:Nat)(gs:Env->Option (List D))(mf:List D->Option D):EM:=λY=>(L i Y).bind λp=>(gs Y).bind λes=>if iQ p=Â then(mf (p::es)).bind (BW i Y)else C
theorem Ng {F1 H1:Hp}{pd:D}{es:List D}{ws:List V}{a0:cn}{E:XK}(hC:sJ K M G i)(rs:RS K M F0 B G F H Y U)(x1:kL F H F1 H1)(hp:Y[i]?=Z (Z pd))(hc:iQ pd=Â)(hσ:U[i]?=Z (Z<|.ref a0))(l2:Pr (Dt K M F1) es ws)(hm:es.length=m)
  (h7:(mf (pd::es)).bind (BW i Y)=Z (d,ρ')) (z:∀v F' H',RS K M F0 B G F' H' ρ' U->Dt K M F' d v->Q v H'):vD K M 0 m mf (.ref a0::ws) H1 Q E:=by
 obtain⟨r,h6,h8⟩:=cL h7;obtain⟨p',rfl,rfl⟩:=Yn h8;obtain⟨a,CD,oa,Ba,put⟩:=hC _ _ _ _ _ _ _ (rs.ext x1) hp hc;rw[hσ]at CD;cases CD;exact⟨F1,[],es,[],ws,d,pd,p',a0,rfl,rfl,hm,x1.fh,.nil,l2,oa,h6,λv F' H' s1 kH s3 nf o1 dt=>z v F' H' (put F' H' p' s1 kH s3 nf o1) dt⟩
theorem MF {gs:Env->Option (List D)}(hC:sJ X.K M G i)(d:kn X.K X.mg x Jv ps fa fd)(Fn:dO X.prog X.w X.K X.mg X.base gk kk fa fd ps<|vD X.K M 0 m mf)(hr:fY kq X.A)(hn:∀Y O,gs Y=Z O->O.length=m)(ha:FE X M G es gs)(rG:kk<=kq:=by decide)(hg:Gl X x:=by rfl)
  (hN:X.N[i]?=Z s:=by rfl) (hv:uQ X.env.scope s:=by walk_at "v1") (hd:lH s:=by decide) (mR:vR s:=by decide)
  (oR:lH x:=by decide) (he:dE (.Name s p1::es) X.env=(Ã,fB (.Name s p1) X.env)::dE es X.env:=by rfl) (mh:rc X pos es:=by rfl) :
  XM X M G (.Call (.Name x pp) (.Name s p1::es) [] pos) (qG i gs mf):=by
 obtain⟨t,pt,qt⟩:=ha;refine⟨_,MP (ou:=[]) (E:=E0) Fn (hr.mono rG) hg d.mgx d.fn.kp d.bd .nil qJ (yw (wc hN hv hd mR) pt he) oR he mh,λF0 B F H Y ρ' U d Q rs e z=>?_⟩;obtain⟨pd,CV,h1,h2,h3⟩:=fD e;by_cases hc:iQ pd=Â
 ·rw[if_pos hc]at h3;obtain⟨a0,hσ,_⟩:=hC _ _ _ _ _ _ _ rs (zo h1) hc;refine⟨_,hσ,qt F0 B F H Y U CV _ rs h2 λws F1 H1 x1 l2=>?_⟩;show vD X.K M 0 m mf ((V.ref a0::ws)++[]) H1 Q E0;rw[dH];exact Ng hC rs x1 (zo h1) hc hσ l2 (hn _ _ h2) h3 z
 ·rw[if_neg hc]at h3;cases h3
def ku (i c0:Nat)(m:Str)(gs:Env->Option (List D))(mf:List D->Option D):EM:=λY=>(L i Y).bind λp=>(gs Y).bind λes=>match p with
 |.obj c ns _=>if c=c0/\ns.contains m=Ã then(mf (p::es)).bind (BW i Y)else C
 |_=>C
theorem Im {gs:Env->Option (List D)}{mm qn:Str}(hC:sJ X.K M G i)(c:pT X.K<|M c0)(d:Dm X.K (M c0) mm qn Jv ps fa fd)(Fn:dO X.prog X.w X.K X.mg X.base gk kk fa fd ps<|vD X.K M 0 m mf)(hr:fY kq X.A)(hn:∀Y O,gs Y=Z O->O.length=m)(ha:FE X M G (e::es) gs)(rG:kk<=kq:=by decide)
  (hN:X.N[i]?=Z s:=by rfl) (hv:uQ X.env.scope s:=by walk_at "v1") (hd:lH s:=by decide) (mR:vR s:=by decide)
  (n8:SE X e es:=by rfl) (mh:rc X pos es:=by rfl)
  (ht:fB (.Call (.Attribute (.Name s p1) mm iB) (e::es) [] pos) X.env=(do
   let ov ← fB (.Name s p1) X.env
   k7 iB.atName
   let(f,first) ← gC [ov] (lA ov mm pl)
   nc pos f first (kh pos<|dE (e::es) X.env) (lV pos<|iG [] X.env)):=by rfl) :
  XM X M G (.Call (.Attribute (.Name s p1) mm iB) (e::es) [] pos) (ku i c0 mm gs mf):=by
 obtain⟨t,pt,qt⟩:=ha;refine⟨_,Rg (ou:=[]) (E:=E0) (wc hN hv hd mR) c d.me Fn (hr.mono rG) d.bd .nil qJ pt n8 mh ht,λF0 B F H Y ρ' U d Q rs e z=>?_⟩;obtain⟨pd,CV,h1,h2,h3⟩:=fD e;cases pd with
 |obj c ns O=>
  dsimp only at h3;by_cases hz:c=c0/\ns.contains mm=Ã
  ·rw[if_pos hz]at h3;obtain⟨rfl,hz⟩:=hz;obtain⟨a0,hσ,oa,_⟩:=hC _ _ _ _ _ _ _ rs (zo h1) rfl;obtain⟨a,dx,vs,fr,e1,S,hF,hH,hl,ol⟩:=oa.obj_inv;cases e1;refine⟨_,hσ,a0,dx,_,rfl,hH,JI (vs:=vs) hz,qt F0 B F H Y U CV _ rs h2 λws F1 H1 x1 l2=>?_⟩;show vD X.K M 0 m mf (V.ref a0::(ws++[])) H1 Q E0;rw[dH];exact Ng hC rs x1 (zo h1) rfl hσ l2 (hn _ _ h2) h3 z
  ·rw[if_neg hz]at h3;cases h3
 |_=>cases h3
def DL (X:Cx)(M:Nat->cn)(m:Nat)(L':List<|Str×b8)(tb:List<|Str×(List D->Option D)):Prop:=∀k mf,tb.lookup k=Z mf->∃f kk fd ps,L'.lookup k=Z (.ref f)/\dO X.prog X.w X.K X.mg X.base gk kk f fd ps (vD X.K M 0 m mf)/\fY kk X.A/\fu X.K (.ref f)=Â/\iA X.K fd ps []
theorem ť:DL X M m L' []:=λk mf h=>by cases h
theorem jf {tb:List (Str×(List D->Option D))}{k:Str}(hl:L'.lookup k=Z (.ref fa))(d:kn X.K X.mg x Jv ps fa fd)(Fn:dO X.prog X.w X.K X.mg X.base gk kk fa fd ps<|vD X.K M 0 m mf)(hr:fY kq X.A)(t:DL X M m L' tb)(rG:kk<=kq:=by decide):DL X M m L' ((k,mf)::tb):=λk' Va h=>by
 rw[dc]at h;cases e:k'==k with
 |true=>rw[e]at h;cases h;rw[eq_of_beq e];exact⟨fa,kk,fd,ps,hl,Fn,hr.mono rG,d.fn.kp,d.bd⟩
 |false=>rw[e]at h;exact t k' Va h
def rY (i:Nat)(f:EF)(gs:Env->Option (List D))(tb:List<|Str×(List D->Option D)):EM:=λY=>(f Y).bind λk=>match k with
 |.str z=>(tb.lookup z).bind λmf=>qG i gs mf Y
 |_=>C
theorem zs4 {gs:Env->Option (List D)}{p3:qP}{da:cn}{tb:List (Str×(List D->Option D))}(hC:sJ X.K M G i)(K:KD X.K X.w X.mg x da L')(hT:DL X M m L' tb)(hk:XE X M G n c f)(hn:∀Y O,gs Y=Z O->O.length=m)(ha:FE X M G es gs)(hg:Gl X x:=by rfl)(hs:yN c:=by exactλ_ _=>rfl)
  (hN:X.N[i]?=Z s:=by rfl) (hv:uQ X.env.scope s:=by walk_at "v1") (hd:lH s:=by decide) (mR:vR s:=by decide)
  (oR:lH x:=by decide) (he:dE (.Name s p1::es) X.env=(Ã,fB (.Name s p1) X.env)::dE es X.env:=by rfl) (mh:rc X pos es:=by rfl) :
  XM X M G (.Call (.Subscript (.Name x p2) c p3) (.Name s p1::es) [] pos) (rY i f gs tb):=by
 obtain⟨t,pt,qt⟩:=ha;obtain⟨tk,Vi,Vj⟩:=hk;refine⟨_,Ź (F:=λk f sp=>∃mf,tb.lookup k=Z mf/\L'.lookup k=Z (.ref f)/\sp=vD X.K M 0 m mf) (E:=E0) K (λk f sp ⟨mf,h1,h2,h3⟩=>?_) qJ hg Vi hs (yw (wc hN hv hd mR) pt he) oR he mh,λF0 B F H Y ρ' U d Q rs e z=>?_⟩
 ·obtain⟨f',kk,fd,ps,q1,q2,q3,q4,q5⟩:=hT k mf h1;rw[h2]at q1;cases q1;rw[h3];exact⟨kk,fd,ps,q2,q3,q4,q5⟩
 ·obtain⟨y,h1,h2⟩:=cL e;cases y with
  |str zz=>
   obtain⟨mf,h3,h4⟩:=cL h2;obtain⟨f',kk,fd,ps,q1,q2,q3,q4,q5⟩:=hT zz mf h3;refine Vj F0 B F H Y U _ _ rs h1 λv F1 H1 x1 l1=>⟨zz,f',_,l1.str,q1,⟨mf,h3,q1,rfl⟩,?_⟩;have qK:=rs.ext x1;obtain⟨pd,CV,g1,g2,g3⟩:=fD h4;by_cases hc:iQ pd=Â
   ·rw[if_pos hc]at g3;obtain⟨a0,hσ,_⟩:=hC _ _ _ _ _ _ _ qK (zo g1) hc;refine⟨_,hσ,qt F0 B F1 H1 Y U CV _ qK g2 λws F2 H2 x2 l2=>?_⟩;exact Ng hC qK x2 (zo g1) hc hσ l2 (hn _ _ g2) g3 z
   ·rw[if_neg hc]at g3;cases g3
  |_=>cases h2
theorem zs5 (he:XM X M G e gm):vS X M G [.Return (Z e) pos] gm:=by obtain⟨t,pt,qt⟩:=he;exact⟨_,MN<|Iq pt,λF0 B F H Y ρ' U d E rs e z=>qt F0 B F H Y ρ' U d _ rs e λv F' H' r l=>z v U F' H' r l⟩
theorem zs6 {o:D->D->Option D}(ho:k9 X (d6 op) r)(hs:qR X.K M 0 m 0 r o)(ha:XM X M G a gm)(hb:XE X M G m b g)(hm:fH op b=Ã):XM X M G (.Compare a [op] [b] pos) (λY=>(gm Y).bind λr=>(g r.2).bind λy=>(o r.1 y).bind λd=>Z (d,r.2)):=by obtain⟨ta,pa,qa⟩:=ha;obtain⟨tb,pb,qb⟩:=hb;refine⟨_,Q7 ho pa pb hm,λF0 B F H Y ρ' U d Q rs e w=>?_⟩;obtain⟨⟨d1,ρ1⟩,h1,h2⟩:=cL e;obtain⟨d2,h3,h4⟩:=cL h2;obtain⟨d',h5,h6⟩:=cL h4;cases h6;refine qa F0 B F H Y ρ1 U d1 _ rs h1 λx F1 H1 r1 l1=>?_;refine qb F0 B F1 H1 ρ1 U d2 _ r1 h3 λy F2 H2 x2 l2=>?_;exact hs F2 H2 x y d1 d2 _ _ x2.fh (Dt.mono x2.ff l1) l2 h5 λv F3 H3 x3 l=>w v F3 H3 (r1.ext<|x2.trans x3) l
theorem zs7 (he:XM X M G e gm):XS X M G 0 (.Return (Z e) pos) (λY=>(gm Y).bind λr=>Z<|.rt r.1):=by obtain⟨t,pt,qt⟩:=he;refine⟨_,Iq pt,λF0 B F H Y U o E rs e z=>?_⟩;obtain⟨⟨d,ρ'⟩,h1,h2⟩:=cL e;cases h2;exact qt F0 B F H Y ρ' U d _ rs h1 λv F' H' r l=>z v F' H' [] r.f0 r.bh r.fh r.nf (Ow.zero l) dC λa z=>(by cases z)
abbrev BM:=Env->Option (Bool×Env)
def Gy (X:Cx)(M:Nat->cn)(G:List Mo)(e:Expr)(g:BM):Prop:=∃t,PT X e t/\∀(F0 B F H:Hp) (Y ρ':Env) (U:St) (b:Bool) (Q:Bool->Hp->Prop),RS X.K M F0 B G F H Y U->g Y=Z (b,ρ')->(∀F' H',RS X.K M F0 B G F' H' ρ' U->Q b H')->t U H Q
def AJ (o:D->D->Option D)(f:EM)(g:EF):BM:=λY=>(f Y).bind λr=>(g r.2).bind λy=>(o r.1 y).bind λd=>(CT d).bind λb=>Z (b,r.2)
theorem Rl {o:D->D->Option D}(ho:k9 X (d6 op) r)(hs:qR X.K M 0 m k r o)(ha:XM X M G a gm)(hb:XE X M G m b g)(hm:fH op b=Ã):Gy X M G (.Compare a [op] [b] pos) (AJ o gm g):=by obtain⟨ta,pa,qa⟩:=ha;obtain⟨tb,pb,qb⟩:=hb;refine⟨_,Q8 ho pa pb hm,λF0 B F H Y ρ' U b Q rs e w=>?_⟩;obtain⟨⟨d1,ρ1⟩,h1,h2⟩:=cL e;obtain⟨d2,h3,h4⟩:=cL h2;obtain⟨d,h5,h6⟩:=cL h4;obtain⟨b',h7,h8⟩:=cL h6;cases h8;rw[xz h7]at h5;refine qa F0 B F H Y ρ1 U d1 _ rs h1 λx F1 H1 r1 l1=>?_;refine qb F0 B F1 H1 ρ1 U d2 _ r1 h3 λy F2 H2 x2 l2=>?_;exact hs F2 H2 x y d1 d2 _ _ x2.fh (Dt.mono x2.ff l1) l2 h5 λv F3 H3 x3 l=>⟨b,l.bl,w F3 H3<|r1.ext<|x2.trans x3⟩
def yZ (p:BM)(u w:SF):SF:=λY=>(p Y).bind λr=>if r.1=Â then u r.2 else w r.2
theorem Nh {CI:List eA}{g:BM}(hc:Gy X M G c g)(h1:wM X M G rk Eg u)(h2:wM X M G rk CI w):XS X M G rk (.If c Eg CI pos) (yZ g u w):=by
 obtain⟨t,pt,qt⟩:=hc;obtain⟨t1,xD,xE⟩:=h1;obtain⟨t2,qC,sW⟩:=h2;refine⟨_,NB pt xD qC,λF0 B F H Y U o E rs e z=>?_⟩;obtain⟨⟨x,ρ1⟩,h1,h2⟩:=cL e;refine qt F0 B F H Y ρ1 U x _ rs h1 λF1 H1 r1=>?_;cases x with
 |true=>rw[if_pos rfl]at h2 ⊢;exact xE F0 B F1 H1 ρ1 U o E r1 h2 z
 |false=>rw[if_neg cJ]at h2 ⊢;exact sW F0 B F1 H1 ρ1 U o E r1 h2 z
theorem ZA {qn:Str}(U':Dc X.K X.mg x<|M c0)(d:Dm X.K (M c0) "__init__" qn Jv ps fa fd)(Fn:dO X.prog X.w X.K X.mg X.base gk kk fa fd ps<|yL X.K M cs [] mi)(hr:fY kq X.A)(wZ:c0∈cs:=by decide)(rG:kk+1<=kq:=by decide)(hg:Gl X x:=by rfl)(oR:lH x:=by decide) :
  XO X M G 1 (.Call (.Name x pp) [] [] pos) (λ_=>mi c0 []):=by
 refine⟨_,Y2 (ou:=[]) (E:=E0) ⟨U'.mks,d.me.at_,d.me.fn,U'.kp⟩ Fn (hr.mono rG) hg U'.mgx d.bd .nil qJ oR,λF0 B F H Y U r Q rs e w y dy hy KZ pU=>?_⟩;have sH:dQ H (qT (gK (gK H dy<|.own y) y<|.ins (M c0) dy []) y):=λb o h=>by have n1:b≠y:=zx h hy;rw[xp n1,zu n1,zu<|zx h KZ];exact h
 refine⟨F,c0,[],r,y,dy,[],wZ,rfl,zw,rs.fh.free hy,rs.fh.trans<|sH.trans<|uu _ _,.nil,e,λF' H' s1 s2 s3 s4 hn ow=>⟨rfl,?_⟩⟩;refine w _ F' H' [y] ⟨s1,sH.trans s2,s3,λb o h t n=>s4 b o (sH _ _ h) t n⟩ ow (by simp) λb z=>?_;rw[cw]at z;subst z;exact hy
end
def DQ (L':List<|Str×b8):List (Str×cn)->Prop
 |[]=>True
 |(k,f)::t=>L'.lookup k=Z (.ref f)/\DQ L' t
def KF (K:b9)(w:dW)(mg:Str->Option b8)(x:Str)(eW:List<|Str×cn):Prop:=∃da L',KD K w mg x da L'/\DQ L' eW
section
variable {K:Frag}{h:cO}{da:cn}{es:Array DictEntry}{ep:Nat}{w:dW}{eW:List (Str×cn)}{u:b8}
theorem Ĝ (X:K.In h)(W':h.Ns ee mg)(a:nsIn K ee x=Z (Z u))(q:KC K d u):∃u,mg x=Z u/\KC K d u:=⟨u,mg_of X W' a,q⟩
theorem Ě (X:K.In h)(W':h.Ns ee mg)(a:nsIn K ee x=Z (Z<|.ref da))(l:K.lookup da=Z ⟨.type "dict",C,.dict es ep,#[]⟩)(sy:(da==iK)=Ã)(e:EL w es.toList L')(q:KL K ts L'):KG K w mg x ts:=⟨da,L',⟨mg_of X W' a,sy,es,ep,l,e⟩,q⟩
theorem ě (X:K.In h)(W':h.Ns ee mg)(a:nsIn K ee x=Z (Z<|.ref da))(l:K.lookup da=Z ⟨.type "dict",C,.dict es ep,#[]⟩)(sy:(da==iK)=Ã)(e:EL w es.toList L')(q:DQ L' eW):KF K w mg x eW:=⟨da,L',⟨mg_of X W' a,sy,es,ep,l,e⟩,q⟩
end
end
section
variable {a b c d e f g h i j k l m n o p q r s t x:Option D}{z:Env}
@[simp 2000] theorem ev0:L 0 (a::z)=a:=rfl
@[simp 2000] theorem es0:fW (a::z) 0 x=x::z:=rfl
@[simp 2000] theorem ev1:L 1 (a::b::z)=b:=rfl
@[simp 2000] theorem es1:fW (a::b::z) 1 x=a::x::z:=rfl
@[simp 2000] theorem ev2:L 2 (a::b::c::z)=c:=rfl
@[simp 2000] theorem es2:fW (a::b::c::z) 2 x=a::b::x::z:=rfl
@[simp 2000] theorem ev3:L 3 (a::b::c::d::z)=d:=rfl
@[simp 2000] theorem es3:fW (a::b::c::d::z) 3 x=a::b::c::x::z:=rfl
@[simp 2000] theorem ev4:L 4 (a::b::c::d::e::z)=e:=rfl
@[simp 2000] theorem es4:fW (a::b::c::d::e::z) 4 x=a::b::c::d::x::z:=rfl
@[simp 2000] theorem ev5:L 5 (a::b::c::d::e::f::z)=f:=rfl
@[simp 2000] theorem es5:fW (a::b::c::d::e::f::z) 5 x=a::b::c::d::e::x::z:=rfl
@[simp 2000] theorem ev6:L 6 (a::b::c::d::e::f::g::z)=g:=rfl
@[simp 2000] theorem es6:fW (a::b::c::d::e::f::g::z) 6 x=a::b::c::d::e::f::x::z:=rfl
@[simp 2000] theorem ev7:L 7 (a::b::c::d::e::f::g::h::z)=h:=rfl
@[simp 2000] theorem es7:fW (a::b::c::d::e::f::g::h::z) 7 x=a::b::c::d::e::f::g::x::z:=rfl
@[simp 2000] theorem ev8:L 8 (a::b::c::d::e::f::g::h::i::z)=i:=rfl
@[simp 2000] theorem es8:fW (a::b::c::d::e::f::g::h::i::z) 8 x=a::b::c::d::e::f::g::h::x::z:=rfl
@[simp 2000] theorem ev9:L 9 (a::b::c::d::e::f::g::h::i::j::z)=j:=rfl
@[simp 2000] theorem es9:fW (a::b::c::d::e::f::g::h::i::j::z) 9 x=a::b::c::d::e::f::g::h::i::x::z:=rfl
@[simp 2000] theorem TV:L 10 (a::b::c::d::e::f::g::h::i::j::k::z)=k:=rfl
@[simp 2000] theorem TB:fW (a::b::c::d::e::f::g::h::i::j::k::z) 10 x=a::b::c::d::e::f::g::h::i::j::x::z:=rfl
@[simp 2000] theorem TX:L 11 (a::b::c::d::e::f::g::h::i::j::k::l::z)=l:=rfl
@[simp 2000] theorem TC:fW (a::b::c::d::e::f::g::h::i::j::k::l::z) 11 x=a::b::c::d::e::f::g::h::i::j::k::x::z:=rfl
@[simp 2000] theorem TY:L 12 (a::b::c::d::e::f::g::h::i::j::k::l::m::z)=m:=rfl
@[simp 2000] theorem TD:fW (a::b::c::d::e::f::g::h::i::j::k::l::m::z) 12 x=a::b::c::d::e::f::g::h::i::j::k::l::x::z:=rfl
@[simp 2000] theorem TZ:L 13 (a::b::c::d::e::f::g::h::i::j::k::l::m::n::z)=n:=rfl
@[simp 2000] theorem TF:fW (a::b::c::d::e::f::g::h::i::j::k::l::m::n::z) 13 x=a::b::c::d::e::f::g::h::i::j::k::l::m::x::z:=rfl
@[simp 2000] theorem T1:L 14 (a::b::c::d::e::f::g::h::i::j::k::l::m::n::o::z)=o:=rfl
@[simp 2000] theorem TH:fW (a::b::c::d::e::f::g::h::i::j::k::l::m::n::o::z) 14 x=a::b::c::d::e::f::g::h::i::j::k::l::m::n::x::z:=rfl
@[simp 2000] theorem T3:L 15 (a::b::c::d::e::f::g::h::i::j::k::l::m::n::o::p::z)=p:=rfl
@[simp 2000] theorem TJ:fW (a::b::c::d::e::f::g::h::i::j::k::l::m::n::o::p::z) 15 x=a::b::c::d::e::f::g::h::i::j::k::l::m::n::o::x::z:=rfl
@[simp 2000] theorem T4:L 16 (a::b::c::d::e::f::g::h::i::j::k::l::m::n::o::p::q::z)=q:=rfl
@[simp 2000] theorem TK:fW (a::b::c::d::e::f::g::h::i::j::k::l::m::n::o::p::q::z) 16 x=a::b::c::d::e::f::g::h::i::j::k::l::m::n::o::p::x::z:=rfl
@[simp 2000] theorem T5:L 17 (a::b::c::d::e::f::g::h::i::j::k::l::m::n::o::p::q::r::z)=r:=rfl
@[simp 2000] theorem TN:fW (a::b::c::d::e::f::g::h::i::j::k::l::m::n::o::p::q::r::z) 17 x=a::b::c::d::e::f::g::h::i::j::k::l::m::n::o::p::q::x::z:=rfl
@[simp 2000] theorem T6:L 18 (a::b::c::d::e::f::g::h::i::j::k::l::m::n::o::p::q::r::s::z)=s:=rfl
@[simp 2000] theorem TQ:fW (a::b::c::d::e::f::g::h::i::j::k::l::m::n::o::p::q::r::s::z) 18 x=a::b::c::d::e::f::g::h::i::j::k::l::m::n::o::p::q::r::x::z:=rfl
@[simp 2000] theorem T7:L 19 (a::b::c::d::e::f::g::h::i::j::k::l::m::n::o::p::q::r::s::t::z)=t:=rfl
@[simp 2000] theorem TU:fW (a::b::c::d::e::f::g::h::i::j::k::l::m::n::o::p::q::r::s::t::z) 19 x=a::b::c::d::e::f::g::h::i::j::k::l::m::n::o::p::q::r::s::x::z:=rfl
end
section
variable {fd:cD}
def De (p:BM):BM:=λY=>(p Y).bind λr=>Z (!r.1,r.2)
theorem zs8 {g:BM}(ha:Gy X M G a g):Gy X M G (.UnaryOp .Not a pos) (De g):=by obtain⟨t,pt,qt⟩:=ha;refine⟨_,R8 pt,λF0 B F H Y ρ' U r Q rs e w=>?_⟩;obtain⟨⟨x,ρ1⟩,h1,h2⟩:=cL e;cases h2;exact qt F0 B F H Y ρ1 U x _ rs h1 λF1 H1 r1=>w F1 H1 r1
def mB (f:EM):BM:=λY=>(f Y).bind λr=>(CT r.1).bind λb=>Z (b,r.2)
theorem zs9 (he:XM X M G e gm)(hi:∀whole,xX e X.env whole=(do let v ← whole;k7 e.pos;gC [v] (truthy v)):=by intro _;rfl):Gy X M G e (mB gm):=by obtain⟨t,pt,qt⟩:=he;refine⟨_,Sj pt hi,λF0 B F H Y ρ' U b Q rs e w=>?_⟩;obtain⟨⟨d,ρ1⟩,h1,h2⟩:=cL e;obtain⟨b',h3,h4⟩:=cL h2;cases h4;have h3:CT d=Z b:=h3;rw[xz h3]at h1;exact qt F0 B F H Y ρ1 U _ _ rs h1 λv F' H' r l=>⟨b,Al.bl (n:=0) (W':=H') l,w F' H' r⟩
end
def B3:R2:=λx y H Q=>∃a b,x=.str a/\y=.str b/\Q (.bl<|Txt.contains b a) H
theorem ϱ:k9 X (d6 .In) B3:=by intro ce s U H x y v u Q I rx ry h;obtain⟨a,b,rfl,rfl,q⟩:=h;obtain⟨t,rfl⟩:=rx;obtain⟨t',rfl⟩:=ry;exact PySem.SB.contains ⟨.bl _,H,I,rfl,q⟩
def BH:D->D->Option D
 |.str a,.str b=>Z<|.bl<|Txt.contains b a
 |_,_=>C
theorem Yo:qR K M n m k B3 BH:=by
 intro F H x y d1 d2 d Q s l1 l2 e w;cases d1 with
 |str a=>
  cases d2 with
  |str b=>cases e;exact⟨a,b,l1.str,l2.str,w _ F H (.refl s)<|Al.of<|.bl _⟩
  |_=>cases e
 |_=>cases e
def Bx:EF:=λ_=>C
theorem ZC:XE X M G n e Bx:=⟨λ_ _ _=>False,λ_ _ _ _ _ _ h=>h.elim,λ_ _ _ _ _ _ _ _ _ h _=>nomatch h⟩
def BN (mf:List D->Option D):List D->Option D
 |.obj c ns O::es=>(mf (.obj c ns O::es)).bind λd=>Z<|.tup [d,.obj c ns O]
 |_=>C
section
variable {w:dW}{CX:Cm}{f:cn}{fd:cD}
theorem pH.low {vs:List V}(h:Pr (Dt K M F) O vs):pH K M F W' (cB O.length 0) O vs:=by
 induction h with
 |nil=>exact .nil
 |cons h t ih=>exact .cons h ih
theorem QJ (Fn:dO P w K mg base CX k f fd ps<|jR K M (1::cB m 0) 0 mf):dO P w K mg base CX k f fd ps (vD K M 0 m<|BN mf):=Fn.imp λvs H Q E h=>by
 obtain⟨F,O,es,us,ws,d,p,p',a,rfl,hn,rfl,sF,l1,l2,ow,e,z⟩:=h;cases l1 with
 |cons _ _=>cases hn
 |nil=>
  cases p with
  |obj c ns fs=>obtain⟨d',h1,h2⟩:=cL<|show(mf (.obj c ns fs::es)).bind _=_ from e;cases h2;refine⟨F,_,d,sF,.cons (ow.al sF)<|pH.low l2,h1,λv F' H' fp x o _ _=>?_⟩;obtain⟨_,dx,_,_,e1,S,hF,hH,_⟩:=ow.obj_inv;cases e1;exact z v F' H' x.ff (λy o hy _=>x.hh y o hy) x.fh x.nf (ow.frame x.ff λb hb=>by rw[cw]at hb;subst hb;exact⟨by rw[hH,x.hh _ _ hH],x.nf _ _ hH (λ_=>nofun) hF⟩) o.1
  |_=>cases e
end
def xC:D->D->Option D
 |.str y,.str z=>if(z.length==0)=Ã/\y.length<=16777216 then Z (.tup [.str (Txt.partition y z).1,.str (Txt.partition y z).2.1,.str (Txt.partition y z).2.2])else C
 |_,_=>C
theorem ϰ (ho:XE X M G n o f)(he:XE X M G m e g)(n8:SE X e []:=by rfl)
  (pL:CN X o "partition":=by rfl)
  (tR:FA X jB [e]:=by rfl)
  (pM:(iB.endLine==jB.line)=Â:=by rfl) (mS:rc X jB []:=by rfl) :
  XO X M G 1 (.Call (.Attribute o "partition" iB) [e] [] jB) (S xC f g):=by
 obtain⟨ta,pa,qa⟩:=ho;obtain⟨tb,pb,qb⟩:=he;refine⟨_,IC PySem.F.plainAttrs_str PySem.F.slot_str_partition PySem.F.type_str_partition zry pa (yw pb v5 n8) pL tR pM n8 mS,λF0 B F H Y U d Q rs e w=>?_⟩;obtain⟨d1,d2,h1,h2,h3⟩:=fD e;refine qa F0 B F H Y U d1 _ rs h1 λv1 F1 H1 x1 l1=>?_;cases d1 with
 |str y=>
  cases d2 with
  |str z=>
   unfold xC at h3;dsimp only at h3;by_cases hp:(z.length==0)=Ã/\y.length<=16777216
   ·rw[if_pos hp]at h3;cases h3;have q1:=Al.scal (F':=F1) l1 rfl;cases q1;refine⟨rfl,qb F0 B F1 H1 Y U _ _ (rs.ext x1) h2 λv2 F2 H2 x2 l2=>?_⟩;have q2:=Al.scal (F':=F2) l2 rfl;cases q2;refine⟨y,z,rfl,rfl,hp.1,by rw[eJ];exact hp.2,λp h0=>?_⟩;have x3:=kL.newS x2.fh h0<|.tup [.str (Txt.partition y z).1,.str (Txt.partition y z).2.1,.str (Txt.partition y z).2.2];exact w _ _ _ [] ((x1.trans x2).trans x3) (.inr<|.tup zw<|jY.ofPr<|.cons ⟨.str _,rfl⟩<|.cons ⟨.str _,rfl⟩<|.cons ⟨.str _,rfl⟩ .nil) dC λa z=>(by cases z)
   ·rw[if_neg hp]at h3;cases h3
  |_=>cases h3
 |_=>cases h3
def xB (p q:EM):EM:=λY=>(p Y).bind λr=>(CT r.1).bind λt=>if t=Â then q r.2 else Z (.bl Ã,r.2)
theorem Β {g1 g2:EM}(ha:XM X M G a g1)(hb:XM X M G b g2):XM X M G (.BoolOp .And [a,b] pos) (xB g1 g2):=by
 obtain⟨t,pt,qt⟩:=ha;obtain⟨u,pu,qu⟩:=hb;refine⟨_,Sa pt<|R9 pu,λF0 B F H Y ρ' U d Q rs e w=>?_⟩;obtain⟨⟨d1,ρ1⟩,h1,h2⟩:=cL e;obtain⟨x,h3,h4⟩:=cL h2;have h3:CT d1=Z x:=h3;rw[xz h3]at h1;refine qt F0 B F H Y ρ1 U _ _ rs h1 λv F1 H1 r1 l=>⟨x,Al.bl (n:=0) (W':=H1) l,?_⟩;cases x with
 |true=>rw[if_pos rfl];exact qu F0 B F1 H1 ρ1 ρ' U d _ r1 h4 w
 |false=>cases h4;rw[if_neg cJ];exact w _ F1 H1 r1<|.bl _
def BP (p:BF)(f g:EM):EM:=λY=>(p Y).bind λb=>if b=Â then f Y else g Y
theorem Ni {f g:EM}(hc:XT X M G c p)(h1:vS X M G Eg f)(h2:vS X M G Î g):vS X M G (.If c Eg [] pos::Î) (BP p f g):=by
 obtain⟨t,pt,qt⟩:=hc;obtain⟨t1,xD,xE⟩:=h1;obtain⟨t2,qC,sW⟩:=h2;refine⟨_,Mr (NB pt xD Q9) qC,λF0 B F H Y ρ' U d E rs e z=>?_⟩;obtain⟨x,e1,S⟩:=cL e;refine qt F0 B F H Y U x _ rs e1 λF1 H1 x1=>?_;cases x with
 |true=>rw[if_pos rfl]at S ⊢;exact xE F0 B F1 H1 Y ρ' U d _ (rs.ext x1) S z
 |false=>rw[if_neg cJ]at S ⊢;exact sW F0 B F1 H1 Y ρ' U d E (rs.ext x1) S z
variable {xs:List Nat}
section
open PySem PySem.Spec PySem.W L2
open PyProof.Rows hiding St
section
variable {K:Frag}{h:cO}{q m:Str}{f N:cn}{E1 pm M:b8}{dd:Option cn}{fd:cD}{O:List b8}{vs:List V}{o:iU}{p:Nat}
theorem ę (h:findIn K (.ref V') x=Z C):gB K V' x:=h
theorem Ć (m j:Nat)(hm:m+vs.length=ps.length)(hd:fd.defaults=.ref T)(ho:K.lookup T=Z o)(hs:o.data=.seq items n)(hv:dR vs<|items.toList.drop j)(h:∀us:List b8,us.length=m->∃k,bindArgs fd ⟨us,[]⟩=seqItems? fd.defaults >>= k/\k (Z items)=pure (ps.zip<|us++items.toList.drop j)) :
  ∃vU,True/\dR vs vU/\iA K fd ps vU:=⟨_,trivial,hv,Rq m ho h hd hs<|by rw[←hv.length];exact hm⟩
end
theorem Ă {P:Nat->Prop}:∀c∈([]:List Nat),P c:=λ_ h=>nomatch h
theorem SY {P:Nat->Prop}{x:Nat}(h:P x)(t:∀c∈xs,P c):∀c∈x::xs,P c:=λc hc=>by
 rcases cu.mp hc with rfl|hc
 ·exact h
 ·exact t c hc
end
section
open PySem PySem.Spec PySem.W L2
open PyProof.Rows hiding St
section
variable {K:Frag}{h:cO}{q m:Str}{f N:cn}{E1 pm M:b8}{dd:Option cn}{fd:cD}{O:List b8}{vs:List V}{o:iU}{p:Nat}
theorem zC (X:K.In h:=by assumption)(W':h.Ns ee mg:=by assumption)(a:nsIn K ee x=Z (Z<|.ref V'):=by k_is)(b:makesIn K V'=Â:=by k_is)(k:keepIn K (.ref V')=Â:=by k_is)(c:pT K V':=by exact⟨by k_is,by k_is,by k_is,by k_is⟩):Dc K mg x V':=⟨c,mg_of X W' a,b,k⟩
theorem zX {v:b8}(X:K.In h:=by assumption)(W':h.Ns ee mg:=by assumption)(e:nsIn K ee x=Z (Z v):=by k_is):mg x=Z v:=mg_of X W' e
theorem zB (X:K.In h:=by assumption)(W':h.Ns ee mg:=by assumption)(e:nsIn K ee x=Z C:=by k_is):mg x=C:=mg_none_of X W' e
theorem zG {i:Int}{t:Tok}(e:mg x=Z (.int i t):=by exact L3.zX):∃t,mg x=Z (.int i t):=⟨t,e⟩
theorem zD (X:mg x=Z (.ref f):=by exact L3.zX)(l:K.lookup f=Z ⟨oc,od,.func<|fnOf x x (mw st) (iE st) (dS st) dV E1 doc pm an kM M,Dg⟩:=by k_is)
  (c:codeIn K kM x=Â:=by k_is) (k:keepIn K (.ref f)=Â:=by k_is) (b:iA K (fnOf x x (mw st) (iE st) (dS st) dV E1 doc pm an kM M) ps []:=by first|exact .all (L3.Ġ λ_=>rfl)|exact .all (L3.ğ λ_ _=>rfl)|exact .all (L3.Ğ λ_ _ _=>rfl)|exact .all (L3.Ĉ λ_ _ _ _=>rfl)|exact .all (L3.ć λ_ _ _ _ _=>rfl)|exact .all<|L3.Ĥ λ_ _ _ _ _ _=>rfl):kn K mg x st ps f (fnOf x x (mw st) (iE st) (dS st) dV E1 doc pm an kM M):=⟨Rp l c k,X,b⟩
theorem zM (a:findIn K (.ref V') m=Z (Z<|.ref f):=by k_is)(i:isFn K (.ref f)=Â:=by k_is)(l:K.lookup f=Z ⟨oc,od,.func<|fnOf m q (mw st) (iE st) (dS st) dV E1 doc pm an kM M,Dg⟩:=by k_is)
  (c:codeIn K kM q=Â:=by k_is) (k:keepIn K (.ref f)=Â:=by k_is) (b:iA K (fnOf m q (mw st) (iE st) (dS st) dV E1 doc pm an kM M) ps []:=by first|exact .all (L3.Ġ λ_=>rfl)|exact .all (L3.ğ λ_ _=>rfl)|exact .all (L3.Ğ λ_ _ _=>rfl)|exact .all (L3.Ĉ λ_ _ _ _=>rfl)|exact .all (L3.ć λ_ _ _ _ _=>rfl)|exact .all<|L3.Ĥ λ_ _ _ _ _ _=>rfl):Dm K V' m q st ps f (fnOf m q (mw st) (iE st) (dS st) dV E1 doc pm an kM M):=⟨Rp l c k,⟨a,i,k⟩,b⟩
theorem zE (m:Nat)(h:∀us:List b8,us.length=m->∃k,bindArgs fd ⟨us,[]⟩=seqItems? fd.defaults >>= k/\k (Z items)=pure (ps.zip<|us++O))(hm:m+O.length=ps.length:=by rfl)(hd:fd.defaults=.ref T:=by rfl)(ho:K.lookup T=Z o:=by k_is)(hs:o.data=.seq items n:=by rfl):iA K fd ps O:=Rq m ho h hd hs hm
end
theorem zF {P:Nat->Prop}{x:Nat}(t:∀c∈xs,P c)(h:P x:=by exact⟨⟨by k_is,by k_is,by k_is,by k_is⟩,L3.ę (by k_is)⟩):∀c∈x::xs,P c:=SY h t
theorem zI {P:Nat->Prop}{x:Nat}(t:∀c∈xs,P c)(h:P x:=by exact⟨⟨⟨by k_is,by k_is,by k_is,by k_is⟩,by k_is,by k_is,by k_is,by k_is⟩,by kit_is⟩):∀c∈x::xs,P c:=SY h t
end
section
variable {fd:cD}
theorem xv {o:Mo}(hm:G[i]?=Z o:=by rfl)(hl:o.lv=n:=by rfl)(hN:X.N[i]?=Z x:=by rfl)(hv:uQ X.env.scope x:=by walk_at "v1")(hd:lH x:=by decide)
  (mR:vR x:=by decide):XE X M G n (.Name x pos) (L i):=Fs i n hm hl hN hv hd mR
theorem rN (hr:fY kq X.A)(ha:XE X M G n a f)(hb:XE X M G m b g):XT X M G (.Compare a [.Eq] [b] pos) (tb<|S (gb Ã) f g):=wm (k:=0) (Nc hr.u64) Ft ha hb<|kW _
theorem Bl (hr:fY kq X.A)(ha:XE X M G n a f)(hb:XE X M G m b g):XT X M G (.Compare a [.NotEq] [b] pos) (tb<|S (gb Â) f g):=wm (k:=0) (JY hr.u64) Ft ha hb<|kW _
theorem Ā (hr:fY kq X.A)(ha:XE X M G n a f)(hb:XE X M G m b g):XE X M G 0 (.Compare a [.Eq] [b] pos) (S (gb Ã) f g):=Ep (k:=0) (Nc hr.u64) Ft ha hb<|kW _
theorem OV (hr:fY kq X.A)(ha:XE X M G n a f)(hb:XE X M G m b g):XE X M G 0 (.Compare a [.NotEq] [b] pos) (S (gb Â) f g):=Ep (k:=0) (JY hr.u64) Ft ha hb<|kW _
theorem Bk (ha:XE X M G n a f)(hb:XE X M G m b g):XT X M G (.Compare a [.Lt] [b] pos) (tb<|S tX f g):=wm (k:=0) NF M9 ha hb<|kW _
theorem Ff (ha:XE X M G n a f)(hb:XE X M G m b g):XT X M G (.Compare a [.Gt] [b] pos) (tb<|S Be f g):=wm (k:=0) Ĳ Ų ha hb<|kW _
theorem zH (ha:XE X M G n a f)(hb:XE X M G m b g):XT X M G (.Compare a [.Is] [b] pos) (tb<|S (pN Ã) f g):=wm (k:=0) Ĩ ů ha hb<|kW _
theorem VA (ha:XE X M G n a f)(hb:XE X M G m b g):XE X M G 0 (.Compare a [.Lt] [b] pos) (S tX f g):=Ep (k:=0) NF M9 ha hb<|kW _
theorem Fj (ha:XE X M G n a f)(hb:XE X M G m b g):XE X M G 0 (.Compare a [.LtE] [b] pos) (S Ad f g):=Ep (k:=0) Ss Rf ha hb<|kW _
theorem OU (ha:XE X M G n a f)(hb:XE X M G m b g):XE X M G 0 (.Compare a [.GtE] [b] pos) (S GF f g):=Ep (k:=0) ı ű ha hb<|kW _
theorem VB (ha:XE X M G n a f)(hb:XE X M G m b g):XE X M G 0 (.Compare a [.IsNot] [b] pos) (S (pN Â) f g):=Ep (k:=0) Zf X7 ha hb<|kW _
theorem yX (ha:XE X M G n a f)(hb:XE X M G m b g):XE X M G 0 (.BinOp a .Sub b pos) (S uU f g):=Ew (k:=0) Κ zr5 ha hb
theorem æ (ha:XE X M G n a f)(hb:XE X M G m b g):XE X M G 0 (.BinOp a .FloorDiv b pos) (S jC f g):=Ew (k:=0) YJ Ze ha hb
theorem Ý (ha:XE X M G n a f)(hb:XE X M G m b g):XE X M G 0 (.BinOp a .Mod b pos) (S iY f g):=Ew (k:=0) Z6 zr7 ha hb
theorem kJ (ha:XE X M G n a f)(hb:XE X M G m b g):XE X M G 0 (.BinOp a .Mult b pos) (S e7 f g):=Ew (k:=0) zro Zh ha hb
theorem iy (h:XO X M G k e f):XE X M G 0 e f:=XO.sh h
theorem xc (d:kn X.K X.mg x st ps fa fd)(Fn:dO X.prog X.w X.K X.mg X.base gk kk fa fd ps<|jR X.K M ns rk mf)(hr:fY kq X.A)(ha:XA X M G (e::es) ns fs)(rG:kk<=kq:=by decide)(hg:Gl X x:=by rfl)
  (oR:lH x:=by decide) (he:SE X e es:=by rfl) (mh:rc X pos es:=by rfl) :
  XE X M G 0 (.Call (.Name x pp) (e::es) [] pos) (λY=>(fs Y).bind λO=>mf<|O++[]):=iy<|iJ d Fn hr ha rG hg oR he mh
theorem nu (he:XE X M G 0 e f)(hc:∀c∈cs,pT X.K (M c)/\gB X.K (M c) x)(hb:CN X e x:=by rfl):XE X M G 0 (.Attribute e x pos) (e1 (dX cs x) f):=Sr (n:=0) he hc hb
theorem CW (he:XE X M G 1 e f)(hc:∀c∈cs,pT X.K (M c)/\gB X.K (M c) x)(hb:CN X e x:=by rfl):XE X M G 0 (.Attribute e x pos) (e1 (dX cs x) f):=Sr (n:=1) he hc hb
theorem FU (ha:XE X M G 1 a f)(hb:XE X M G m b g)(hp:tF b:=by exactλ_ _=>rfl):XE X M G 0 (.Subscript a b pos) (S dM f g):=S4 (n:=1) Sh Su ha hb hp
theorem F8 {i:Int}(hm:∃t,X.mg x=Z (.int i t))(hg:Gl X x:=by rfl)(hd:lH x:=by decide):XE X M G 0 (.Name x pos) (eC<|.int i):=hm.elim λ_ h=>zsi hg h rfl ⟨_,rfl⟩ hd
theorem xF (hi:XI X M G n tg iter fi)(hg:XG X M G n tg gg)(hb:wM X M G rk Î u)(hp:oo (c8 X.prog X.w) X.A X.env X.xe:=by exact oo.never)(hc:X.calm=Â:=by rfl)
  (hs:Co X iter:=by intro _;rfl):XS X M G rk (.For tg iter Î [] pos) (Û fi gg u):=ų hi hg hb hp hc hs
theorem F7 (hc:XT X M G c p)(hb:wM X M G rk Î u)(hp:oo (c8 X.prog X.w) X.A X.env X.xe:=by exact oo.never):XS X M G rk (.While c Î [] pos) (kA p u):=YS hc hb hp
theorem kG (he:XE X M G 0 e f):XS X M G 0 (.Return (Z e) pos) (Ì f):=ye<|XE.ow he
theorem nh (hN:X.N.Nodup)(he:XE X M G 0 e f)(hm:G[i]?=Z (.ow 0):=by rfl)(hi:X.N[i]?=Z x:=by rfl)(hx:ï X.env.scope x:=by walk_at "v3")
  (hs:Gv X e x pos' pos:=by rfl)
  (hf:wW X x:=by walk_at "v2"):XS X M G rk (.Assign [.Name x pos'] e pos) (É i f):=mZ hN (XE.ow he) hm hi hx hs hf
theorem lL (ht:XT X M G c p)(h:XS X M G rk st u):XS X M G rk (.If c [st] [] pos) (Ò p u Ë):=Gg ht (zl h) v8
theorem vN (hi:DU X M G n tg iter fi)
  (hg:∀cl V' fp s₀ H₀,N.Nodup->Ct (pw X scope cl N V' fp s₀ H₀) M (om++lh G cap) own n tg gg) (ht:∀cl V' fp s₀ H₀,DV (pw X scope cl N V' fp s₀ H₀) M (om++lh G cap) ifs p) (he:∀cl V' fp s₀ H₀,XO (pw X scope cl N V' fp s₀ H₀) M (om++lh G cap) k rh f)
  (nd:N.Nodup:=by decide +kernel) (B:qF X scope N own cap:=by exact SC (by rfl)) (hc:X.calm=Â:=by rfl) (ho:om.length=own:=by rfl) (oz:∀i∈cap,i<G.length:=by decide)
  (hs:Co X iter:=by intro _;rfl):XO X M G (k+1) (.ListComp rh [⟨tg,iter,ifs,0⟩] scope pos) (fF fi own cap gg p f):=zsb B hc ho oz hi (λcl V' fp s₀ H₀=>hg cl V' fp s₀ H₀ nd) ht he hs
theorem Ca {xI:qP}(hN:X.N.Nodup)(hi:DU X M G n tg iter fi)
  (hg:∀cl V' fp s₀ H₀,N.Nodup->Ct (pw X scope cl N V' fp s₀ H₀) M (om++lh G cap) own n tg gg) (ht:∀cl V' fp s₀ H₀,DV (pw X scope cl N V' fp s₀ H₀) M (om++lh G cap) ifs p) (he:∀cl V' fp s₀ H₀,XO (pw X scope cl N V' fp s₀ H₀) M (om++lh G cap) (k-1) rh f)
  (nd:N.Nodup:=by decide +kernel) (hm:G[i]?=Z (.ow k):=by rfl) (CA:X.N[i]?=Z x:=by rfl) (hx:ï X.env.scope x:=by walk_at "v3")
  (B:qF X scope N own cap:=by exact SC (by rfl)) (hc:X.calm=Â:=by rfl) (ho:om.length=own:=by rfl) (oz:∀i∈cap,i<G.length:=by decide)
  (C5:iF (.ListComp rh [⟨tg,iter,ifs,0⟩] scope pos) (Z<|.Name x pos') xI.line X.env=pure Â:=by rfl)
  (hs:Co X iter:=by intro _;rfl) (hf:wW X x:=by walk_at "v2") :
  XS X M G rk (.Assign [.Name x pos'] (.ListComp rh [⟨tg,iter,ifs,0⟩] scope pos) xI) (É i<|fF fi own cap gg p f):=XC hm hN CA hx B hc ho oz hi (λcl V' fp s₀ H₀=>hg cl V' fp s₀ H₀ nd) ht he C5 hs hf
theorem Fl {q:Str}(U':Dc X.K X.mg x<|M c0)(d:Dm X.K (M c0) "__init__" q st ps fa fd)(Fn:dO X.prog X.w X.K X.mg X.base gk kk fa fd ps<|yL X.K M cs ns mi)(hr:fY kq X.A)(ha:XA X M G (e::es) ns fs)(wZ:c0∈cs:=by decide)(rG:kk+1<=kq:=by decide)(hg:Gl X x:=by rfl)
  (oR:lH x:=by decide) (he:SE X e es:=by rfl) (mh:rc X pos es:=by rfl) :
  XO X M G 1 (.Call (.Name x pp) (e::es) [] pos) (λY=>(fs Y).bind λO=>mi c0<|O++[]) :=
 zso (ns:=ns) (nd:=[]) (zW:=[]) ⟨U'.mks,d.me.at_,d.me.fn,U'.kp⟩ wZ (by rw[dH];exact Fn) (hr.mono rG) hg U'.mgx d.bd .nil (λ_ _=>.nil) ha oR he mh
end
section
variable {w:dW}{N0:Str}{fd:cD}
theorem lf (Fn:ë K x qual st fa fd)(body:∀(kM:b8) (A:d4) (outer:List PySem.Env) (s:cF) (H:Hp) (E:XK),fY kk (A.deeper<|envOfC qual (dS st) s.heap.objs.size fa kM)->N.Nodup->wM (sS gk P w K mg base N qual (dS st) fa kM A outer s H E).nox M G rk (iE st) bf)
  (K':iO N ps (dS st):=by exact⟨rfl,rfl,rfl,by decide +kernel,rfl,by decide +kernel,by decide +kernel⟩)
  (BE:pm.length=ps.length:=by rfl) (EQ:G.length=N.length:=by rfl) (rG:ps.length<=N.length:=by decide) (EO:∀(i n:Nat),pm[i]?=Z n->G[i]?=Z (Mo.al n)\/(n=0/\G[i]?=Z (Mo.ow 0)):=by exact JK (by decide)) :
  dO P w K mg base gk (kk+1) fa fd ps (jR K M pm rk<|Ô N bf):=ĝ Fn K' BE EQ rG EO λa b c d e f g=>body a b c d e f g K'.nd
theorem FV (Fn:ë K x qual st fa fd)(body:∀(x:cn) (kM:b8) (A:d4) (outer:List PySem.Env) (s:cF) (H:Hp) (E:XK),fY kk (A.deeper<|envOfC qual (dS st) s.heap.objs.size fa kM)->(N0::N).Nodup->wM (sS gk P w K mg base (N0::N) qual (dS st) fa kM A outer s H E).nox M (.so x::G) rk (iE st) bf)
  (K':iO (N0::N) ps (dS st):=by exact⟨rfl,rfl,rfl,by decide +kernel,rfl,by decide +kernel,by decide +kernel⟩)
  (BE:pm.length+1=ps.length:=by rfl) (EQ:G.length=N.length:=by rfl) (rG:pm.length<=N.length:=by decide) (EO:∀(i n:Nat),pm[i]?=Z n->G[i]?=Z (Mo.al n)\/(n=0/\G[i]?=Z (Mo.ow 0)):=by exact JK (by decide)) :
  dO P w K mg base gk (kk+1) fa fd ps (yL K M cs pm<|C7 (N0::N) bf):=Yu Fn K' BE EQ rG EO λx a b c d e f g=>body x a b c d e f g K'.nd
end
end L3
namespace My
open PySem L2 L3
abbrev cl (m:List D->Option D)(fs:L3.Env->Option (List D)):EF:=λY=>(fs Y).bind λO=>m<|O++[]
noncomputable abbrev dr (i:Int):Option D:=some<|.int i
noncomputable abbrev dq (xs:List D):Option D:=some<|.lst xs
noncomputable abbrev mO (l:List Nat):List Mo:=l.map .ow
noncomputable def Ó (i:Nat):eA:=PySem.Challenge.pw_ringbeat_k91_whole_text_to_paper.main.body.getD i<|.Pass ⟨0,0,0,0⟩
abbrev VR:eA:=Þ (Ó 43) 0
abbrev Wu:eA:=Þ (Ó 44) 0
abbrev Wv:eA:=Þ (Ó 45) 0
abbrev Wf:eA:=Þ (Ó 46) 0
abbrev WW:eA:=Ó 53
abbrev WX:eA:=Ó 54
abbrev Yp:eA:=Ó 55
abbrev WY:eA:=Ó 56
abbrev Wg:eA:=Ó 57
abbrev XJ:eA:=Ó 58
abbrev VW:eA:=Ó 59
abbrev VG:eA:=Ó 60
abbrev WI:eA:=Þ (Ó 63) 0
abbrev qp:eA:=Þ (Ó 63) 1
abbrev XN:eA:=Þ (Ó 63) 2
abbrev XQ:eA:=Ó 64
abbrev VH:eA:=Ó 11
abbrev ϯ:eA:=Ó 12
abbrev ZD:eA:=Ó 15
abbrev Α:eA:=Ó 13
abbrev Ϯ:eA:=Ó 14
abbrev ϭ:eA:=Ó 16
abbrev ſ:eA:=Ó 78
abbrev Pm:eA:=Ó 79
abbrev uf:eA:=Ó 80
abbrev WJ:eA:=Ó 82
abbrev ZE:eA:=Ó 83
abbrev WZ:eA:=Ó 84
abbrev VX:eA:=Ó 85
abbrev Wi:eA:=Ó 86
abbrev Wj:eA:=Ó 87
abbrev ž:eA:=Ó 88
abbrev VY:eA:=Ó 96
abbrev W3:eA:=Ó 97
abbrev Wl:eA:=Ó 98
abbrev VI:eA:=Ó 99
abbrev VS:eA:=Ó 100
abbrev VJ:eA:=Ó 101
abbrev VT:eA:=Ó 102
abbrev VL:eA:=Ó 103
abbrev VZ:eA:=Ó 104
abbrev WK:eA:=Ó 111
abbrev XR:eA:=Ó 112
abbrev Y6:eA:=Ó 114
abbrev WL:eA:=Ó 115
abbrev VU:eA:=Ó 116
abbrev VV:eA:=Ó 117
abbrev jv:eA:=Ó 118
abbrev jw:eA:=Ó 119
abbrev jx:eA:=Ó 120
abbrev W4:eA:=Ó 128
abbrev XU:eA:=Ó 129
abbrev Wm:eA:=Þ (Ó 136) 0
abbrev PH:eA:=Þ (Ó 136) 1
abbrev Wn:eA:=Ó 138
abbrev WM:eA:=Ó 139
abbrev W5:eA:=Ó 140
abbrev W6:eA:=Ó 141
abbrev Yq:eA:=Ó 142
abbrev Wo:eA:=Ó 143
abbrev WN:eA:=Ó 144
abbrev V3:eA:=Ó 145
abbrev XX:eA:=Ó 146
abbrev Wp:eA:=Ó 147
abbrev Xc:eA:=Ó 148
abbrev u6:eA:=Ó 149
abbrev Ņ:eA:=Ó 150
theorem xk:iO ["net","pace","numbers","times","chosen","pushed","number","arrow","earliest"] ["net","pace","numbers","times","chosen"] (dS Pm):=⟨rfl,rfl,rfl,by decide +kernel,rfl,by decide +kernel,by decide +kernel⟩
theorem V4:iO ["desk","words"] ["desk","words"] (dS jv):=⟨rfl,rfl,rfl,by decide +kernel,rfl,by decide +kernel,by decide +kernel⟩
theorem V5:iO ["desk","arrows"] ["desk","arrows"] (dS jw):=⟨rfl,rfl,rfl,by decide +kernel,rfl,by decide +kernel,by decide +kernel⟩
theorem V6:iO ["desk","words"] ["desk","words"] (dS jx):=⟨rfl,rfl,rfl,by decide +kernel,rfl,by decide +kernel,by decide +kernel⟩
theorem jh:iO ["self","row","words","answer"] ["self","row"] (dS PH):=⟨rfl,rfl,rfl,by decide +kernel,rfl,by decide +kernel,by decide +kernel⟩
theorem xh:iO ["_law_desk","_law_arrows","_law_names_here","_law_text","_law_slow","_law_found","_law_slower"] ["_law_desk","_law_arrows","_law_names_here"] (dS u6):=⟨rfl,rfl,rfl,by decide +kernel,rfl,by decide +kernel,by decide +kernel⟩
set_option genInjectivity false
set_option genSizeOf false
structure Ą where
 b:cn
 c:cn
 d:cn
 e:cn
 f:cn
 g:cn
 h:cn
 i:cn
 j:cD
 k:cn
 l:cD
 m:cn
 n:cD
 o:cn
 p:cD
 q:cn
 r:cD
 s:cn
 t:cD
 u:cn
 v:cD
 x:cn
 y:cD
 z:cn
 aa:cD
 ab:cn
 ac:cD
 ad:cn
 ae:cD
 af:cn
 ag:cD
 ah:cn
 ai:cD
 aj:cn
 ak:cD
 al:cn
 am:cD
 an:cn
 ao:cD
 ap:cn
 aq:cD
 ar:cn
 au:cD
 av:cn
 aw:cD
 ax:cn
 ay:cD
 az:cn
 aA:cD
 aB:cn
 aC:cD
 aD:cn
 aE:cD
 aF:cn
 aG:cD
 aH:cn
 aI:cD
 aJ:cn
 aK:cD
 aL:cn
 aM:cD
 aN:cn
 aO:cD
 aP:cn
 aQ:cD
 aR:cn
 aS:cD
 aT:cn
 aU:cD
 aV:cn
 aW:cD
 aX:cn
 aY:cD
 aZ:cn
 a0:cD
 a1:cn
 a2:cD
 a3:cn
 a4:cD
 a5:cn
 a6:cD
 a7:cn
 a8:cD
 a9:cn
 ba:cD
 bb:cn
 bc:cD
 bd:cn
 be:cD
 bf:cn
 bg:cD
 bh:cn
 bi:cD
 bj:cn
 bk:cD
 bl:cn
 bm:cD
 bn:cn
 bo:cD
 bp:cn
 bq:cD
 br:cn
 bs:cD
 bt:cn
 bu:cD
 bv:cn
 bw:cD
 bx:cn
 bz:cD
 bA:cn
 bB:cD
 bC:cn
 bD:cD
 bE:cn
 bF:cD
 bG:cn
 bH:cD
 bI:cn
 bJ:cD
 bK:cn
 bL:cD
 bM:cn
 bN:cD
 bO:cn
 bP:cD
 bQ:cn
 bR:cD
 bS:cn
 bT:cD
 bU:cn
 bV:cD
 bW:cn
 bX:cD
 bY:cn
 bZ:cD
 b0:cn
 b1:cD
 b2:cn
 b3:cD
 b4:cn
 b5:cD
set_option genSizeOf true
set_option genInjectivity true
def Ą.ct (a:Ą):Nat->cn
 |0=>a.b
 |1=>a.c
 |2=>a.d
 |3=>a.e
 |4=>a.f
 |5=>a.g
 |6=>a.h
 |_=>0
noncomputable def yr:D:=(.kt [(.str "cut"),(.str "change")])
noncomputable def yy:D:=(.kt [(.str "late"),(.str "fate"),(.str "spare"),(.str "give")])
noncomputable def yo:List (Str×D):=[("cut",(.kt [(.kt [(.int 0),(.int 999999999999999)])])),("change",(.kt [(.kt [(.int 0),(.int 999999999999999)]),(.kt [(.int 0),(.int 999999999999999)])])),("put",(.kt [.non,(.kt [(.int 0),(.int 400)]),(.kt [(.int 0),(.int 1000000000000)])])),("show",(.kt [])),("run",(.kt [(.kt [(.int 0),(.int 400)])])),("least",(.kt [])),("rate",(.kt [.non])),("again",(.kt [(.kt [(.int 1),(.int 200)])])),("late",(.kt [(.kt [(.int 0),(.int 400)])])),("fate",(.kt [(.kt [(.int 1),(.int 400)])])),("spare",(.kt [.non,.non])),("give",(.kt [.non,(.kt [(.int 0),(.int 60)])]))]
structure Txt (K:b9)(mg:Str->Option b8)(a:Ą)(w:dW):Prop where
 b:Dc K mg "Arrow" a.b
 c:Dc K mg "Ride" a.c
 d:Dc K mg "Wait" a.d
 e:Dc K mg "Back" a.e
 f:Dc K mg "Net" a.f
 g:Dc K mg "Table" a.g
 h:Dc K mg "Desk" a.h
 i:Dm K a.b "__init__" "Arrow.__init__" VR ["self","start","goal","time","behind"] a.i a.j
 j:Dm K a.c "__init__" "Ride.__init__" Wu ["self","start","goal","time"] a.k a.l
 k:Dm K a.d "__init__" "Wait.__init__" Wv ["self","start","goal","time","behind"] a.m a.n
 l:∃vU,True/\dR [(V.int 0)] vU/\iA K a.n ["self","start","goal","time","behind"] vU
 m:Dm K a.e "__init__" "Back.__init__" Wf ["self","start","goal","time","behind"] a.o a.p
 n:∃vU,True/\dR [(V.int 1)] vU/\iA K a.p ["self","start","goal","time","behind"] vU
 o:kn K mg "is_letter" WW ["sign"] a.q a.r
 p:kn K mg "is_figure" WX ["sign"] a.s a.t
 q:kn K mg "is_name" Yp ["word"] a.u a.v
 r:kn K mg "are_names" WY ["names"] a.x a.y
 s:kn K mg "lies_within" Wg ["number","least","most"] a.z a.aa
 t:kn K mg "is_right" XJ ["arrow","many"] a.ab a.ac
 u:kn K mg "placed_goings" VW ["many","arrows"] a.ad a.ae
 v:kn K mg "ring_back_from" VG ["arrows","chosen","going"] a.af a.ag
 x:Dm K a.f "__init__" "Net.__init__" WI ["self","names","arrows"] a.ah a.ai
 y:Dm K a.f "most_behind" "Net.most_behind" qp ["self"] a.aj a.ak
 z:Dm K a.f "into" "Net.into" XN ["self","going"] a.al a.am
 aa:kn K mg "leads_to" XQ ["net","going"] a.an a.ao
 ab:kn K mg "common_divisor" VH ["one","other"] a.ap a.aq
 ac:kn K mg "ratio" ϯ ["top","bottom"] a.ar a.au
 ad:kn K mg "scaled" ZD ["one","whole"] a.av a.aw
 ae:kn K mg "plus" Α ["one","other"] a.ax a.ay
 af:kn K mg "minus" Ϯ ["one","other"] a.az a.aA
 ag:kn K mg "under" ϭ ["one","other"] a.aB a.aC
 ah:kn K mg "mean" ſ ["net","ring"] a.aD a.aE
 ai:kn K mg "push_once" Pm ["net","pace","numbers","times","chosen"] a.aF a.aG
 aj:kn K mg "times_or_ring_along" uf ["net","pace","numbers"] a.aH a.aI
 ak:kn K mg "ring_above" WJ ["net","pace","numbers"] a.aJ a.aK
 al:kn K mg "midway" ZE ["one","other"] a.aL a.aM
 am:kn K mg "least_gap" WZ ["net"] a.aN a.aO
 an:kn K mg "greatest_ring" VX ["net","numbers"] a.aP a.aQ
 ao:kn K mg "paper_along" Wi ["net","numbers"] a.aR a.aS
 ap:kn K mg "least_round" Wj ["net"] a.aT a.aU
 aq:kn K mg "rate" ž ["net","going"] a.aV a.aW
 ar:kn K mg "fraction_word" VY ["fraction"] a.aX a.aY
 au:kn K mg "is_number" W3 ["word"] a.aZ a.a0
 av:kn K mg "are_numbers" Wl ["words"] a.a1 a.a2
 aw:kn K mg "has_arrow_form" VI ["words"] a.a3 a.a4
 ax:kn K mg "names_in_row" VS ["words"] a.a5 a.a6
 ay:kn K mg "refuse_unknown" VJ ["told","names"] a.a7 a.a8
 az:kn K mg "arrow_of_row" VT ["words","names"] a.a9 a.ba
 aA:kn K mg "arrows_of_line" VL ["words","names"] a.bb a.bc
 aB:kn K mg "arrows_of_row" VZ ["words","names"] a.bd a.be
 aC:kn K mg "stands_for" WK ["word","slot"] a.bf a.bg
 aD:kn K mg "has_form" XR ["words"] a.bh a.bi
 aE:kn K mg "is_row" Y6 ["desk","words"] a.bj a.bk
 aF:kn K mg "names_told" WL ["words"] a.bl a.bm
 aG:kn K mg "number_words" VU ["numbers"] a.bn a.bo
 aH:kn K mg "going_called" VV ["desk","name"] a.bp a.bq
 aI:kn K mg "tell_goings" jv ["desk","words"] a.br a.bs
 aJ:kn K mg "take_arrows" jw ["desk","arrows"] a.bt a.bu
 aK:kn K mg "tell_arrows" jx ["desk","words"] a.bv a.bw
 aL:kn K mg "ask_least" W4 ["desk","words"] a.bx a.bz
 aM:kn K mg "ask_rate" XU ["desk","words"] a.bA a.bB
 aN:Dm K a.h "__init__" "Desk.__init__" Wm ["self"] a.bC a.bD
 aO:Dm K a.h "say" "Desk.say" PH ["self","row"] a.bE a.bF
 aP:kn K mg "_law_cell_at" Wn ["_law_script","_law_k"] a.bG a.bH
 aQ:kn K mg "_law_is_row" WM ["_law_cell"] a.bI a.bJ
 aR:kn K mg "_law_mixed" W5 ["_law_cell","_law_k"] a.bK a.bL
 aS:kn K mg "_law_names" W6 ["_law_cell","_law_many"] a.bM a.bN
 aT:kn K mg "_law_row" Yq ["_law_cell","_law_names_here","_law_order"] a.bO a.bP
 aU:kn K mg "_law_no_ring" Wo ["_law_arrows","_law_many"] a.bQ a.bR
 aV:kn K mg "_law_number" WN ["_law_word"] a.bS a.bT
 aW:kn K mg "_law_fraction" V3 ["_law_word"] a.bU a.bV
 aX:kn K mg "_law_read" XX ["_law_text"] a.bW a.bX
 aY:kn K mg "_law_is_ring" Wp ["_law_arrows","_law_ring"] a.bY a.bZ
 aZ:kn K mg "_law_right" Xc ["_law_arrows","_law_many","_law_found"] a.b0 a.b1
 a0:kn K mg "_law_answered" u6 ["_law_desk","_law_arrows","_law_names_here"] a.b2 a.b3
 a1:kn K mg "law" Ņ ["_law_script"] a.b4 a.b5
 a2:∃u,mg "WORDS_OF_ARROWS"=Z u/\KC K yr u
 a3:∃u,mg "WORDS_OF_PLANS"=Z u/\KC K yy u
 a4:KG K w mg "FORMS" yo
 a5:KF K w mg "ANSWERS" [("goings",a.br),("ride",a.bv),("wait",a.bv),("back",a.bv),("line",a.bv),("least",a.bx),("rate",a.bA)]
 a6:Dq K a.b "__init__" a.i
 a7:∀c∈([6]:List Nat),pT K (a.ct c)/\gB K (a.ct c) "answered"
 a8:∀c∈([4]:List Nat),pT K (a.ct c)/\gB K (a.ct c) "arrows"
 a9:∀c∈([0,1,2,3]:List Nat),pT K (a.ct c)/\gB K (a.ct c) "behind"
 ba:∀c∈([0,1,2,3]:List Nat),pT K (a.ct c)/\gB K (a.ct c) "goal"
 bb:∀c∈([4]:List Nat),pT K (a.ct c)/\gB K (a.ct c) "names"
 bc:∀c∈([5,6]:List Nat),pT K (a.ct c)/\gB K (a.ct c) "net"
 bd:∀c∈([6]:List Nat),pT K (a.ct c)/\gB K (a.ct c) "puts"
 be:∀c∈([0,1,2,3]:List Nat),pT K (a.ct c)/\gB K (a.ct c) "start"
 bf:∀c∈([6]:List Nat),pT K (a.ct c)/\gB K (a.ct c) "table"
 bg:∀c∈([0,1,2,3]:List Nat),pT K (a.ct c)/\gB K (a.ct c) "time"
 bh:∀c∈([0,1,2,3,4,5,6]:List Nat),Ic K (a.ct c)/\iD K (.ref<|a.ct c) (.ref a.e)=Z (DI [3] c)
 bi:∀c∈([0,1,2,3,4,5,6]:List Nat),Ic K (a.ct c)/\iD K (.ref<|a.ct c) (.ref a.c)=Z (DI [1] c)
 bj:mg "abs"=C
 bk:mg "all"=C
 bl:mg "bool"=C
 bm:mg "enumerate"=C
 bn:mg "int"=C
 bo:mg "isinstance"=C
 bp:mg "len"=C
 bq:mg "list"=C
 br:mg "max"=C
 bs:mg "range"=C
 bt:mg "reversed"=C
 bu:mg "sorted"=C
 bv:mg "str"=C
 bw:mg "sum"=C
 bx:mg "zip"=C
 bz:∃t,mg "MOST_ARROWS"=Z (.int 120 t)
 bA:∃t,mg "MOST_BEHIND"=Z (.int 4 t)
 bB:∃t,mg "MOST_FIGURES"=Z (.int 15 t)
 bC:∃t,mg "MOST_NAMES"=Z (.int 40 t)
 bD:∃t,mg "MOST_SIGNS"=Z (.int 8 t)
 bE:∃t,mg "MOST_TIME"=Z (.int 1000000000 t)
variable {K:b9}{mg:Str->Option b8}
noncomputable section
variable {P:eG}{w:dW}{base:cO}{a:Ą}{M:Nat->cn}
def kQ:Nat->List D->Option D:=C7 ["self","start","goal","time","behind"]
  (Æ (oC [0,1,2,3] "start" (L 1))
  (Æ (oC [0,1,2,3] "goal" (L 2))
  (Æ (oC [0,1,2,3] "time" (L 3))
  (oC [0,1,2,3] "behind" (L 4)))))
theorem wx (T:Txt K mg a w):dO P w K mg base gk 1 a.i a.j ["self","start","goal","time","behind"] (yL K a.ct [0,1,2,3] [0,0,0,0] kQ) :=
 FV (G:=mO [0,0,0,0]) (rk:=0) T.i.fn λ_ _ _ _ _ _ _ hr nd=>(ze (u4 T.be xv)<|ze (u4 T.ba xv)<|ze (u4 T.bg xv)<|zl<|u4 T.a9 xv)
abbrev db:=eC<|.int 0
def lK:Nat->List D->Option D:=C7 ["self","start","goal","time"]
  (wC [0,1,2,3] (Ä (L 1)<|Ä (L 2)<|Ä (L 3)<|Ä db Å) kQ)
theorem u7 (T:Txt K mg a w):dO P w K mg base gk 2 a.k a.l ["self","start","goal","time"] (yL K a.ct [1] [0,0,0] lK) :=
 FV (G:=mO [0,0,0]) (rk:=0) T.j.fn λ_ _ _ _ _ _ _ hr nd=>(zl<|MX (ns:=[0,0,0,0]) (wx T) (hr.mono<|by decide) T.b.mgx T.a6.sp T.a6.rd T.a6.fc T.i.fn.kp T.i.bd (by decide)<|za xv<|za xv<|za xv<|za dL zh)
def nQ:Nat->List D->Option D:=C7 ["self","start","goal","time","behind"]
  (wC [0,1,2,3] (Ä (L 1)<|Ä (L 2)<|Ä (L 3)<|Ä (L 4) Å) kQ)
theorem V7 (T:Txt K mg a w):dO P w K mg base gk 2 a.m a.n ["self","start","goal","time","behind"] (yL K a.ct [2] [0,0,0,0] nQ) :=
 FV (G:=mO [0,0,0,0]) (rk:=0) T.k.fn λ_ _ _ _ _ _ _ hr nd=>(zl<|MX (ns:=[0,0,0,0]) (wx T) (hr.mono<|by decide) T.b.mgx T.a6.sp T.a6.rd T.a6.fc T.i.fn.kp T.i.bd (by decide)<|za xv<|za xv<|za xv<|za xv zh)
def jZ:Nat->List D->Option D:=C7 ["self","start","goal","time","behind"]
  (wC [0,1,2,3] (Ä (L 1)<|Ä (L 2)<|Ä (L 3)<|Ä (L 4) Å) kQ)
theorem u8 (T:Txt K mg a w):dO P w K mg base gk 2 a.o a.p ["self","start","goal","time","behind"] (yL K a.ct [3] [0,0,0,0] jZ) :=
 FV (G:=mO [0,0,0,0]) (rk:=0) T.m.fn λ_ _ _ _ _ _ _ hr nd=>(zl<|MX (ns:=[0,0,0,0]) (wx T) (hr.mono<|by decide) T.b.mgx T.a6.sp T.a6.rd T.a6.fc T.i.fn.kp T.i.bd (by decide)<|za xv<|za xv<|za xv<|za xv zh)
def lP:List D->Option D:=Ô ["sign"]
  (Ì<|eB<|Ø (tb<|S Ad (eC<|.str "a")<|L 0)<|tb<|S Ad (L 0)<|eC<|.str "z")
theorem Pc (T:Txt K mg a w):dO P w K mg base gk 1 a.q a.r ["sign"] (jR K a.ct [0] 0 lP) :=
 lf (G:=mO [0]) T.o.fn λ_ _ _ _ _ _ hr nd=>(zl<|kG<|v7 (Fj (zn (n:=0)) xv)<|vc (k:=0)<|Fj xv<|zn (n:=0))
def lO:List D->Option D:=Ô ["sign"]
  (Ì<|eB<|Ø (tb<|S Ad (eC<|.str "0")<|L 0)<|tb<|S Ad (L 0)<|eC<|.str "9")
theorem Pd (T:Txt K mg a w):dO P w K mg base gk 1 a.s a.t ["sign"] (jR K a.ct [0] 0 lO) :=
 lf (G:=mO [0]) T.p.fn λ_ _ _ _ _ _ hr nd=>(zl<|kG<|v7 (Fj (zn (n:=0)) xv)<|vc (k:=0)<|Fj xv<|zn (n:=0))
def nL:EF:=(fF (λY=>((L 0) Y).bind IL) 1 [] (gV 0) g0<|eB<|ã (tb<|cl lP<|Ä (L 0) Å)<|tb<|cl lO<|Ä (L 0) Å)
abbrev ds:=eC<|.int 1
abbrev e2:=Ì<|eC<|.bl Ã
def mI:List D->Option D:=Ô ["word"]
  (Æ (Ò (ã (Ú<|tb<|e1 (tT "str")<|L 0)<|ã (tb<|S tX (eN fC<|Ä (L 0) Å) ds)<|tb<|S Be (eN fC<|Ä (L 0) Å)<|eC<|.int 8) e2 Ë)
  (Ì<|eB<|Ø (tb<|cl lP<|Ä (S dM (L 0) db) Å)<|tb<|eN lB<|Ä nL Å))
theorem XY (T:Txt K mg a w):dO P w K mg base gk 2 a.u a.v ["word"] (jR K a.ct [0] 0 mI) :=
 lf (G:=mO [0]) T.q.fn λ_ _ _ _ _ _ hr nd=>(ze (lL (XW.t<|wo (wg<|xi<|Iy (k:=0) (by decide) T.bo T.bv v6 xv)<|wo (Bk (qD T.bp<|za xv zh) dL)<|wu<|Ff (qD T.bp<|za xv zh)<|F8 T.bD)<|kG<|wj (n:=0))<|zl<|kG<|v7 (xc T.o (Pc T) hr<|za (e9 xv dL) zh)<|vc (k:=0)<|yp (k:=0) (vi rfl) qo rfl T.bk Gb<|za (iy<|vN (N:=["sign"]) (om:=mO [0]) (cap:=[]) (own:=1) (XI.cc<|Nk (n:=0) xv) (λ_ _ _ _ _ h=>(o7 h)) (λ_ _ _ _ _=>yf)<|λ_ _ _ _ _=>(XE.ow<|NE (xc T.o (Pc T) hr<|za xv zh)<|vc (k:=0)<|xc T.p (Pd T) hr<|za xv zh)) zh)
def eK:SF:=(Æ (Ò (ã (Ú<|tb<|cl mI<|Ä (L 2) Å)<|tb<|λY=>((L 2) Y).bind λx=>((L 1) Y).bind λy=>(nD y x).bind λr=>Z<|.bl r.isSome) (Ì<|eC<|.bl Ã) Ë)
  (pQ 1 (L 2)<|eC<|.bl Â))
abbrev wE:=Ì<|eC<|.bl Â
def hU:List D->Option D:=Ô ["names","seen","name"]
  (Æ (Ò (ã (Ú<|tb<|e1 (tT "list")<|L 0)<|ã (tb<|S tX (eN fC<|Ä (L 0) Å) ds)<|tb<|S Be (eN fC<|Ä (L 0) Å)<|eC<|.int 40) e2 Ë)
  (Æ (É 1<|eC<|.dK [] [])
  (Æ (Û (Ù<|L 0) (gV 2) eK)
  wE)))
theorem WO (T:Txt K mg a w):dO P w K mg base gk 3 a.x a.y ["names"] (jR K a.ct [0] 0 hU) :=
 lf (G:=mO [0,1,0]) T.r.fn λ_ _ _ _ _ _ hr nd=>(ze (lL (XW.t<|wo (wg<|xi<|Iy (k:=0) (by decide) T.bo T.bq Ih xv)<|wo (Bk (qD T.bp<|za xv zh) dL)<|wu<|Ff (qD T.bp<|za xv zh)<|F8 T.bC)<|kG<|wj (n:=0))<|ze (mZ nd Mv)<|ze (xF (vn xv) (rO nd)<|ze (lL (XW.t<|wo (wg<|xi<|xc T.q (XY T) hr<|za xv zh)<|wu<|Ū (Eu hr) xv xv<|by with_unfolding_all rfl)<|kG<|wj (n:=0))<|zl<|Rr 1 rfl (Eu hr) xv<|wj (n:=0))<|zl<|kG<|wj (n:=0))
def eL:List D->Option D:=Ô ["number","least","most"]
  (Æ (Ò (ã (Ú<|tb<|e1 (tT "int")<|L 0)<|tb<|e1 (tT "bool")<|L 0) e2 Ë)
  (Ì<|eB<|Ø (tb<|S Ad (L 1)<|L 0)<|tb<|S Ad (L 0)<|L 2))
theorem x8 (T:Txt K mg a w):dO P w K mg base gk 1 a.z a.aa ["number","least","most"] (jR K a.ct [0,0,0] 0 eL) :=
 lf (G:=mO [0,0,0]) T.s.fn λ_ _ _ _ _ _ hr nd=>(ze (lL (XW.t<|wo (wg<|xi<|Iy (k:=0) (by decide) T.bo T.bn jk xv)<|wu<|xi<|Iy (k:=0) (by decide) T.bo T.bl zrp xv)<|kG<|wj (n:=0))<|zl<|kG<|v7 (Fj xv xv)<|vc (k:=0)<|Fj xv xv)
abbrev eV:=dX [0,1,2,3] "behind"
abbrev gf:=dX [0,1,2,3] "goal"
abbrev ms:=dX [0,1,2,3] "start"
abbrev pk:=dX [0,1,2,3] "time"
def oS:List D->Option D:=Ô ["arrow","many","least","most"]
  (Æ (É 2<|ù (tb<|e1 (BJ [0,1,2,3,4,5,6] [3])<|L 0) ds db)
  (Æ (É 3<|ù (tb<|e1 (BJ [0,1,2,3,4,5,6] [1])<|L 0) db<|eC<|.int 4)
  (Æ (Ò (ã (Ú<|tb<|cl eL<|Ä (e1 ms<|L 0)<|Ä db<|Ä (S uU (L 1) ds) Å)<|Ú<|tb<|cl eL<|Ä (e1 gf<|L 0)<|Ä db<|Ä (S uU (L 1) ds) Å) e2 Ë)
  (Ì<|eB<|Ø (tb<|cl eL<|Ä (e1 pk<|L 0)<|Ä db<|Ä (eC<|.int 1000000000) Å)<|tb<|cl eL<|Ä (e1 eV<|L 0)<|Ä (L 2)<|Ä (L 3) Å))))
theorem Xd (T:Txt K mg a w):dO P w K mg base gk 2 a.ab a.ac ["arrow","many"] (jR K a.ct [0,0] 0 oS) :=
 lf (G:=mO [0,0,0,0]) T.t.fn λ_ _ _ _ _ _ hr nd=>(ze (nh nd<|Fv (xi<|Ru (k:=0) T.bh T.bo T.e.mgx xv) dL dL)<|ze (nh nd<|Fv (xi<|Ru (k:=0) T.bi T.bo T.c.mgx xv) dL<|F8 T.bA)<|ze (lL (XW.t<|wo (wg<|xi<|xc T.s (x8 T) hr<|za (nu xv T.be)<|za dL<|za (yX xv dL) zh)<|wu<|wg<|xi<|xc T.s (x8 T) hr<|za (nu xv T.ba)<|za dL<|za (yX xv dL) zh)<|kG<|wj (n:=0))<|zl<|kG<|v7 (xc T.s (x8 T) hr<|za (nu xv T.bg)<|za dL<|za (F8 T.bE) zh)<|vc (k:=0)<|xc T.s (x8 T) hr<|za (nu xv T.a9)<|za xv<|za xv zh)
def hG:SF:=(Ò (tb<|S (gb Ã) (e1 (dX [0,1,2,3] "start")<|L 4)<|L 7) (Æ (xG 3 (e1 (dX [0,1,2,3] "goal")<|L 4) (λi j=>i-j)<|eC<|.int 1)
  (Ò (tb<|S (gb Ã) (S dM (L 3)<|e1 (dX [0,1,2,3] "goal")<|L 4)<|eC<|.int 0) (ì 5<|e1 (dX [0,1,2,3] "goal")<|L 4) Ë)) Ë)
def kO:SF:=(Æ (É 7<|S dM (L 5)<|L 6)
  (Æ (Û (Ù<|L 2) (gV 4) hG)
  (B5 6 (i2 λi j=>.int<|i+j)<|eC<|.int 1)))
def nM:EF:=(fF (λY=>((Ä (L 0) Å) Y).bind pA) 1 [3] (gV 0) (tb<|S (gb Ã) (S dM (L 1)<|L 0)<|eC<|.int 0)<|L 0)
def kP:SF:=(xG 3 (e1 (dX [0,1,2,3] "goal")<|L 4) (λi j=>i+j)<|eC<|.int 1)
abbrev on:=gb Ã
abbrev r9:=gV 0
def nN:EF:=(fF (Ù<|L 1) 1 [] r9 (tb<|S on (e1 eV<|L 0) db)<|L 0)
def iX:List D->Option D:=Ô ["many","arrows","within","waited","arrow","placed","done","here"]
  (Æ (É 2 nN)
  (Æ (É 3<|S yY (λY=>((Ä (eC<|.int 0) Å) Y).bind λO=>Z<|.lst O)<|L 0)
  (Æ (Û (Ù<|L 2) (gV 4) kP)
  (Æ (É 5 nM)
  (Æ (É 6<|eC<|.int 0)
  (Æ (kA (tb<|S tX (L 6)<|eN fC<|Ä (L 5) Å) kO)
  (Ì<|L 5)))))))
theorem VM (T:Txt K mg a w):dO P w K mg base gk 1 a.ad a.ae ["many","arrows"] (jR K a.ct [0,0] 0 iX) :=
 lf (G:=mO [0,0,0,1,0,1,0,0]) T.u.fn λ_ _ _ _ _ _ hr nd=>(ze (Ca (k:=0) (N:=["arrow"]) (om:=mO [0]) (cap:=[]) (own:=1) nd (yj (n:=0) xv) (λ_ _ _ _ _ h=>(o7 h)) (λ_ _ _ _ _=>(jc<|rN hr (nu xv T.a9) dL))<|λ_ _ _ _ _=>(XE.ow xv))<|ze (mZ nd<|Sx (yt (k:=0)<|zj (XE.ow dL) zt) xv)<|ze (xF (vn xv) (rO nd)<|zl<|Rt 3 M6 rfl (nu xv T.ba) dL)<|ze (Ca (k:=1) (N:=["going","waited"]) (om:=mO [0]) (cap:=[3]) (own:=1) nd (XI.cc<|wv (n:=0) T.bs<|za xv zh) (λ_ _ _ _ _ h=>(o7 h)) (λ_ _ _ _ _=>(jc<|rN hr (FU xv xv) dL))<|λ_ _ _ _ _=>(XE.ow xv))<|ze (nh nd dL)<|ze (F7 (Bk xv<|qD T.bp<|za xv zh)<|ze (nh nd<|FU xv xv)<|ze (xF (vn xv) (rO nd)<|zl<|Gg (rN hr (nu xv T.be) xv) (ze (Rt 3 Ν rfl (nu xv T.ba) dL)<|zl<|lL (rN hr (FU xv<|nu xv T.ba) dL)<|jq 5 rfl<|XE.ow<|nu xv T.ba) v8)<|zl<|Sy M6 rfl nd rfl (Or.inl rfl) dL)<|zl<|zss (i:=5) rfl)
def kr:SF:=(Æ (pQ 4 (L 3)<|eN fC<|Ä (L 5) Å)
  (Æ (ì 5<|λY=>((L 1) Y).bind λx=>((L 3) Y).bind λy=>(nD x y).join)
  (É 3<|e1 (dX [0,1,2,3] "start")<|S dM (L 0)<|λY=>((L 1) Y).bind λx=>((L 3) Y).bind λy=>(nD x y).join)))
def jN:List D->Option D:=Ô ["arrows","chosen","going","here","seen","way"]
  (Æ (É 3<|L 2)
  (Æ (É 4<|eC<|.dK [] [])
  (Æ (É 5<|λY=>(Å Y).bind λO=>Z<|.lst O)
  (Æ (kA (tb<|λY=>((L 3) Y).bind λx=>((L 4) Y).bind λy=>(nD y x).bind λr=>Z<|.bl<|!r.isSome) kr)
  (Ì<|e1 BO<|λY=>((L 5) Y).bind λd=>((ß<|λY=>((L 4) Y).bind λx=>((L 3) Y).bind λy=>(nD x y).join) Y).bind λl=>(ñ Y).bind λh=>gG d l h)))))
theorem qr (T:Txt K mg a w):dO P w K mg base gk 1 a.af a.ag ["arrows","chosen","going"] (jR K a.ct [0,0,0] 1 jN) :=
 lf (G:=mO [0,0,0,0,1,1]) T.v.fn λ_ _ _ _ _ _ hr nd=>(ze (nh nd xv)<|ze (mZ nd Mv)<|ze (mZ nd<|yt (k:=0) zt)<|ze (F7 (Yw (Eu hr) xv xv<|by with_unfolding_all rfl)<|ze (Rr 4 rfl (Eu hr) xv<|qD T.bp<|za xv zh)<|ze (jq 5 rfl<|XE.ow<|Na (Eu hr) (Fs 1 0) (Fs 3 0)<|λ_ _=>rfl)<|zl<|nh nd<|nu (e9 xv<|Na (Eu hr) (Fs 1 0) (Fs 3 0)<|λ_ _=>rfl) T.be)<|zl<|ye<|zsw (n:=0) (by decide) rfl rfl T.bq rfl T.bt<|iy<|xm (n:=1) (by decide) xv (xf<|Na (Eu hr) (Fs 4 1) (Fs 3 0)<|λ_ _=>rfl) DB)
def mP:SF:=(Ò (Ú<|tb<|cl oS<|Ä (L 4)<|Ä (eN fC<|Ä (L 1) Å) Å) Ü Ë)
def fZ:Nat->List D->Option D:=C7 ["self","names","arrows","number","arrow","placed"]
  (Æ (Ò (ã (Ú<|tb<|cl hU<|Ä (L 1) Å)<|tb<|S Be (eN fC<|Ä (L 2) Å)<|eC<|.int 120) Ü Ë)
  (Æ (Û (λY=>((Ä (L 2) Å) Y).bind λO=>match O with|[.lst xs]=>Z (iM 0 xs)|_=>C) (gT<|Ç (gV 3)<|Ç (gV 4) Ð) mP)
  (Æ (É 5<|cl iX<|Ä (eN fC<|Ä (L 1) Å)<|Ä (L 2) Å)
  (Æ (Ò (tb<|S tX (eN fC<|Ä (L 5) Å)<|eN fC<|Ä (L 1) Å) Ü Ë)
  (Æ (oC [4] "names" (eN vJ<|Ä (L 1) Å))
  (oC [4] "arrows" (eN vJ<|Ä (L 2) Å)))))))
theorem jy (T:Txt K mg a w):dO P w K mg base gk 4 a.ah a.ai ["self","names","arrows"] (yL K a.ct [4] [0,0] fZ) :=
 FV (G:=mO [0,0,0,0,0]) (rk:=0) T.x.fn λ_ _ _ _ _ _ _ hr nd=>(ze (lL (XW.t<|wo (wg<|xi<|xc T.r (WO T) hr<|za xv zh)<|wu<|Ff (qD T.bp<|za xv zh)<|F8 T.bz) wp)<|ze (xF (zsc T.bm<|za xv zh) (Gd (n:=1) rfl<|yi (rO nd)<|yi (rO nd) jb)<|zl<|lL (wg<|xi<|xc T.t (Xd T) hr<|za xv<|za (qD T.bp<|za xv zh) zh) wp)<|ze (mZ nd<|iJ T.u (VM T) hr<|za (qD T.bp<|za xv zh)<|za xv zh)<|ze (lL (Bk (qD T.bp<|za xv zh)<|qD T.bp<|za xv zh) wp)<|ze (u4 T.bb<|iy<|PM O7 (Qu (n:=0)<|by decide) rfl T.bq Ih<|za xv zh)<|zl<|u4 T.a8<|iy<|PM O7 (Qu (n:=0)<|by decide) rfl T.bq Ih<|za xv zh)
abbrev em:=dX [4] "arrows"
def mj:EF:=(fF (Ù<|e1 em<|L 0) 1 [] r9 g0<|e1 eV<|L 0)
def eS:List D->Option D:=Ô ["self"]
  (Ì<|eN E4<|Ä (S d9 (λY=>((Ä (eC<|.int 1) Å) Y).bind λO=>Z<|.lst O) mj) Å)
theorem jz (T:Txt K mg a w):dO P w K mg base gk 1 a.aj a.ak ["self"] (jR K a.ct [0] 0 eS) :=
 lf (G:=mO [0]) T.y.fn λ_ _ _ _ _ _ hr nd=>(zl<|kG<|yp (k:=0) (Yt rfl) zsn rfl T.br Sm<|za (iy<|mE (iy<|yt (k:=0)<|zj (XE.ow dL) zt)<|iy<|vN (N:=["arrow"]) (om:=mO [0]) (cap:=[]) (own:=1) (yj (n:=0)<|nu xv T.a8) (λ_ _ _ _ _ h=>(o7 h)) (λ_ _ _ _ _=>yf)<|λ_ _ _ _ _=>(XE.ow<|nu xv T.a9)) zh)
def oV:EF:=(fF (λY=>((Ä (e1 (dX [4] "arrows")<|L 0) Å) Y).bind λO=>match O with|[.lst xs]=>Z (iM 0 xs)|_=>C) 2 [1] (gT<|Ç (gV 0)<|Ç (gV 1) Ð) (tb<|S (gb Ã) (e1 (dX [0,1,2,3] "goal")<|L 1)<|L 2)<|L 0)
def lD:List D->Option D:=Ô ["self","going"]
  (Ì oV)
theorem Xe (T:Txt K mg a w):dO P w K mg base gk 1 a.al a.am ["self","going"] (jR K a.ct [0,0] 0 lD) :=
 lf (G:=mO [0,0]) T.z.fn λ_ _ _ _ _ _ hr nd=>(zl<|ye<|ma<|vN (N:=["number","arrow","going"]) (om:=mO [0,0]) (cap:=[1]) (own:=2) (Mx (n:=0) T.bm<|za (nu xv T.a8) zh) (λ_ _ _ _ _ h=>(ql (n:=1) rfl<|yq (o7 h)<|yq (o7 h) ut)) (λ_ _ _ _ _=>(jc<|rN hr (nu xv T.ba) xv))<|λ_ _ _ _ _=>(XE.ow xv))
def mq:SF:=(Ò (tb<|S (é Â) (e1 ms<|S dM (e1 em<|L 0)<|L 5)<|L 2) (ì 2<|e1 ms<|S dM (e1 em<|L 0)<|L 5) Ë)
def mr:SF:=(Æ (É 4<|S dM (L 2)<|L 3)
  (Æ (Û (Ù<|λY=>((L 0) Y).bind λo=>((Ä (L 4) Å) Y).bind λO=>sU 4 "into" lD o (O++[])) (gV 5) mq)
  (B5 3 (i2 λi j=>.int<|i+j)<|eC<|.int 1)))
def mW:List D->Option D:=Ô ["net","going","found","done","here","number"]
  (Æ (É 2<|λY=>((Ä (L 1) Å) Y).bind λO=>Z<|.lst O)
  (Æ (É 3<|eC<|.int 0)
  (Æ (kA (tb<|S tX (L 3)<|eN fC<|Ä (L 2) Å) mr)
  (Ì<|eN B6<|Ä (L 2) Å))))
theorem Xf (T:Txt K mg a w):dO P w K mg base gk 2 a.an a.ao ["net","going"] (jR K a.ct [0,0] 1 mW) :=
 lf (G:=mO [0,0,1,0,0,0]) T.aa.fn λ_ _ _ _ _ _ hr nd=>(ze (mZ nd<|yt (k:=0)<|zj (XE.ow xv) zt)<|ze (nh nd dL)<|ze (F7 (Bk xv<|qD T.bp<|za xv zh)<|ze (nh nd<|FU xv xv)<|ze (xF (vn<|iy<|Z8 (n:=0) (c0:=4) (ns:=[0]) (nd:=[]) (zW:=[]) xv T.f.cl T.z.me (Xe T) (hr.mono<|by decide) T.z.bd .nil (λ_ _=>.nil)<|za xv zh) (rO nd)<|zl<|lL (wm (k:=0) w9 v9 (nu (e9 (nu xv T.a8) xv) T.be) xv<|by with_unfolding_all rfl)<|jq 2 rfl<|XE.ow<|nu (e9 (nu xv T.a8) xv) T.be)<|zl<|Sy M6 rfl nd rfl (Or.inl rfl) dL)<|zl<|ye<|YQ WH Zk rfl T.bu Yk<|za xv zh)
def ko:SF:=(Æ (É 2<|S iY (L 0)<|L 1)
  (Æ (É 0<|L 1)
  (É 1<|L 2)))
abbrev wS:=gb Â
def jM:List D->Option D:=Ô ["one","other","rest"]
  (Æ (kA (tb<|S wS (L 1) db) ko)
  (Ì<|eN Bv<|Ä (L 0) Å))
theorem qv (T:Txt K mg a w):dO P w K mg base gk 1 a.ap a.aq ["one","other"] (jR K a.ct [0,0] 0 jM) :=
 lf (G:=mO [0,0,0]) T.ab.fn λ_ _ _ _ _ _ hr nd=>(ze (F7 (Bl hr xv dL)<|ze (nh nd<|Ý xv xv)<|ze (nh nd xv)<|zl<|nh nd xv)<|zl<|kG<|yp (k:=0) QA Rn rfl T.bj Si<|za xv zh)
def mz:List D->Option D:=Ô ["top","bottom","divisor"]
  (Æ (É 2<|cl jM<|Ä (L 0)<|Ä (L 1) Å)
  (Æ (Ò (tb<|S tX (L 1)<|eC<|.int 0) (É 2<|e1 vZ<|L 2) Ë)
  (Ì<|λY=>((Ä (S jC (L 0)<|L 2)<|Ä (S jC (L 1)<|L 2) Å) Y).bind λO=>Z<|.tup O)))
theorem uv (T:Txt K mg a w):dO P w K mg base gk 2 a.ar a.au ["top","bottom"] (jR K a.ct [0,0] 0 mz) :=
 lf (G:=mO [0,0,0]) T.ac.fn λ_ _ _ _ _ _ hr nd=>(ze (mZ nd<|iJ T.ab (qv T) hr<|za xv<|za xv zh)<|ze (lL (Bk xv dL)<|nh nd<|Fu (k:=0) xv)<|zl<|ye<|ma<|xw<|zj (XE.ow<|æ xv xv)<|zj (XE.ow<|æ xv xv) zt)
def rK:List D->Option D:=Ô ["one","whole"]
  (Ì<|cl mz<|Ä (S e7 (S dM (L 0) db)<|L 1)<|Ä (S dM (L 0) ds) Å)
theorem Yr (T:Txt K mg a w):dO P w K mg base gk 3 a.av a.aw ["one","whole"] (jR K a.ct [0,0] 0 rK) :=
 lf (G:=mO [0,0]) T.ad.fn λ_ _ _ _ _ _ hr nd=>(zl<|ye<|iJ T.ac (uv T) hr<|za (kJ (e9 xv dL) xv)<|za (e9 xv dL) zh)
def tY:List D->Option D:=Ô ["one","other"]
  (Ì<|cl mz<|Ä (S d9 (S e7 (S dM (L 0) db)<|S dM (L 1) ds)<|S e7 (S dM (L 1) db)<|S dM (L 0) ds)<|Ä (S e7 (S dM (L 0) ds)<|S dM (L 1) ds) Å)
theorem Rm (T:Txt K mg a w):dO P w K mg base gk 3 a.ax a.ay ["one","other"] (jR K a.ct [0,0] 0 tY) :=
 lf (G:=mO [0,0]) T.ae.fn λ_ _ _ _ _ _ hr nd=>(zl<|ye<|iJ T.ac (uv T) hr<|za (iy<|mE (kJ (e9 xv dL)<|e9 xv dL)<|kJ (e9 xv dL)<|e9 xv dL)<|za (kJ (e9 xv dL)<|e9 xv dL) zh)
def pW:List D->Option D:=Ô ["one","other"]
  (Ì<|cl tY<|Ä (L 0)<|Ä (cl rK<|Ä (L 1)<|Ä (e1 vZ ds) Å) Å)
theorem Y7 (T:Txt K mg a w):dO P w K mg base gk 4 a.az a.aA ["one","other"] (jR K a.ct [0,0] 0 pW) :=
 lf (G:=mO [0,0]) T.af.fn λ_ _ _ _ _ _ hr nd=>(zl<|ye<|iJ T.ae (Rm T) hr<|za xv<|za (xc T.ad (Yr T) hr<|za xv<|za (Fu (k:=0) dL) zh) zh)
def pX:List D->Option D:=Ô ["one","other"]
  (Ì<|S tX (S e7 (S dM (L 0) db)<|S dM (L 1) ds)<|S e7 (S dM (L 1) db)<|S dM (L 0) ds)
theorem Y8 (T:Txt K mg a w):dO P w K mg base gk 1 a.aB a.aC ["one","other"] (jR K a.ct [0,0] 0 pX) :=
 lf (G:=mO [0,0]) T.ag.fn λ_ _ _ _ _ _ hr nd=>(zl<|kG<|VA (kJ (e9 xv dL)<|e9 xv dL)<|kJ (e9 xv dL)<|e9 xv dL)
def t3:EF:=(fF (Ù<|L 1) 1 [0] r9 g0<|e1 eV<|S dM (e1 em<|L 1)<|L 0)
def t4:EF:=(fF (Ù<|L 1) 1 [0] r9 g0<|e1 pk<|S dM (e1 em<|L 1)<|L 0)
def oU:List D->Option D:=Ô ["net","ring","times","behinds"]
  (Æ (É 2<|eN wF<|Ä t4 Å)
  (Æ (É 3<|eN wF<|Ä t3 Å)
  (Ì<|cl mz<|Ä (L 2)<|Ä (L 3) Å)))
theorem MY (T:Txt K mg a w):dO P w K mg base gk 3 a.aD a.aE ["net","ring"] (jR K a.ct [0,0] 0 oU) :=
 lf (G:=mO [0,0,0,0]) T.ah.fn λ_ _ _ _ _ _ hr nd=>(ze (nh nd<|yp (k:=0) (ud rfl) Ij rfl T.bw Ip<|za (iy<|vN (N:=["number","net"]) (om:=mO [0]) (cap:=[0]) (own:=1) (yj (n:=0) xv) (λ_ _ _ _ _ h=>(o7 h)) (λ_ _ _ _ _=>yf)<|λ_ _ _ _ _=>(XE.ow<|nu (e9 (nu xv T.a8) xv) T.bg)) zh)<|ze (nh nd<|yp (k:=0) (ud rfl) Ij rfl T.bw Ip<|za (iy<|vN (N:=["number","net"]) (om:=mO [0]) (cap:=[0]) (own:=1) (yj (n:=0) xv) (λ_ _ _ _ _ h=>(o7 h)) (λ_ _ _ _ _=>yf)<|λ_ _ _ _ _=>(XE.ow<|nu (e9 (nu xv T.a8) xv) T.a9)) zh)<|zl<|ye<|iJ T.ac (uv T) hr<|za xv<|za xv zh)
def fM:SF:=(Æ (É 7<|S dM (e1 em<|L 0)<|L 6)
  (Æ (É 8<|S uU (S d9 (S dM (L 3)<|e1 ms<|L 7)<|S e7 (e1 pk<|L 7)<|S dM (L 1) ds)<|S e7 (e1 eV<|L 7)<|S dM (L 1) db)
  (Ò (tb<|S Be (L 8)<|S dM (L 3)<|e1 gf<|L 7) (Æ (qM 3 (e1 gf<|L 7)<|L 8)
  (Æ (pQ 4 (e1 gf<|L 7)<|L 6)
  (É 5<|e1 gf<|L 7))) Ë)))
abbrev io:=eC .non
def iN:List D->Option D:=E3 3 ["net","pace","numbers","times","chosen","pushed","number","arrow","earliest"]
  (à (É 5 io)
  (à (Û (Ù<|L 2) (gV 6) fM)
  (è<|L 5)))
theorem WQ (T:Txt K mg a w):dO P w K mg base gk 1 a.aF a.aG ["net","pace","numbers","times","chosen"] (FB K a.ct 3 iN):=by refine Zy (n:=3) (G:=mO [0,0,0,0]) T.ai.fn xk rfl rfl λxa xb kM A outer s H E hr=>?_;exact(xg (nh xk.nd pY)<|xg (xF (vn xv) (rO xk.nd)<|ze (nh xk.nd<|e9 (nu xv T.a8) xv)<|ze (nh xk.nd<|yX (iy<|mE (FU xv<|nu xv T.be)<|kJ (nu xv T.bg)<|e9 xv dL)<|kJ (nu xv T.a9)<|e9 xv dL)<|zl<|Gg (Ff xv<|FU xv<|nu xv T.ba) (ze (Zw 3 rfl (nu xv T.ba) xv)<|ze (Zx 4 rfl (Eu hr) (nu xv T.ba) xv)<|zl<|nh xk.nd<|nu xv T.ba) v8)<|Et xv)
def kF:EF:=(fF (Ù<|L 3) 1 [1] r9 g0<|cl mz<|Ä (L 0)<|Ä (S dM (L 1) ds) Å)
def gw:SF:=(Æ (Ö 5<|tQ 3 4 (Ä (L 0)<|Ä (L 1)<|Ä (L 2) Å) iN)
  (Ò (tb<|S (pN Ã) (L 5)<|eC .non) (ā 3<|Ì<|λY=>((Ä (FF<|eC<|.str "times")<|Ä kF Å) Y).bind λO=>Z<|.tup O) Ë))
def fw:List D->Option D:=Ô ["net","pace","numbers","times","chosen","pushed","count"]
  (Æ (É 3<|S yY (λY=>((Ä (eC<|.int 0) Å) Y).bind λO=>Z<|.lst O)<|eN fC<|Ä (e1 (dX [4] "names")<|L 0) Å)
  (Æ (É 4<|eC<|.dK [] [])
  (Æ (É 5<|eC .non)
  (Æ (Û (λY=>((Ä (eN fC<|Ä (e1 (dX [4] "names")<|L 0) Å) Å) Y).bind pA) (gV 6) gw)
  (ā 4<|Ì<|λY=>((Ä (FF<|eC<|.str "ring")<|Ä (cl jN<|Ä (e1 (dX [4] "arrows")<|L 0)<|Ä (L 4)<|Ä (L 5) Å) Å) Y).bind λO=>Z<|.tup O)))))
theorem xx (T:Txt K mg a w):dO P w K mg base gk 3 a.aH a.aI ["net","pace","numbers"] (jR K a.ct [0,0,0] 2 fw) :=
 lf (G:=mO [0,0,0,1,1,0,0]) T.aj.fn λ_ _ _ _ _ _ hr nd=>(ze (mZ nd<|Sx (yt (k:=0)<|zj (XE.ow dL) zt)<|qD T.bp<|za (nu xv T.bb) zh)<|ze (mZ nd Mv)<|ze (nh nd pY)<|ze (xF (wv (n:=0) T.bs<|za (qD T.bp<|za (nu xv T.bb) zh) zh) (rO nd)<|ze (JP rfl nd rfl (Or.inl rfl)<|zsy (i:=3) (j:=4) (by decide) rfl rfl (WQ T) (hr.mono<|by decide) rfl T.ai.mgx T.ai.fn.kp T.ai.bd .nil (xq<|xq<|xq u5)<|MC xv<|MC xv<|MC xv<|zsx (i:=3) (j:=4))<|zl<|Gg (zH xv pY) (Nl (i:=3) rfl<|zl<|ye<|xw<|zj (S6<|zn (n:=0))<|zj (vN (N:=["time","pace"]) (om:=mO [0]) (cap:=[1]) (own:=1) (yj (n:=0) xv) (λ_ _ _ _ _ h=>(o7 h)) (λ_ _ _ _ _=>yf)<|λ_ _ _ _ _=>(iJ T.ac (uv T) hr<|za xv<|za (e9 xv dL) zh)) zt) v8)<|Nl (i:=4) rfl<|zl<|ye<|xw<|zj (S6<|zn (n:=0))<|zj (iJ T.v (qr T) hr<|za (nu xv T.a8)<|za xv<|za xv zh) zt)
def iR:List D->Option D:=Ô ["net","pace","numbers","found"]
  (Æ (É 3<|cl fw<|Ä (L 0)<|Ä (L 1)<|Ä (L 2) Å)
  (Ì<|ù (tb<|S on (S dM (L 3) db)<|eC<|.str "ring") (S dM (L 3) ds) io))
theorem j6 (T:Txt K mg a w):dO P w K mg base gk 4 a.aJ a.aK ["net","pace","numbers"] (jR K a.ct [0,0,0] 0 iR) :=
 lf (G:=mO [0,0,0,0]) T.ak.fn λ_ _ _ _ _ _ hr nd=>(ze (mZ nd<|ma<|iJ T.aj (xx T) hr<|za xv<|za xv<|za xv zh)<|zl<|kG<|Fv (rN hr (e9 xv dL)<|zn (n:=0)) (e9 xv dL) pY)
abbrev gy:=eC<|.int 2
def rJ:List D->Option D:=Ô ["one","other","total"]
  (Æ (É 2<|cl tY<|Ä (L 0)<|Ä (L 1) Å)
  (Ì<|cl mz<|Ä (S dM (L 2) db)<|Ä (S e7 (S dM (L 2) ds) gy) Å))
theorem YC (T:Txt K mg a w):dO P w K mg base gk 4 a.aL a.aM ["one","other"] (jR K a.ct [0,0] 0 rJ) :=
 lf (G:=mO [0,0,0]) T.al.fn λ_ _ _ _ _ _ hr nd=>(ze (mZ nd<|iJ T.ae (Rm T) hr<|za xv<|za xv zh)<|zl<|ye<|iJ T.ac (uv T) hr<|za (e9 xv dL)<|za (kJ (e9 xv dL) dL) zh)
def nH:List D->Option D:=Ô ["net","most"]
  (Æ (É 1<|S e7 (eN fC<|Ä (e1 (dX [4] "names")<|L 0) Å)<|λY=>((L 0) Y).bind λo=>sU 4 "most_behind" eS o [])
  (Ì<|cl mz<|Ä (eC<|.int 1)<|Ä (S e7 (L 1)<|L 1) Å))
theorem WR (T:Txt K mg a w):dO P w K mg base gk 3 a.aN a.aO ["net"] (jR K a.ct [0] 0 nH) :=
 lf (G:=mO [0,0]) T.am.fn λ_ _ _ _ _ _ hr nd=>(ze (nh nd<|kJ (qD T.bp<|za (nu xv T.bb) zh)<|iy<|YR (n:=0) (c0:=4) (nd:=[]) (zW:=[]) xv T.f.cl T.y.me (jz T) (hr.mono<|by decide) T.y.bd .nil<|λ_ _=>.nil)<|zl<|ye<|iJ T.ac (uv T) hr<|za dL<|za (kJ xv xv) zh)
abbrev wT:=pN Ã
def i6:SF:=(Æ (É 5<|cl rJ<|Ä (cl oU<|Ä (L 0)<|Ä (L 2) Å)<|Ä (L 3) Å)
  (Æ (É 6<|cl iR<|Ä (L 0)<|Ä (L 5)<|Ä (L 1) Å)
  (Ò (tb<|S wT (L 6) io) (É 3<|L 5)<|É 2<|L 6)))
def nK:EF:=(fF (Ù<|L 1) 1 [0] r9 g0<|e1 pk<|S dM (e1 em<|L 1)<|L 0)
def iW:List D->Option D:=Ô ["net","numbers","ring","ceiling","gap","middle","better"]
  (Æ (É 2<|cl iR<|Ä (L 0)<|Ä (λY=>((Ä (e1 vZ<|eC<|.int 1)<|Ä (eC<|.int 1) Å) Y).bind λO=>Z<|.tup O)<|Ä (L 1) Å)
  (Æ (Ò (tb<|S (pN Ã) (L 2)<|eC .non) (Ì<|eC .non) Ë)
  (Æ (É 3<|λY=>((Ä (eN wF<|Ä nK Å)<|Ä (eC<|.int 1) Å) Y).bind λO=>Z<|.tup O)
  (Æ (É 4<|cl nH<|Ä (L 0) Å)
  (Æ (kA (Ú<|tb<|cl pX<|Ä (cl pW<|Ä (L 3)<|Ä (cl oU<|Ä (L 0)<|Ä (L 2) Å) Å)<|Ä (L 4) Å) i6)
  (Ì<|L 2))))))
theorem VN (T:Txt K mg a w):dO P w K mg base gk 5 a.aP a.aQ ["net","numbers"] (jR K a.ct [0,0] 0 iW) :=
 lf (G:=mO [0,0,0,0,0,0,0]) T.an.fn λ_ _ _ _ _ _ hr nd=>(ze (mZ nd<|iJ T.ak (j6 T) hr<|za xv<|za (iy<|xw<|zj (XE.ow<|Fu (k:=0) dL)<|zj (XE.ow dL) zt)<|za xv zh)<|ze (lL (zH xv pY)<|kG pY)<|ze (mZ nd<|ma<|xw<|zj (XE.ow<|yp (k:=0) (ud rfl) Ij rfl T.bw Ip<|za (iy<|vN (N:=["number","net"]) (om:=mO [0]) (cap:=[0]) (own:=1) (yj (n:=0) xv) (λ_ _ _ _ _ h=>(o7 h)) (λ_ _ _ _ _=>yf)<|λ_ _ _ _ _=>(XE.ow<|nu (e9 (nu xv T.a8) xv) T.bg)) zh)<|zj (XE.ow dL) zt)<|ze (mZ nd<|iJ T.am (WR T) hr<|za xv zh)<|ze (F7 (wg<|xi<|xc T.ag (Y8 T) hr<|za (xc T.af (Y7 T) hr<|za xv<|za (xc T.ah (MY T) hr<|za xv<|za xv zh) zh)<|za xv zh)<|ze (mZ nd<|iJ T.al (YC T) hr<|za (xc T.ah (MY T) hr<|za xv<|za xv zh)<|za xv zh)<|ze (mZ nd<|iJ T.ak (j6 T) hr<|za xv<|za xv<|za xv zh)<|zl<|Gg (zH xv pY) (zl<|nh nd xv)<|zl<|nh nd xv)<|zl<|kG xv)
def iu:List D->Option D:=Ô ["net","numbers","ring","pace"]
  (Æ (É 2<|cl iW<|Ä (L 0)<|Ä (L 1) Å)
  (Æ (Ò (tb<|S (pN Ã) (L 2)<|eC .non) (Ì<|eC .non) Ë)
  (Æ (É 3<|cl oU<|Ä (L 0)<|Ä (L 2) Å)
  (Ì<|λY=>((Ä (L 3)<|Ä (L 2)<|Ä (S dM (cl fw<|Ä (L 0)<|Ä (L 3)<|Ä (L 1) Å)<|eC<|.int 1) Å) Y).bind λO=>Z<|.tup O))))
theorem u9 (T:Txt K mg a w):dO P w K mg base gk 6 a.aR a.aS ["net","numbers"] (jR K a.ct [0,0] 0 iu) :=
 lf (G:=mO [0,0,0,0]) T.ao.fn λ_ _ _ _ _ _ hr nd=>(ze (mZ nd<|iJ T.an (VN T) hr<|za xv<|za xv zh)<|ze (lL (zH xv pY)<|kG pY)<|ze (mZ nd<|iJ T.ah (MY T) hr<|za xv<|za xv zh)<|zl<|ye<|ma<|xw<|zj (XE.ow xv)<|zj (XE.ow xv)<|zj (XE.ow<|e9 (xc T.aj (xx T) hr<|za xv<|za xv<|za xv zh) dL) zt)
def iZ:List D->Option D:=Ô ["net"]
  (Ì<|cl iu<|Ä (L 0)<|Ä (eN tW<|Ä (eN fC<|Ä (e1 em<|L 0) Å) Å) Å)
theorem V8 (T:Txt K mg a w):dO P w K mg base gk 7 a.aT a.aU ["net"] (jR K a.ct [0] 0 iZ) :=
 lf (G:=mO [0]) T.ap.fn λ_ _ _ _ _ _ hr nd=>(zl<|ye<|iJ T.ao (u9 T) hr<|za xv<|za (iy<|Rw rfl rfl T.bq rfl T.bs<|za (qD T.bp<|za (nu xv T.a8) zh) zh) zh)
def t5:EF:=(fF (λY=>((Ä (S dM (L 3)<|eC<|.int 2) Å) Y).bind λO=>match O with|[.lst xs]=>Z (iM 0 xs)|_=>C) 2 [2] (gT<|Ç (gV 0)<|Ç (gV 1) Ð) g0<|ù (tb<|S (é Ã) (L 0)<|L 2) (L 1)<|eC .non)
def t6:EF:=(fF (λY=>((Ä (e1 (dX [4] "arrows")<|L 0) Å) Y).bind λO=>match O with|[.lst xs]=>Z (iM 0 xs)|_=>C) 2 [2] (gT<|Ç (gV 0)<|Ç (gV 1) Ð) (tb<|S (é Ã) (e1 (dX [0,1,2,3] "goal")<|L 1)<|L 2)<|L 0)
def rZ:List D->Option D:=Ô ["net","going","leading","paper","times"]
  (Æ (É 2<|cl mW<|Ä (L 0)<|Ä (L 1) Å)
  (Æ (É 3<|cl iu<|Ä (L 0)<|Ä t6 Å)
  (Æ (Ò (tb<|S (pN Ã) (L 3)<|eC .non) (Ì<|eC .non) Ë)
  (Æ (É 4 t5)
  (Ì<|λY=>((Ä (S dM (L 3)<|eC<|.int 0)<|Ä (S dM (L 3)<|eC<|.int 1)<|Ä (L 4) Å) Y).bind λO=>Z<|.tup O)))))
theorem Ϭ (T:Txt K mg a w):dO P w K mg base gk 7 a.aV a.aW ["net","going"] (jR K a.ct [0,0] 0 rZ) :=
 lf (G:=mO [0,0,0,0,0]) T.aq.fn λ_ _ _ _ _ _ hr nd=>(ze (mZ nd<|ma<|iJ T.aa (Xf T) hr<|za xv<|za xv zh)<|ze (mZ nd<|iJ T.ao (u9 T) hr<|za xv<|za (iy<|vN (N:=["number","arrow","leading"]) (om:=mO [0,0]) (cap:=[2]) (own:=2) (Mx (n:=0) T.bm<|za (nu xv T.a8) zh) (λ_ _ _ _ _ h=>(ql (n:=1) rfl<|yq (o7 h)<|yq (o7 h) ut)) (λ_ _ _ _ _=>(jc<|wm (k:=0) wt v9 (nu xv T.ba) xv<|by with_unfolding_all rfl))<|λ_ _ _ _ _=>(XE.ow xv)) zh)<|ze (lL (zH xv pY)<|kG pY)<|ze (Ca (k:=0) (N:=["place","time","leading"]) (om:=mO [0,0]) (cap:=[2]) (own:=2) nd (Mx (n:=0) T.bm<|za (e9 xv dL) zh) (λ_ _ _ _ _ h=>(ql (n:=1) rfl<|yq (o7 h)<|yq (o7 h) ut)) (λ_ _ _ _ _=>yf)<|λ_ _ _ _ _=>(XE.ow<|Fv (wm (k:=0) wt v9 xv xv<|by with_unfolding_all rfl) xv pY))<|zl<|ye<|ma<|xw<|zj (XE.ow<|e9 xv dL)<|zj (XE.ow<|e9 xv dL)<|zj (XE.ow xv) zt)
def gW:List D->Option D:=Ô ["fraction","top"]
  (Æ (É 1<|eN nX<|Ä (S dM (L 0) db) Å)
  (Æ (Ò (tb<|S on (S dM (L 0) ds) ds) (Ì<|L 1) Ë)
  (Ì<|S d9 (S d9 (L 1)<|eC<|.str "/")<|eN nX<|Ä (S dM (L 0) ds) Å)))
theorem wk (T:Txt K mg a w):dO P w K mg base gk 1 a.aX a.aY ["fraction"] (jR K a.ct [0] 0 gW) :=
 lf (G:=mO [0,0]) T.ar.fn λ_ _ _ _ _ _ hr nd=>(ze (nh nd<|z4 (k:=0) yg vf rfl T.bv v6<|za (e9 xv dL) zh)<|ze (lL (rN hr (e9 xv dL) dL)<|kG xv)<|zl<|ye<|ma<|mE (iy<|mE xv<|zn (n:=0))<|z4 (k:=0) yg vf rfl T.bv v6<|za (e9 xv dL) zh)
def ke:EF:=(fF (λY=>((L 0) Y).bind IL) 1 [] (gV 0) g0<|cl lO<|Ä (L 0) Å)
def jE:List D->Option D:=Ô ["word"]
  (Æ (Ò (ã (tb<|S tX (eN fC<|Ä (L 0) Å) ds)<|ã (tb<|S Be (eN fC<|Ä (L 0) Å)<|eC<|.int 15)<|Ú<|tb<|eN lB<|Ä ke Å) e2 Ë)
  (Ì<|eB<|ã (tb<|S on (L 0)<|eC<|.str "0")<|tb<|S wS (S dM (L 0) db)<|eC<|.str "0"))
theorem Pe (T:Txt K mg a w):dO P w K mg base gk 2 a.aZ a.a0 ["word"] (jR K a.ct [0] 0 jE) :=
 lf (G:=mO [0]) T.au.fn λ_ _ _ _ _ _ hr nd=>(ze (lL (XW.t<|wo (Bk (qD T.bp<|za xv zh) dL)<|wo (Ff (qD T.bp<|za xv zh)<|F8 T.bB)<|wu<|wg<|xi<|yp (k:=0) (vi rfl) qo rfl T.bk Gb<|za (iy<|vN (N:=["sign"]) (om:=mO [0]) (cap:=[]) (own:=1) (XI.cc<|Nk (n:=0) xv) (λ_ _ _ _ _ h=>(o7 h)) (λ_ _ _ _ _=>yf)<|λ_ _ _ _ _=>(iJ T.p (Pd T) hr<|za xv zh)) zh)<|kG<|wj (n:=0))<|zl<|kG<|NE (Ā hr xv<|zn (n:=0))<|vc (k:=0)<|OV hr (e9 xv dL)<|zn (n:=0))
def kl:EF:=(fF (Ù<|L 0) 1 [] r9 g0<|cl jE<|Ä (L 0) Å)
def ka:List D->Option D:=Ô ["words"]
  (Ì<|eN lB<|Ä kl Å)
theorem ja (T:Txt K mg a w):dO P w K mg base gk 3 a.a1 a.a2 ["words"] (jR K a.ct [0] 0 ka) :=
 lf (G:=mO [0]) T.av.fn λ_ _ _ _ _ _ hr nd=>(zl<|kG<|yp (k:=0) (vi rfl) qo rfl T.bk Gb<|za (iy<|vN (N:=["word"]) (om:=mO [0]) (cap:=[]) (own:=1) (yj (n:=0) xv) (λ_ _ _ _ _ h=>(o7 h)) (λ_ _ _ _ _=>yf)<|λ_ _ _ _ _=>(iJ T.au (Pe T) hr<|za xv zh)) zh)
def fG:List D->Option D:=Ô ["words"]
  (Æ (Ò (tb<|S (gb Ã) (S dM (L 0)<|eC<|.int 0)<|eC<|.str "ride") (Ì<|eB<|Ø (tb<|S (gb Ã) (eN fC<|Ä (L 0) Å)<|eC<|.int 4)<|tb<|cl jE<|Ä (S dM (L 0)<|eC<|.int 3) Å) Ë)
  (Æ (Ò (ã (tb<|S (gb Ã) (S dM (L 0)<|eC<|.int 0)<|eC<|.str "wait")<|tb<|S (gb Ã) (S dM (L 0)<|eC<|.int 0)<|eC<|.str "back") (Ì<|eB<|Ø (tb<|S (gb Ã) (eN fC<|Ä (L 0) Å)<|eC<|.int 5)<|tb<|cl ka<|Ä (λY=>((L 0) Y).bind λd=>((ß<|eC<|.int 3) Y).bind λl=>(ñ Y).bind λh=>gG d l h) Å) Ë)
  (Æ (Ò (tb<|S (gb Ã) (S dM (L 0)<|eC<|.int 0)<|eC<|.str "line") (Ì<|eB<|Ø (tb<|S GF (eN fC<|Ä (L 0) Å)<|eC<|.int 4)<|Ø (tb<|S (gb Ã) (S iY (eN fC<|Ä (L 0) Å)<|eC<|.int 2)<|eC<|.int 0)<|tb<|cl ka<|Ä (S d9 (λY=>((Ä (S dM (L 0)<|eC<|.int 1) Å) Y).bind λO=>Z<|.lst O)<|λY=>((Ù<|L 0) Y).bind λO=>Z<|.lst<|every2<|O.drop 3) Å) Ë)
  (Ì<|eC<|.bl Ã))))
theorem qw (T:Txt K mg a w):dO P w K mg base gk 4 a.a3 a.a4 ["words"] (jR K a.ct [0] 0 fG) :=
 lf (G:=mO [0]) T.aw.fn λ_ _ _ _ _ _ hr nd=>(ze (lL (rN hr (e9 xv dL)<|zn (n:=0))<|kG<|v7 (Ā hr (qD T.bp<|za xv zh) dL)<|vc (k:=0)<|xc T.au (Pe T) hr<|za (e9 xv dL) zh)<|ze (lL (XW.t<|wo (rN hr (e9 xv dL)<|zn (n:=0))<|wu<|rN hr (e9 xv dL)<|zn (n:=0))<|kG<|v7 (Ā hr (qD T.bp<|za xv zh) dL)<|vc (k:=0)<|xc T.av (ja T) hr<|za (iy<|xm (n:=0) (by decide) xv (xf dL) DB) zh)<|ze (lL (rN hr (e9 xv dL)<|zn (n:=0))<|kG<|v7 (OU (qD T.bp<|za xv zh) dL)<|v7 (Ā hr (Ý (qD T.bp<|za xv zh) dL) dL)<|vc (k:=0)<|xc T.av (ja T) hr<|za (iy<|mE (iy<|yt (k:=0)<|zj (XE.ow<|e9 xv dL) zt)<|iy<|JQ (n:=0) (i:=3) (by decide) xv dL dL) zh)<|zl<|kG<|wj (n:=0))
def jF:List D->Option D:=Ô ["words"]
  (Ì<|ù (tb<|S (gb Ã) (S dM (L 0)<|eC<|.int 0)<|eC<|.str "line") (λY=>((Ù<|L 0) Y).bind λO=>Z<|.lst<|every2<|O.drop 2)<|λY=>((L 0) Y).bind λd=>((ß<|eC<|.int 1) Y).bind λl=>((ß<|eC<|.int 3) Y).bind λh=>gG d l h)
theorem V0 (T:Txt K mg a w):dO P w K mg base gk 1 a.a5 a.a6 ["words"] (jR K a.ct [0] 0 jF) :=
 lf (G:=mO [0]) T.ax.fn λ_ _ _ _ _ _ hr nd=>(zl<|kG<|Fv (rN hr (e9 xv dL)<|zn (n:=0)) (iy<|JQ (n:=0) (i:=2) (by decide) xv dL dL)<|iy<|xm (n:=0) (by decide) xv (xf dL)<|xf dL)
def iP:SF:=(Ò (tb<|S (é Â) (L 2)<|L 1) Ü Ë)
def gE:List D->Option D:=Ô ["told","names","name"]
  (Û (Ù<|L 0) (gV 2) iP)
theorem qx (T:Txt K mg a w):dO P w K mg base gk 1 a.a7 a.a8 ["told","names"] (jR K a.ct [0,0] 0 gE) :=
 lf (G:=mO [0,0,0]) T.ay.fn λ_ _ _ _ _ _ hr nd=>(zl<|xF (vn xv) (rO nd)<|zl<|lL (wm (k:=0) w9 v9 xv xv<|by with_unfolding_all rfl) wp)
abbrev r8:=eC<|.int 3
def jD:List D->Option D:=Ô ["words","names","start","goal"]
  (Æ (É 2<|S rH (L 1)<|S dM (L 0) ds)
  (Æ (É 3<|S rH (L 1)<|S dM (L 0) gy)
  (Æ (Ò (tb<|S on (S dM (L 0) db)<|eC<|.str "ride") (Ì<|cl (lK 1)<|Ä (L 2)<|Ä (L 3)<|Ä (eN tS<|Ä (S dM (L 0) r8) Å) Å) Ë)
  (Æ (Ò (tb<|S on (S dM (L 0) db)<|eC<|.str "wait") (Ì<|cl (nQ 2)<|Ä (L 2)<|Ä (L 3)<|Ä (eN tS<|Ä (S dM (L 0) r8) Å)<|Ä (eN tS<|Ä (S dM (L 0)<|eC<|.int 4) Å) Å) Ë)
  (Ì<|cl (jZ 3)<|Ä (L 2)<|Ä (L 3)<|Ä (eN tS<|Ä (S dM (L 0) r8) Å)<|Ä (eN tS<|Ä (S dM (L 0)<|eC<|.int 4) Å) Å)))))
theorem V1 (T:Txt K mg a w):dO P w K mg base gk 4 a.a9 a.ba ["words","names"] (jR K a.ct [0,0] 0 jD) :=
 lf (G:=mO [0,0,0,0]) T.az.fn λ_ _ _ _ _ _ hr nd=>(ze (nh nd<|vt (k:=0) xv<|e9 xv dL)<|ze (nh nd<|vt (k:=0) xv<|e9 xv dL)<|ze (lL (rN hr (e9 xv dL)<|zn (n:=0))<|ye<|ma<|Fl T.c T.j (u7 T) hr<|za xv<|za xv<|za (z4 (k:=0) we ve rfl T.bn jk<|za (e9 xv dL) zh) zh)<|ze (lL (rN hr (e9 xv dL)<|zn (n:=0))<|ye<|ma<|Fl T.d T.k (V7 T) hr<|za xv<|za xv<|za (z4 (k:=0) we ve rfl T.bn jk<|za (e9 xv dL) zh)<|za (z4 (k:=0) we ve rfl T.bn jk<|za (e9 xv dL) zh) zh)<|zl<|ye<|ma<|Fl T.e T.m (u8 T) hr<|za xv<|za xv<|za (z4 (k:=0) we ve rfl T.bn jk<|za (e9 xv dL) zh)<|za (z4 (k:=0) we ve rfl T.bn jk<|za (e9 xv dL) zh) zh)
def kx:EF:=(fF (λY=>((Ä (L 2)<|Ä (λY=>((L 2) Y).bind λd=>((ß<|eC<|.int 1) Y).bind λl=>(ñ Y).bind λh=>gG d l h)<|Ä (L 3) Å) Y).bind Cb) 3 [] (gT<|Ç (gV 0)<|Ç (gV 1)<|Ç (gV 2) Ð) g0<|cl (lK 1)<|Ä (L 0)<|Ä (L 1)<|Ä (L 2) Å)
def ky:EF:=(fF (Ù<|λY=>((Ù<|L 0) Y).bind λO=>Z<|.lst<|every2<|O.drop 3) 1 [] (gV 0) g0<|eN tS<|Ä (L 0) Å)
def kz:EF:=(fF (Ù<|λY=>((Ù<|L 0) Y).bind λO=>Z<|.lst<|every2<|O.drop 2) 1 [1] (gV 0) g0<|S rH (L 1)<|L 0)
def jL:List D->Option D:=Ô ["words","names","goings","times","rides"]
  (Æ (É 2 kz)
  (Æ (É 3 ky)
  (Æ (É 4 kx)
  (Ì<|S d9 (L 4)<|λY=>((Ä (cl (jZ 3)<|Ä (S dM (L 2)<|e1 vZ<|eC<|.int 1)<|Ä (S dM (L 2)<|eC<|.int 0)<|Ä (S dM (L 3)<|e1 vZ<|eC<|.int 1)<|Ä (eN tS<|Ä (S dM (L 0)<|eC<|.int 1) Å) Å) Å) Y).bind λO=>Z<|.lst O))))
theorem qy (T:Txt K mg a w):dO P w K mg base gk 4 a.bb a.bc ["words","names"] (jR K a.ct [0,0] 1 jL) :=
 lf (G:=mO [0,0,0,0,0]) T.aA.fn λ_ _ _ _ _ _ hr nd=>(ze (Ca (k:=0) (N:=["name","names"]) (om:=mO [0]) (cap:=[1]) (own:=1) nd (yj (n:=0)<|iy<|JQ (n:=0) (i:=2) (by decide) xv dL dL) (λ_ _ _ _ _ h=>(o7 h)) (λ_ _ _ _ _=>yf)<|λ_ _ _ _ _=>(XE.ow<|vt (k:=0) xv xv))<|ze (Ca (k:=0) (N:=["word"]) (om:=mO [0]) (cap:=[]) (own:=1) nd (yj (n:=0)<|iy<|JQ (n:=0) (i:=3) (by decide) xv dL dL) (λ_ _ _ _ _ h=>(o7 h)) (λ_ _ _ _ _=>yf)<|λ_ _ _ _ _=>(XE.ow<|z4 (k:=0) we ve rfl T.bn jk<|za xv zh))<|ze (Ca (k:=0) (N:=["start","goal","time"]) (om:=mO [0,0,0]) (cap:=[]) (own:=3) nd (Zz (n:=0) T.bx<|za xv<|za (iy<|xm (n:=0) (by decide) xv (xf dL) DB)<|za xv zh) (λ_ _ _ _ _ h=>(ql (n:=1) rfl<|yq (o7 h)<|yq (o7 h)<|yq (o7 h) ut)) (λ_ _ _ _ _=>yf)<|λ_ _ _ _ _=>(ma<|Fl T.c T.j (u7 T) hr<|za xv<|za xv<|za xv zh))<|zl<|ye<|mE xv<|iy<|yt (k:=0)<|zj (ma<|Fl T.e T.m (u8 T) hr<|za (e9 xv<|Fu (k:=0) dL)<|za (e9 xv dL)<|za (e9 xv<|Fu (k:=0) dL)<|za (z4 (k:=0) we ve rfl T.bn jk<|za (e9 xv dL) zh) zh) zt)
def gU:List D->Option D:=Ô ["words","names"]
  (Æ (Ò (tb<|S (gb Ã) (S dM (L 0)<|eC<|.int 0)<|eC<|.str "line") (Ì<|cl jL<|Ä (L 0)<|Ä (L 1) Å) Ë)
  (Ì<|λY=>((Ä (cl jD<|Ä (L 0)<|Ä (L 1) Å) Å) Y).bind λO=>Z<|.lst O))
theorem VO (T:Txt K mg a w):dO P w K mg base gk 5 a.bd a.be ["words","names"] (jR K a.ct [0,0] 1 gU) :=
 lf (G:=mO [0,0]) T.aB.fn λ_ _ _ _ _ _ hr nd=>(ze (lL (rN hr (e9 xv dL)<|zn (n:=0))<|ye<|iJ T.aA (qy T) hr<|za xv<|za xv zh)<|zl<|ye<|yt (k:=0)<|zj (iJ T.az (V1 T) hr<|za xv<|za xv zh) zt)
def kU:List D->Option D:=Ô ["word","slot"]
  (Æ (Ò (tb<|S wT (L 1) io) wE Ë)
  Ü)
theorem Wq (T:Txt K mg a w):dO P w K mg base gk 1 a.bf a.bg ["word","slot"] (jR K a.ct [0,0] 0 kU) :=
 lf (G:=mO [0,0]) T.aC.fn λ_ _ _ _ _ _ hr nd=>(ze (lL (zH xv pY)<|kG<|wj (n:=0))<|zl wp)
def mC:EF:=(fF (λY=>((Ä (λY=>((L 0) Y).bind λd=>((ß<|eC<|.int 1) Y).bind λl=>(ñ Y).bind λh=>gG d l h)<|Ä (L 1) Å) Y).bind DD) 2 [] (gT<|Ç (gV 0)<|Ç (gV 1) Ð) g0<|cl kU<|Ä (L 0)<|Ä (L 1) Å)
def mU:List D->Option D:=Ô ["words","form"]
  (Æ (É 1<|e1 (EY yo)<|S dM (L 0) db)
  (Æ (Ò (tb<|S wS (eN fC<|Ä (L 0) Å)<|S d9 (eN fC<|Ä (L 1) Å) ds) e2 Ë)
  (Ì<|eN lB<|Ä mC Å)))
theorem Xg (T:Txt K mg a w):dO P w K mg base gk 2 a.bh a.bi ["words"] (jR K a.ct [0] 0 mU) :=
 lf (G:=mO [0,0]) T.aD.fn λ_ _ _ _ _ _ hr nd=>(ze (nh nd<|S8 (k:=0) T.a4<|e9 xv dL)<|ze (lL (Bl hr (qD T.bp<|za xv zh)<|iy<|mE (qD T.bp<|za xv zh) dL)<|kG<|wj (n:=0))<|zl<|kG<|yp (k:=0) (vi rfl) qo rfl T.bk Gb<|za (iy<|vN (N:=["word","slot"]) (om:=mO [0,0]) (cap:=[]) (own:=2) (SI T.bx<|za (iy<|xm (n:=0) (by decide) xv (xf dL) DB)<|za xv zh) (λ_ _ _ _ _ h=>(ql (n:=1) rfl<|yq (o7 h)<|yq (o7 h) ut)) (λ_ _ _ _ _=>yf)<|λ_ _ _ _ _=>(iJ T.aC (Wq T) hr<|za xv<|za xv zh)) zh)
abbrev f8:=dX [5,6] "net"
def kS:List D->Option D:=Ô ["desk","words"]
  (Æ (Ò (tb<|S on (S dM (L 1) db)<|eC<|.str "goings") wE Ë)
  (Æ (Ò (ã (tb<|S wT (e1 f8<|L 0) io)<|Ø (tb<|S (é Ã) (S dM (L 1) db)<|eC yy)<|tb<|S wT (e1 (dX [6] "table")<|L 0) io) e2 Ë)
  (Æ (Ò (tb<|S on (S dM (L 1) db)<|eC<|.str "plan") Ü Ë)
  (Æ (Ò (tb<|e1 (tV Â yo)<|S dM (L 1) db) (Ì<|cl fG<|Ä (L 1) Å) Ë)
  (Æ (Ò (Ú<|tb<|cl mU<|Ä (L 1) Å) e2 Ë)
  (Ì<|eB<|ã (tb<|S (é Â) (S dM (L 1) db)<|eC yr)<|tb Bx))))))
theorem YD (T:Txt K mg a w):dO P w K mg base gk 5 a.bj a.bk ["desk","words"] (jR K a.ct [1,0] 0 kS) :=
 lf (G:=[.al 1,.ow 0]) T.aE.fn λ_ _ _ _ _ _ hr nd=>(ze (lL (rN hr (e9 xv dL)<|zn (n:=0))<|kG<|wj (n:=0))<|ze (lL (XW.t<|wo (zH (CW xv T.bc) pY)<|wu<|XW.t<|Gc (wm (k:=0) wt v9 (e9 xv dL) (S7 (n:=0) T.a3)<|by with_unfolding_all rfl)<|qj<|zH (CW xv T.bf) pY)<|kG<|wj (n:=0))<|ze (lL (rN hr (e9 xv dL)<|zn (n:=0)) wp)<|ze (lL (XH T.a4<|e9 xv dL)<|ye<|iJ T.aw (qw T) hr<|za xv zh)<|ze (lL (wg<|xi<|xc T.aD (Xg T) hr<|za xv zh)<|kG<|wj (n:=0))<|zl<|kG<|NE (Ep (k:=0) w9 v9 (e9 xv dL) (S7 (n:=0) T.a2)<|by with_unfolding_all rfl)<|vc (k:=0)<|ZC (n:=0))
def mX:EF:=(fF (λY=>((Ä (λY=>((L 0) Y).bind λd=>((ß<|eC<|.int 1) Y).bind λl=>(ñ Y).bind λh=>gG d l h)<|Ä (e1 (EY yo)<|S dM (L 0)<|eC<|.int 0) Å) Y).bind DD) 2 [] (gT<|Ç (gV 0)<|Ç (gV 1) Ð) (tb<|S (pN Ã) (L 1)<|eC .non)<|L 0)
def hZ:List D->Option D:=Ô ["words"]
  (Æ (Ò (tb<|e1 (tV Ã yo)<|S dM (L 0)<|eC<|.int 0) (Ì mX) Ë)
  (Ì<|ù (tb<|S (gb Ã) (S dM (L 0)<|eC<|.int 0)<|eC<|.str "plan") (λY=>(Å Y).bind λO=>Z<|.lst O)<|cl jF<|Ä (L 0) Å))
theorem Wz (T:Txt K mg a w):dO P w K mg base gk 2 a.bl a.bm ["words"] (jR K a.ct [0] 0 hZ) :=
 lf (G:=mO [0]) T.aF.fn λ_ _ _ _ _ _ hr nd=>(ze (lL (zs1 T.a4<|e9 xv dL)<|ye<|ma<|vN (N:=["word","slot"]) (om:=mO [0,0]) (cap:=[]) (own:=2) (SI T.bx<|za (iy<|xm (n:=0) (by decide) xv (xf dL) DB)<|za (S8 (k:=0) T.a4<|e9 xv dL) zh) (λ_ _ _ _ _ h=>(ql (n:=1) rfl<|yq (o7 h)<|yq (o7 h) ut)) (λ_ _ _ _ _=>(jc<|zH xv pY))<|λ_ _ _ _ _=>(XE.ow xv))<|zl<|kG<|Fv (rN hr (e9 xv dL)<|zn (n:=0)) (iy<|yt (k:=0) zt)<|xc T.ax (V0 T) hr<|za xv zh)
def oB:EF:=(fF (Ù<|L 0) 1 [] r9 g0<|eN nX<|Ä (L 0) Å)
def kT:List D->Option D:=Ô ["numbers"]
  (Ì oB)
theorem VP (T:Txt K mg a w):dO P w K mg base gk 1 a.bn a.bo ["numbers"] (jR K a.ct [0] 0 kT) :=
 lf (G:=mO [0]) T.aG.fn λ_ _ _ _ _ _ hr nd=>(zl<|ye<|ma<|vN (N:=["number"]) (om:=mO [0]) (cap:=[]) (own:=1) (yj (n:=0) xv) (λ_ _ _ _ _ h=>(o7 h)) (λ_ _ _ _ _=>yf)<|λ_ _ _ _ _=>(XE.ow<|z4 (k:=0) yg vf rfl T.bv v6<|za xv zh))
abbrev wP:=dX [4] "names"
def kR:List D->Option D:=Ô ["desk","name"]
  (Ì<|S rH (e1 wP<|e1 f8<|L 0)<|L 1)
theorem VQ (T:Txt K mg a w):dO P w K mg base gk 1 a.bp a.bq ["desk","name"] (jR K a.ct [1,0] 0 kR) :=
 lf (G:=[.al 1,.ow 0]) T.aH.fn λ_ _ _ _ _ _ hr nd=>(zl<|kG<|vt (k:=0) (nu (CW xv T.bc) T.bb) xv)
def kd:List D->Option D:=í 0 ["desk","words"]
  (à (lS 0 [5,6] "net" (cl (fZ 4)<|Ä (λY=>((L 1) Y).bind λd=>((ß<|eC<|.int 1) Y).bind λl=>(ñ Y).bind λh=>gG d l h)<|Ä (λY=>(Å Y).bind λO=>Z<|.lst O) Å))
  (à (lS 0 [6] "table" (eC .non))
  (à (lS 0 [6] "puts" (λY=>(Å Y).bind λO=>Z<|.lst O))
  (è<|eC<|.str "ok"))))
theorem V9 (T:Txt K mg a w):dO P w K mg base gk 6 a.br a.bs ["desk","words"] (vD K a.ct 0 1 kd):=by refine ue (n:=0) (m:=1) (G:=[]) T.aI.fn V4 rfl rfl λxa kM A outer s H E hr=>?_;exact(xg (Il (i:=0) (uR rfl) T.bc<|iy<|Fl T.f T.x (jy T) hr<|za (iy<|xm (n:=0) (by decide) xv (xf dL) DB)<|za (iy<|yt (k:=0) zt) zh)<|xg (Il (i:=0) (uR rfl) T.bf pY)<|xg (Il (i:=0) (uR rfl) T.bd<|iy<|yt (k:=0) zt)<|Et<|zn (n:=0))
def iw:List D->Option D:=í 0 ["desk","arrows"]
  (à (lS 0 [5,6] "net" (cl (fZ 4)<|Ä (e1 wP<|e1 f8<|L 0)<|Ä (L 1) Å))
  (à (lS 0 [6] "table" io)
  (è<|eC<|.str "ok")))
theorem Wa (T:Txt K mg a w):dO P w K mg base gk 6 a.bt a.bu ["desk","arrows"] (vD K a.ct 0 1 iw):=by refine ue (n:=0) (m:=1) (G:=[]) T.aJ.fn V5 rfl rfl λxa kM A outer s H E hr=>?_;exact(xg (Il (i:=0) (uR rfl) T.bc<|iy<|Fl T.f T.x (jy T) hr<|za (nu (CW xv T.bc) T.bb)<|za xv zh)<|xg (Il (i:=0) (uR rfl) T.bf pY)<|Et<|zn (n:=0))
def f6:List D->Option D:=í 0 ["desk","words"]
  (qG 0 (Ä (S d9 (e1 em<|e1 f8<|L 0)<|cl gU<|Ä (L 1)<|Ä (e1 wP<|e1 f8<|L 0) Å) Å) iw)
theorem x9 (T:Txt K mg a w):dO P w K mg base gk 7 a.bv a.bw ["desk","words"] (vD K a.ct 0 1 f6):=by refine ue (n:=0) (m:=1) (G:=[]) T.aK.fn V6 rfl rfl λxa kM A outer s H E hr=>?_;exact(zs5<|MF (i:=0) (uR rfl) T.aJ (Wa T) hr (xq u5)<|xr (iy<|mE (nu (CW xv T.bc) T.a8)<|xc T.aB (VO T) hr<|za xv<|za (nu (CW xv T.bc) T.bb) zh) vv)
def nS:EF:=(fF (Ù<|S dM (L 2) gy) 1 [] r9 g0<|cl gW<|Ä (L 0) Å)
def ij:List D->Option D:=Ô ["desk","words","paper","times"]
  (Æ (É 2<|cl iZ<|Ä (e1 (dX [5,6] "net")<|L 0) Å)
  (Æ (Ò (tb<|S (pN Ã) (L 2)<|eC .non) (Ì<|eC<|.str "none") Ë)
  (Æ (É 3 nS)
  (Ì<|S qI (eC<|.str " ")<|S d9 (S d9 (S d9 (λY=>((Ä (cl gW<|Ä (S dM (L 2)<|eC<|.int 0) Å)<|Ä (eC<|.str "ring") Å) Y).bind λO=>Z<|.lst O)<|cl kT<|Ä (S dM (L 2)<|eC<|.int 1) Å)<|λY=>((Ä (eC<|.str "times") Å) Y).bind λO=>Z<|.lst O)<|L 3))))
theorem WB (T:Txt K mg a w):dO P w K mg base gk 8 a.bx a.bz ["desk","words"] (jR K a.ct [1,0] 0 ij) :=
 lf (G:=[.al 1,.ow 0,.ow 0,.ow 0]) T.aL.fn λ_ _ _ _ _ _ hr nd=>(ze (mZ nd<|iJ T.ap (V8 T) hr<|za (CW xv T.bc) zh)<|ze (lL (zH xv pY)<|kG<|zn (n:=0))<|ze (Ca (k:=0) (N:=["time"]) (om:=mO [0]) (cap:=[]) (own:=1) nd (yj (n:=0)<|e9 xv dL) (λ_ _ _ _ _ h=>(o7 h)) (λ_ _ _ _ _=>yf)<|λ_ _ _ _ _=>(iJ T.ar (wk T) hr<|za xv zh))<|zl<|kG<|ML (k:=0) (zn (n:=0))<|iy<|mE (iy<|mE (iy<|mE (iy<|yt (k:=0)<|zj (iJ T.ar (wk T) hr<|za (e9 xv dL) zh)<|zj (XE.ow<|zn (n:=0)) zt)<|xc T.aG (VP T) hr<|za (e9 xv dL) zh)<|iy<|yt (k:=0)<|zj (XE.ow<|zn (n:=0)) zt) xv)
def lN:List D->Option D:=BN ij
theorem WS (T:Txt K mg a w):dO P w K mg base gk 8 a.bx a.bz ["desk","words"] (vD K a.ct 0 1 lN):=QJ<|WB T
def lR:List D->Option D:=Ô ["desk","words","paper"]
  (Æ (É 2<|cl rZ<|Ä (e1 f8<|L 0)<|Ä (cl kR<|Ä (L 0)<|Ä (S dM (L 1) ds) Å) Å)
  (Ì<|ù (tb<|S wT (L 2) io) (eC<|.str "none")<|cl gW<|Ä (S dM (L 2) db) Å))
theorem WT (T:Txt K mg a w):dO P w K mg base gk 8 a.bA a.bB ["desk","words"] (jR K a.ct [1,0] 0 lR) :=
 lf (G:=[.al 1,.ow 0,.ow 0]) T.aM.fn λ_ _ _ _ _ _ hr nd=>(ze (mZ nd<|iJ T.aq (Ϭ T) hr<|za (CW xv T.bc)<|za (xc T.aH (VQ T) hr<|za xv<|za (e9 xv dL) zh) zh)<|zl<|kG<|Fv (zH xv pY) (zn (n:=0))<|xc T.ar (wk T) hr<|za (e9 xv dL) zh)
def qV:List D->Option D:=BN lR
theorem Xh (T:Txt K mg a w):dO P w K mg base gk 8 a.bA a.bB ["desk","words"] (vD K a.ct 0 1 qV):=QJ<|WT T
def lJ:Nat->List D->Option D:=C7 ["self"]
  (Æ (oC [5,6] "net" (eC .non))
  (Æ (oC [6] "table" (eC .non))
  (Æ (oC [6] "puts" (λY=>(Å Y).bind λO=>Z<|.lst O))
  (oC [6] "answered" (eC<|.int 0)))))
theorem Wb (T:Txt K mg a w):dO P w K mg base gk 1 a.bC a.bD ["self"] (yL K a.ct [6] [] lJ) :=
 FV (G:=[]) (rk:=0) T.aN.fn λ_ _ _ _ _ _ _ hr nd=>(ze (u4 T.bc pY)<|ze (u4 T.bf pY)<|ze (u4 T.bd<|iy<|yt (k:=0) zt)<|zl<|u4 T.a7 dL)
def iS:List (Str×(List D->Option D)):=[("goings",kd),("ride",f6),("wait",f6),("back",f6),("line",f6),("least",lN),("rate",qV)]
def dY:List D->Option D:=í 0 ["self","row","words","answer"]
  (à (Ò (Ú<|tb<|e1 (tT "str")<|L 1) Ü Ë)
  (à (É 2<|S se (L 1)<|eC<|.str " ")
  (à (Ò (Ú<|tb<|cl kS<|Ä (L 0)<|Ä (L 2) Å) Ü Ë)
  (à (Ò (tb<|S wS (S dM (L 2) db)<|eC<|.str "goings") (ê<|cl gE<|Ä (cl hZ<|Ä (L 2) Å)<|Ä (e1 wP<|e1 f8<|L 0) Å) Ë)
  (à (Ö 3<|rY 0 (S dM (L 2) db) (Ä (L 2) Å) iS)
  (à (Ak 0 [6] "answered" ds)
  (è<|L 3)))))))
theorem wy (T:Txt K mg a w):dO P w K mg base gk 9 a.bE a.bF ["self","row"] (vD K a.ct 0 1 dY):=by refine ue (n:=0) (m:=1) (G:=mO [0,0]) T.aO.fn jh rfl rfl λxa kM A outer s H E hr=>?_;exact(xg (lL (wg<|xi<|Iy (k:=0) (by decide) T.bo T.bv v6 xv) wp)<|xg (mZ jh.nd<|ma<|QH xv<|zn (n:=0))<|xg (lL (wg<|xi<|xc T.aE (YD T) hr<|za xv<|za xv zh) wp)<|xg (lL (Bl hr (e9 xv dL)<|zn (n:=0))<|Z9<|xc T.ay (qx T) hr<|za (xc T.aF (Wz T) hr<|za xv zh)<|za (nu (CW xv T.bc) T.bb) zh)<|xg (JP rfl jh.nd rfl (Or.inl rfl)<|T.a5.elim λ_ h=>h.elim λ_ h=>zs4 (i:=0) (tb:=iS) (uR rfl) h.1 (jf h.2.1 T.aI (V9 T) hr<|jf h.2.2.1 T.aK (x9 T) hr<|jf h.2.2.2.1 T.aK (x9 T) hr<|jf h.2.2.2.2.1 T.aK (x9 T) hr<|jf h.2.2.2.2.2.1 T.aK (x9 T) hr<|jf h.2.2.2.2.2.2.1 T.aL (WS T) hr<|jf h.2.2.2.2.2.2.2.1 T.aM (Xh T) hr ť) (e9 xv dL) (xq u5)<|xr xv vv)<|xg (zs3 (i:=0) (uR rfl) T.a7 dL)<|Et xv)
def fN:List D->Option D:=Ô ["_law_script","_law_k"]
  (Æ (Ò (tb<|S tX (L 1)<|eN fC<|Ä (L 0) Å) (Ì<|S dM (L 0)<|L 1) Ë)
  (Ì db))
theorem xj (T:Txt K mg a w):dO P w K mg base gk 1 a.bG a.bH ["_law_script","_law_k"] (jR K a.ct [0,0] 0 fN) :=
 lf (G:=mO [0,0]) T.aP.fn λ_ _ _ _ _ _ hr nd=>(ze (lL (Bk xv<|qD T.bp<|za xv zh)<|kG<|e9 xv xv)<|zl<|kG dL)
def my:List D->Option D:=Ô ["_law_cell"]
  (Ì<|eB<|Ø (tb<|S GF (L 0)<|S Dp ds<|eC<|.int 90)<|tb<|S on (S iY (L 0) gy) ds)
theorem WC (T:Txt K mg a w):dO P w K mg base gk 1 a.bI a.bJ ["_law_cell"] (jR K a.ct [0] 0 my) :=
 lf (G:=mO [0]) T.aQ.fn λ_ _ _ _ _ _ hr nd=>(zl<|kG<|v7 (OU xv<|Ew (k:=0) Θ zr9 dL dL)<|vc (k:=0)<|Ā hr (Ý xv dL) dL)
def nF:List D->Option D:=Ô ["_law_cell","_law_k","_law_number_here"]
  (Æ (Ò (Ø (tb<|cl my<|Ä (L 0) Å)<|tb<|S Be (S AL (L 0)<|S d9 ds<|S e7 (eC<|.int 31)<|L 1) db) (Ì<|S iY (S AL (L 0)<|S d9 ds<|S e7 (eC<|.int 31)<|L 1)<|eC<|.int 2147483648) Ë)
  (Æ (É 2<|S iY (S e7 (S d9 (S d9 (L 0)<|S e7 (eC<|.int 7919)<|L 1) ds)<|eC<|.int 48271)<|eC<|.int 2147483647)
  (Æ (É 2<|S iY (S e7 (L 2)<|S d9 (S jC (L 2)<|eC<|.int 1009)<|eC<|.int 69621)<|eC<|.int 2147483647)
  (Ì<|S iY (S e7 (L 2)<|S d9 (S d9 (S jC (L 2)<|eC<|.int 2003)<|eC<|.int 39373)<|L 1)<|eC<|.int 2147483629))))
theorem WU (T:Txt K mg a w):dO P w K mg base gk 2 a.bK a.bL ["_law_cell","_law_k"] (jR K a.ct [0,0] 0 nF) :=
 lf (G:=mO [0,0,0]) T.aR.fn λ_ _ _ _ _ _ hr nd=>(ze (lL (XW.t<|Gc (xi<|xc T.aQ (WC T) hr<|za xv zh)<|qj<|Ff (Ew (k:=0) Sf Re xv<|iy<|mE dL<|kJ dL xv) dL)<|kG<|Ý (Ew (k:=0) Sf Re xv<|iy<|mE dL<|kJ dL xv) dL)<|ze (nh nd<|Ý (kJ (iy<|mE (iy<|mE xv<|kJ dL xv) dL) dL) dL)<|ze (nh nd<|Ý (kJ xv<|iy<|mE (æ xv dL) dL) dL)<|zl<|kG<|Ý (kJ xv<|iy<|mE (iy<|mE (æ xv dL) dL) xv) dL)
def nU:EF:=(fF (λY=>((Ä (L 1) Å) Y).bind pA) 1 [2,0] (gV 0) g0<|S d9 (λY=>((S dM (L 1)<|S iY (S d9 (L 2)<|S e7 (L 0)<|S d9 (eC<|.int 1)<|S iY (S jC (L 2)<|eC<|.int 9)<|eC<|.int 5)<|eC<|.int 9) Y).bind λd=>(ñ Y).bind λl=>((ß<|eC<|.int 6) Y).bind λh=>t8 d l h)<|eN nX<|Ä (L 0) Å)
def nG:List D->Option D:=Ô ["_law_cell","_law_many","_law_some"]
  (Æ (É 2<|λY=>((Ä (eC<|.str "a")<|Ä (eC<|.str "x")<|Ä (eC<|.str "wait")<|Ä (eC<|.str "ride")<|Ä (eC<|.str "goings")<|Ä (eC<|.str "line")<|Ä (eC<|.str "zz")<|Ä (eC<|.str "b")<|Ä (eC<|.str "least") Å) Y).bind λO=>Z<|.lst O)
  (Ì nU))
theorem WV (T:Txt K mg a w):dO P w K mg base gk 1 a.bM a.bN ["_law_cell","_law_many"] (jR K a.ct [0,0] 0 nG) :=
 lf (G:=mO [0,0,0]) T.aS.fn λ_ _ _ _ _ _ hr nd=>(ze (mZ nd<|ma<|yt (k:=0)<|zj (XE.ow<|zn (n:=0))<|zj (XE.ow<|zn (n:=0))<|zj (XE.ow<|zn (n:=0))<|zj (XE.ow<|zn (n:=0))<|zj (XE.ow<|zn (n:=0))<|zj (XE.ow<|zn (n:=0))<|zj (XE.ow<|zn (n:=0))<|zj (XE.ow<|zn (n:=0))<|zj (XE.ow<|zn (n:=0)) zt)<|zl<|ye<|ma<|vN (N:=["_law_k","_law_some","_law_cell"]) (om:=mO [0]) (cap:=[2,0]) (own:=1) (XI.cc<|wv (n:=0) T.bs<|za xv zh) (λ_ _ _ _ _ h=>(o7 h)) (λ_ _ _ _ _=>yf)<|λ_ _ _ _ _=>(ma<|mE (Qj (k:=0) (e9 xv<|Ý (iy<|mE xv<|kJ xv<|iy<|mE dL<|Ý (æ xv dL) dL) dL) DB<|xf dL)<|z4 (k:=0) yg vf rfl T.bv v6<|za xv zh))
def pJ:SF:=(Æ (É 13<|S qI (eC<|.str " ")<|λY=>((Ä (eC<|.str "back")<|Ä (S dM (L 1)<|L 6)<|Ä (S dM (L 1)<|L 5)<|Ä (eN nX<|Ä (L 7) Å)<|Ä (eN nX<|Ä (L 8) Å) Å) Y).bind λO=>Z<|.lst O)
  (Ì<|λY=>((Ä (L 13)<|Ä (λY=>((Ä (λY=>((Ä (L 6)<|Ä (L 5)<|Ä (L 7)<|Ä (L 8) Å) Y).bind λO=>Z<|.tup O) Å) Y).bind λO=>Z<|.lst O) Å) Y).bind λO=>Z<|.tup O))
def hJ:SF:=(Æ (É 13<|S d9 (S d9 (S d9 (S d9 (S dM (L 1)<|L 5)<|eC<|.str " ")<|S dM (L 1)<|L 6)<|eC<|.str " ")<|eN nX<|Ä (L 7) Å)
  (Æ (Ò (Ø (tb<|S (gb Ã) (L 9)<|eC<|.int 1)<|tb<|S (gb Â) (L 5)<|L 6) (Ì<|λY=>((Ä (S d9 (eC<|.str "ride ")<|L 13)<|Ä (λY=>((Ä (λY=>((Ä (L 5)<|Ä (L 6)<|Ä (L 7)<|Ä (eC<|.int 0) Å) Y).bind λO=>Z<|.tup O) Å) Y).bind λO=>Z<|.lst O) Å) Y).bind λO=>Z<|.tup O) Ë)
  (Æ (Ò (Ø (tb<|S tX (L 9)<|eC<|.int 4)<|tb<|S (gb Â) (L 5)<|L 6) (Ì<|λY=>((Ä (S d9 (S d9 (S d9 (eC<|.str "wait ")<|L 13)<|eC<|.str " ")<|eN nX<|Ä (L 8) Å)<|Ä (λY=>((Ä (λY=>((Ä (L 5)<|Ä (L 6)<|Ä (L 7)<|Ä (L 8) Å) Y).bind λO=>Z<|.tup O) Å) Y).bind λO=>Z<|.lst O) Å) Y).bind λO=>Z<|.tup O) Ë)
  (Æ (É 8<|eN Af<|Ä (eC<|.int 1)<|Ä (L 8) Å)
  pJ))))
def kE:EF:=(fF (λY=>((Ä (S uU (eN fC<|Ä (L 11) Å)<|eC<|.int 1) Å) Y).bind pA) 1 [11,7] (gV 0) g0<|λY=>((Ä (S dM (L 1)<|L 0)<|Ä (S dM (L 1)<|S d9 (L 0)<|eC<|.int 1)<|Ä (L 2)<|Ä (eC<|.int 0) Å) Y).bind λO=>Z<|.tup O)
def kB:SF:=(É 13<|S d9 (S d9 (S d9 (S d9 (L 13)<|eC<|.str " ")<|S dM (L 1)<|L 14)<|eC<|.str " ")<|eN nX<|Ä (L 7) Å)
def i9:SF:=(Æ (É 13<|S d9 (eC<|.str "line ")<|eN nX<|Ä (L 12) Å)
  (Æ (Û (Ù<|L 11) (gV 14) kB)
  (Æ (É 15 kE)
  (Ì<|λY=>((Ä (L 13)<|Ä (S d9 (L 15)<|λY=>((Ä (λY=>((Ä (S dM (L 11)<|e1 vZ<|eC<|.int 1)<|Ä (S dM (L 11)<|eC<|.int 0)<|Ä (L 7)<|Ä (L 12) Å) Y).bind λO=>Z<|.tup O) Å) Y).bind λO=>Z<|.lst O) Å) Y).bind λO=>Z<|.tup O))))
def kC:SF:=(Æ (É 9<|S iY (S jC (L 4)<|eC<|.int 10000)<|eC<|.int 5)
  (Æ (Ò (tb<|S (gb Ã) (L 9)<|eC<|.int 0) (Æ (É 10<|S iY (S jC (L 4)<|eC<|.int 50000)<|S uU (L 3)<|eC<|.int 1)
  (Æ (É 11<|λY=>((L 2) Y).bind λd=>((ß<|L 10) Y).bind λl=>((ß<|S d9 (S d9 (L 10)<|eC<|.int 2)<|S iY (S jC (L 4)<|eC<|.int 500000)<|eC<|.int 2) Y).bind λh=>gG d l h)
  (Æ (É 12<|S d9 (eC<|.int 1)<|S iY (S jC (L 4)<|eC<|.int 1000000)<|eC<|.int 4)
  i9))) Ë)
  (Æ (Ò (tb<|S Be (S rH (L 2)<|L 5)<|S rH (L 2)<|L 6) (ö 5 6<|Ä (L 6)<|Ä (L 5) Å) Ë)
  hJ)))
def kD:List D->Option D:=Ô ["_law_cell","_law_names_here","_law_order","_law_many","_law_number_here","_law_one","_law_other","_law_time","_law_behind","_law_way","_law_step","_law_stops","_law_cars","_law_row_here","_law_going","_law_found"]
  (Æ (É 3<|eN fC<|Ä (L 1) Å)
  (Æ (É 4<|cl nF<|Ä (L 0)<|Ä ds Å)
  (Æ (É 5<|S iY (L 4)<|L 3)
  (Æ (É 6<|S iY (S jC (L 4)<|eC<|.int 8)<|L 3)
  (Æ (É 7<|S iY (S jC (L 4)<|eC<|.int 1000)<|eC<|.int 10)
  (Æ (Ò (tb<|S on (S iY (L 0) r8) gy) (É 7<|S iY (S jC (L 0) r8)<|S d9 (S BZ (eC<|.int 10)<|eC<|.int 9) ds) Ë)
  (Æ (É 8<|S iY (S jC (L 4)<|eC<|.int 64)<|eC<|.int 5)
  kC)))))))
theorem PJ (T:Txt K mg a w):dO P w K mg base gk 3 a.bO a.bP ["_law_cell","_law_names_here","_law_order"] (jR K a.ct [0,0,0] 0 kD) :=
 lf (G:=mO [0,0,0,0,0,0,0,0,0,0,0,0,0,0,0,0]) T.aT.fn λ_ _ _ _ _ _ hr nd=>(ze (nh nd<|qD T.bp<|za xv zh)<|ze (mZ nd<|iJ T.aR (WU T) hr<|za xv<|za dL zh)<|ze (nh nd<|Ý xv xv)<|ze (nh nd<|Ý (æ xv dL) xv)<|ze (nh nd<|Ý (æ xv dL) dL)<|ze (lL (rN hr (Ý xv dL) dL)<|nh nd<|Ý (æ xv dL)<|iy<|mE (Ew (k:=0) Ι zr8 dL dL) dL)<|ze (nh nd<|Ý (æ xv dL) dL)<|ze (nh nd<|Ý (æ xv dL) dL)<|ze (Gg (rN hr xv dL) (ze (nh nd<|Ý (æ xv dL)<|yX xv dL)<|ze (mZ nd<|ma<|xm (n:=0) (by decide) xv (xf xv)<|xf<|iy<|mE (iy<|mE xv dL)<|Ý (æ xv dL) dL)<|ze (mZ nd<|ma<|mE dL<|Ý (æ xv dL) dL)<|ze (mZ nd<|ma<|mE (zn (n:=0))<|z4 (k:=0) yg vf rfl T.bv v6<|za xv zh)<|ze (xF (vn xv) (rO nd)<|zl<|mZ nd<|ma<|mE (iy<|mE (iy<|mE (iy<|mE xv<|zn (n:=0))<|e9 xv xv)<|zn (n:=0))<|z4 (k:=0) yg vf rfl T.bv v6<|za xv zh)<|ze (Ca (k:=0) (N:=["_law_k","_law_stops","_law_time"]) (om:=mO [0]) (cap:=[11,7]) (own:=1) nd (XI.cc<|wv (n:=0) T.bs<|za (yX (qD T.bp<|za xv zh) dL) zh) (λ_ _ _ _ _ h=>(o7 h)) (λ_ _ _ _ _=>yf)<|λ_ _ _ _ _=>(ma<|xw<|zj (XE.ow<|e9 xv xv)<|zj (XE.ow<|e9 xv<|iy<|mE xv dL)<|zj (XE.ow xv)<|zj (XE.ow dL) zt))<|zl<|ye<|ma<|xw<|zj (XE.ow xv)<|zj (ma<|mE xv<|iy<|yt (k:=0)<|zj (ma<|xw<|zj (XE.ow<|e9 xv<|Fu (k:=0) dL)<|zj (XE.ow<|e9 xv dL)<|zj (XE.ow xv)<|zj (XE.ow xv) zt) zt) zt) v8)<|ze (lL (Ff (vt (k:=0) xv xv)<|vt (k:=0) xv xv)<|SA rfl rfl rfl nd rfl rfl (by decide) rfl rfl (za xv<|za xv zh) rfl)<|ze (mZ nd<|ma<|mE (iy<|mE (iy<|mE (iy<|mE (e9 xv xv)<|zn (n:=0))<|e9 xv xv)<|zn (n:=0))<|z4 (k:=0) yg vf rfl T.bv v6<|za xv zh)<|ze (lL (XW.t<|Gc (rN hr xv dL)<|qj<|Bl hr xv xv)<|ye<|ma<|xw<|zj (ma<|mE (zn (n:=0)) xv)<|zj (ma<|yt (k:=0)<|zj (ma<|xw<|zj (XE.ow xv)<|zj (XE.ow xv)<|zj (XE.ow xv)<|zj (XE.ow dL) zt) zt) zt)<|ze (lL (XW.t<|Gc (Bk xv dL)<|qj<|Bl hr xv xv)<|ye<|ma<|xw<|zj (ma<|mE (iy<|mE (iy<|mE (zn (n:=0)) xv)<|zn (n:=0))<|z4 (k:=0) yg vf rfl T.bv v6<|za xv zh)<|zj (ma<|yt (k:=0)<|zj (ma<|xw<|zj (XE.ow xv)<|zj (XE.ow xv)<|zj (XE.ow xv)<|zj (XE.ow xv) zt) zt) zt)<|ze (nh nd<|yp (k:=0) (Xw rfl) Zi rfl T.br Sm<|za dL<|za xv zh)<|ze (nh nd<|ML (k:=0) (zn (n:=0))<|iy<|yt (k:=0)<|zj (XE.ow<|zn (n:=0))<|zj (XE.ow<|e9 xv xv)<|zj (XE.ow<|e9 xv xv)<|zj (XE.ow<|z4 (k:=0) yg vf rfl T.bv v6<|za xv zh)<|zj (XE.ow<|z4 (k:=0) yg vf rfl T.bv v6<|za xv zh) zt)<|zl<|ye<|ma<|xw<|zj (XE.ow xv)<|zj (ma<|yt (k:=0)<|zj (ma<|xw<|zj (XE.ow xv)<|zj (XE.ow xv)<|zj (XE.ow xv)<|zj (XE.ow xv) zt) zt) zt)
def o4:EF:=(fF (Ù<|L 2) 1 [4] r9 (tb<|S (é Ã) (L 0)<|L 1)<|L 0)
def o6:EF:=(fF (Ù<|L 0) 1 [2] r9 (tb<|S (é Ã) (S dM (L 0) db)<|L 1)<|S dM (L 0) ds)
def lZ:SF:=(Æ (É 4 o6)
  (É 2 o4))
def kc:List D->Option D:=Ô ["_law_arrows","_law_many","_law_left","_law_step","_law_goals"]
  (Æ (É 2<|eN tW<|Ä (L 1) Å)
  (Æ (Û (λY=>((Ä (L 1) Å) Y).bind pA) (gV 3) lZ)
  (Ì<|S (gb Ã) (L 2)<|λY=>(Å Y).bind λO=>Z<|.lst O)))
theorem Wc (T:Txt K mg a w):dO P w K mg base gk 1 a.bQ a.bR ["_law_arrows","_law_many"] (jR K a.ct [0,0] 0 kc) :=
 lf (G:=mO [0,0,0,0,0]) T.aU.fn λ_ _ _ _ _ _ hr nd=>(ze (mZ nd<|ma<|Rw rfl rfl T.bq rfl T.bs<|za xv zh)<|ze (xF (wv (n:=0) T.bs<|za xv zh) (rO nd)<|ze (mZ nd<|ma<|vN (N:=["_law_one","_law_left"]) (om:=mO [0]) (cap:=[2]) (own:=1) (yj (n:=0) xv) (λ_ _ _ _ _ h=>(o7 h)) (λ_ _ _ _ _=>(jc<|wm (k:=0) wt v9 (e9 xv dL) xv<|by with_unfolding_all rfl))<|λ_ _ _ _ _=>(XE.ow<|e9 xv dL))<|zl<|mZ nd<|ma<|vN (N:=["_law_going","_law_goals"]) (om:=mO [0]) (cap:=[4]) (own:=1) (yj (n:=0) xv) (λ_ _ _ _ _ h=>(o7 h)) (λ_ _ _ _ _=>(jc<|wm (k:=0) wt v9 xv xv<|by with_unfolding_all rfl))<|λ_ _ _ _ _=>(XE.ow xv))<|zl<|kG<|Ā hr xv<|iy<|yt (k:=0) zt)
def kX:EF:=(fF (λY=>((L 1) Y).bind IL) 1 [] (gV 0) g0<|S BH (L 0)<|eC<|.str "0123456789")
def hV:List D->Option D:=Ô ["_law_word","_law_digits"]
  (Æ (É 1<|L 0)
  (Æ (Ò (tb<|S (gb Ã) (λY=>((L 0) Y).bind λd=>(ñ Y).bind λl=>((ß<|eC<|.int 1) Y).bind λh=>t8 d l h)<|eC<|.str "-") Ü Ë)
  (Æ (Ò (ã (tb<|S (gb Ã) (L 1)<|eC<|.str "")<|ã (Ú<|tb<|eN lB<|Ä kX Å)<|Ø (tb<|S (gb Ã) (S dM (L 1)<|eC<|.int 0)<|eC<|.str "0")<|tb<|S (gb Â) (L 0)<|eC<|.str "0") (Ì<|eC .non) Ë)
  (Ì<|eN tS<|Ä (L 0) Å))))
theorem vw (T:Txt K mg a w):dO P w K mg base gk 1 a.bS a.bT ["_law_word"] (jR K a.ct [0] 0 hV) :=
 lf (G:=mO [0,0]) T.aV.fn λ_ _ _ _ _ _ hr nd=>(ze (nh nd xv)<|ze (lL (rN hr (Qj (k:=0) xv DB<|xf dL)<|zn (n:=0)) wp)<|ze (lL (XW.t<|wo (rN hr xv<|zn (n:=0))<|wo (wg<|xi<|yp (k:=0) (vi rfl) qo rfl T.bk Gb<|za (iy<|vN (N:=["_law_sign"]) (om:=mO [0]) (cap:=[]) (own:=1) (XI.cc<|Nk (n:=0) xv) (λ_ _ _ _ _ h=>(o7 h)) (λ_ _ _ _ _=>yf)<|λ_ _ _ _ _=>(XE.ow<|Ep (k:=0) ϱ Yo xv (zn (n:=0))<|by with_unfolding_all rfl)) zh)<|wu<|XW.t<|Gc (rN hr (e9 xv dL)<|zn (n:=0))<|qj<|Bl hr xv<|zn (n:=0))<|kG pY)<|zl<|kG<|z4 (k:=0) we ve rfl T.bn jk<|za xv zh)
def jK:SF:=(ö 5 6<|Ä (L 6)<|Ä (S iY (L 5)<|L 6) Å)
def gh:List D->Option D:=Ô ["_law_word","_law_top","_law_slash","_law_bottom","_law_found","_law_one","_law_other"]
  (Æ (ç (gT<|Ç (gV 1)<|Ç (gV 2)<|Ç (gV 3) Ð)<|S xC (L 0)<|eC<|.str "/")
  (Æ (É 4<|λY=>((Ä (cl hV<|Ä (L 1) Å)<|Ä (eC<|.int 1) Å) Y).bind λO=>Z<|.lst O)
  (Æ (Ò (tb<|S (gb Ã) (L 2)<|eC<|.str "/") (qM 4 (eC<|.int 1)<|cl hV<|Ä (L 3) Å) Ë)
  (ā 4 (Æ (Ò (ã (tb<|S (pN Ã) (S dM (L 4)<|eC<|.int 0)<|eC .non)<|ã (tb<|S (pN Ã) (S dM (L 4)<|eC<|.int 1)<|eC .non)<|ã (tb<|S tX (S dM (L 4)<|eC<|.int 1)<|eC<|.int 1)<|Ø (tb<|S (gb Ã) (L 2)<|eC<|.str "/")<|tb<|S (gb Ã) (S dM (L 4)<|eC<|.int 1)<|eC<|.int 1) (Ì<|eC .non) Ë)
  (Æ (ç (gL<|Ç (gV 5)<|Ç (gV 6) Ð)<|L 4)
  (Æ (kA (tb<|S (gb Â) (L 6)<|eC<|.int 0) jK)
  (Æ (Ò (tb<|S (gb Â) (eN Bv<|Ä (L 5) Å)<|eC<|.int 1) (Ì<|eC .non) Ë)
  (Ì<|λY=>((Ä (S dM (L 4)<|eC<|.int 0)<|Ä (S dM (L 4)<|eC<|.int 1) Å) Y).bind λO=>Z<|.tup O)))))))))
theorem wz (T:Txt K mg a w):dO P w K mg base gk 2 a.bU a.bV ["_law_word"] (jR K a.ct [0] 0 gh) :=
 lf (G:=mO [0,0,0,0,1,0,0]) T.aW.fn λ_ _ _ _ _ _ hr nd=>(ze (Iw (iy<|ϰ xv<|zn (n:=0))<|Gd (n:=0) rfl<|yi (rO nd)<|yi (rO nd)<|yi (rO nd) jb)<|ze (mZ nd<|yt (k:=0)<|zj (iJ T.aV (vw T) hr<|za xv zh)<|zj (XE.ow dL) zt)<|ze (lL (rN hr xv<|zn (n:=0))<|zsd 4 rfl dL<|xc T.aV (vw T) hr<|za xv zh)<|Nl (i:=4) rfl<|ze (lL (XW.t<|wo (zH (e9 xv dL) pY)<|wo (zH (e9 xv dL) pY)<|wo (Bk (e9 xv dL) dL)<|wu<|XW.t<|Gc (rN hr xv<|zn (n:=0))<|qj<|rN hr (e9 xv dL) dL)<|kG pY)<|ze (Iw xv<|Ũ (n:=0) rfl<|yi (rO nd)<|yi (rO nd) jb)<|ze (F7 (Bl hr xv dL)<|zl<|SA rfl rfl rfl nd rfl rfl (by decide) rfl rfl (za xv<|za (Ý xv xv) zh) rfl)<|ze (lL (Bl hr (yp (k:=0) QA Rn rfl T.bj Si<|za xv zh) dL)<|kG pY)<|zl<|ye<|ma<|xw<|zj (XE.ow<|e9 xv dL)<|zj (XE.ow<|e9 xv dL) zt)
def oW:EF:=(fF (Ù<|λY=>((L 1) Y).bind λd=>((ß<|S d9 (L 2)<|eC<|.int 1) Y).bind λl=>(ñ Y).bind λh=>gG d l h) 1 [] (gV 0) g0<|cl gh<|Ä (L 0) Å)
def oX:EF:=(fF (Ù<|λY=>((L 1) Y).bind λd=>((ß<|eC<|.int 2) Y).bind λl=>((ß<|L 2) Y).bind λh=>gG d l h) 1 [] (gV 0) g0<|cl hV<|Ä (L 0) Å)
def mV:List D->Option D:=Ô ["_law_text","_law_words","_law_at","_law_beat","_law_ring","_law_times"]
  (Æ (É 1<|S se (L 0)<|eC<|.str " ")
  (Æ (Ò (ã (tb<|S tX (eN fC<|Ä (L 1) Å)<|eC<|.int 4)<|ã (tb<|S (gb Â) (S dM (L 1)<|eC<|.int 1)<|eC<|.str "ring")<|tb<|S (é Â) (eC<|.str "times")<|L 1) (Ì<|eC .non) Ë)
  (Æ (É 2<|S rH (L 1)<|eC<|.str "times")
  (Æ (É 3<|cl gh<|Ä (S dM (L 1)<|eC<|.int 0) Å)
  (Æ (É 4 oX)
  (Æ (É 5 oW)
  (Æ (Ò (ã (tb<|S (pN Ã) (L 3)<|eC .non)<|ã (tb<|S (é Ã) (eC .non)<|L 4)<|tb<|S (inE Ã) (eC .non)<|L 5) (Ì<|eC .non) Ë)
  (Ì<|λY=>((Ä (L 3)<|Ä (L 4)<|Ä (L 5) Å) Y).bind λO=>Z<|.tup O))))))))
theorem Xi (T:Txt K mg a w):dO P w K mg base gk 3 a.bW a.bX ["_law_text"] (jR K a.ct [0] 0 mV) :=
 lf (G:=mO [0,0,0,0,0,0]) T.aX.fn λ_ _ _ _ _ _ hr nd=>(ze (mZ nd<|ma<|QH xv<|zn (n:=0))<|ze (lL (XW.t<|wo (Bk (qD T.bp<|za xv zh) dL)<|wo (Bl hr (e9 xv dL)<|zn (n:=0))<|wu<|wm (k:=0) w9 v9 (zn (n:=0)) xv<|by with_unfolding_all rfl)<|kG pY)<|ze (nh nd<|vt (k:=0) xv<|zn (n:=0))<|ze (mZ nd<|iJ T.aW (wz T) hr<|za (e9 xv dL) zh)<|ze (Ca (k:=0) (N:=["_law_word"]) (om:=mO [0]) (cap:=[]) (own:=1) nd (yj (n:=0)<|iy<|xm (n:=0) (by decide) xv (xf dL)<|xf xv) (λ_ _ _ _ _ h=>(o7 h)) (λ_ _ _ _ _=>yf)<|λ_ _ _ _ _=>(iJ T.aV (vw T) hr<|za xv zh))<|ze (Ca (k:=0) (N:=["_law_word"]) (om:=mO [0]) (cap:=[]) (own:=1) nd (yj (n:=0)<|iy<|xm (n:=0) (by decide) xv (xf<|iy<|mE xv dL) DB) (λ_ _ _ _ _ h=>(o7 h)) (λ_ _ _ _ _=>yf)<|λ_ _ _ _ _=>(iJ T.aW (wz T) hr<|za xv zh))<|ze (lL (XW.t<|wo (zH xv pY)<|wo (wm (k:=0) wt v9 pY xv<|by with_unfolding_all rfl)<|wu<|wm (k:=0) (Yy hr.u64) zs0 pY xv<|by with_unfolding_all rfl)<|kG pY)<|zl<|ye<|ma<|xw<|zj (XE.ow xv)<|zj (XE.ow xv)<|zj (XE.ow xv) zt)
def lY:SF:=(Æ (Ò (ã (tb<|S wS (S dM (S dM (L 0)<|S dM (L 1)<|L 3) db)<|S dM (S dM (L 0)<|S dM (L 1)<|S uU (L 3) ds) ds)<|tb<|S (é Ã) (S dM (S dM (L 0)<|S dM (L 1)<|L 3) db)<|L 2) e2 Ë)
  (ì 2<|S dM (S dM (L 0)<|S dM (L 1)<|L 3) db))
def km:EF:=(fF (Ù<|L 1) 1 [0] r9 g0<|eB<|Ø (tb<|S Ad db<|L 0)<|tb<|S tX (L 0)<|eN fC<|Ä (L 1) Å)
def kb:List D->Option D:=Ô ["_law_arrows","_law_ring","_law_goings","_law_k"]
  (Æ (É 2<|λY=>(Å Y).bind λO=>Z<|.lst O)
  (Æ (Ò (Ú<|tb<|eN lB<|Ä km Å) (Ì<|eC<|.bl Ã) Ë)
  (Æ (Û (λY=>((Ä (eN fC<|Ä (L 1) Å) Å) Y).bind pA) (gV 3) lY)
  (Ì<|S (gb Â) (L 1)<|λY=>(Å Y).bind λO=>Z<|.lst O))))
theorem We (T:Txt K mg a w):dO P w K mg base gk 1 a.bY a.bZ ["_law_arrows","_law_ring"] (jR K a.ct [0,0] 0 kb) :=
 lf (G:=mO [0,0,1,0]) T.aY.fn λ_ _ _ _ _ _ hr nd=>(ze (mZ nd<|yt (k:=0) zt)<|ze (lL (wg<|xi<|yp (k:=0) (vi rfl) qo rfl T.bk Gb<|za (iy<|vN (N:=["_law_number_here","_law_arrows"]) (om:=mO [0]) (cap:=[0]) (own:=1) (yj (n:=0) xv) (λ_ _ _ _ _ h=>(o7 h)) (λ_ _ _ _ _=>yf)<|λ_ _ _ _ _=>(XE.ow<|Zv (k:=0) Ss Rf NF M9 dL xv<|qD T.bp<|za xv zh)) zh)<|kG<|wj (n:=0))<|ze (xF (wv (n:=0) T.bs<|za (qD T.bp<|za xv zh) zh) (rO nd)<|ze (lL (XW.t<|wo (Bl hr (e9 (e9 xv<|e9 xv xv) dL)<|e9 (e9 xv<|e9 xv<|yX xv dL) dL)<|wu<|wm (k:=0) wt v9 (e9 (e9 xv<|e9 xv xv) dL) xv<|by with_unfolding_all rfl)<|kG<|wj (n:=0))<|zl<|jq 2 rfl<|XE.ow<|e9 (e9 xv<|e9 xv xv) dL)<|zl<|kG<|OV hr xv<|iy<|yt (k:=0) zt)
def lI:SF:=(Æ (É 12<|S dM (L 5)<|L 8)
  (Æ (É 13<|S dM (L 5)<|L 9)
  (Æ (É 14<|S d9 (S e7 (S dM (L 12) db)<|S dM (L 3) ds)<|S e7 (S e7 (L 10)<|S dM (L 12) ds)<|S dM (L 3) ds)
  (Æ (É 14<|S uU (L 14)<|S e7 (S e7 (S dM (L 3) db)<|L 11)<|S dM (L 12) ds)
  (Ò (tb<|S tX (S e7 (S e7 (S dM (L 13) db)<|S dM (L 12) ds)<|S dM (L 3) ds)<|S e7 (L 14)<|S dM (L 13) ds) e2 Ë)))))
def nV:EF:=(fF (Ù<|L 4) 1 [0] r9 g0<|S dM (S dM (L 1)<|L 0) r8)
def nW:EF:=(fF (Ù<|L 4) 1 [0] r9 g0<|S dM (S dM (L 1)<|L 0) gy)
def lQ:List D->Option D:=Ô ["_law_arrows","_law_many","_law_found","_law_beat","_law_ring","_law_times","_law_top","_law_bottom","_law_start","_law_goal","_law_time","_law_behind","_law_one","_law_other","_law_least"]
  (Æ (Ò (ã (tb<|S wT (L 2) io)<|ã (Ú<|tb<|cl kb<|Ä (L 0)<|Ä (S dM (L 2) ds) Å)<|tb<|S wS (eN fC<|Ä (S dM (L 2) gy) Å)<|L 1) e2 Ë)
  (Æ (ç (gT<|Ç (gV 3)<|Ç (gV 4)<|Ç (gV 5) Ð)<|L 2)
  (Æ (É 6<|eN wF<|Ä nW Å)
  (Æ (É 7<|eN wF<|Ä nV Å)
  (Æ (Ò (tb<|S wS (S e7 (L 6)<|S dM (L 3) ds)<|S e7 (S dM (L 3) db)<|L 7) e2 Ë)
  (Æ (Û (Ù<|L 0) (gT<|Ç (gV 8)<|Ç (gV 9)<|Ç (gV 10)<|Ç (gV 11) Ð) lI)
  wE))))))
theorem WG (T:Txt K mg a w):dO P w K mg base gk 2 a.b0 a.b1 ["_law_arrows","_law_many","_law_found"] (jR K a.ct [0,0,0] 0 lQ) :=
 lf (G:=mO [0,0,0,0,0,0,0,0,0,0,0,0,0,0,0]) T.aZ.fn λ_ _ _ _ _ _ hr nd=>(ze (lL (XW.t<|wo (zH xv pY)<|wo (wg<|xi<|xc T.aY (We T) hr<|za xv<|za (e9 xv dL) zh)<|wu<|Bl hr (qD T.bp<|za (e9 xv dL) zh) xv)<|kG<|wj (n:=0))<|ze (Iw xv<|Gd (n:=0) rfl<|yi (rO nd)<|yi (rO nd)<|yi (rO nd) jb)<|ze (nh nd<|yp (k:=0) (ud rfl) Ij rfl T.bw Ip<|za (iy<|vN (N:=["_law_k","_law_arrows"]) (om:=mO [0]) (cap:=[0]) (own:=1) (yj (n:=0) xv) (λ_ _ _ _ _ h=>(o7 h)) (λ_ _ _ _ _=>yf)<|λ_ _ _ _ _=>(XE.ow<|e9 (e9 xv xv) dL)) zh)<|ze (nh nd<|yp (k:=0) (ud rfl) Ij rfl T.bw Ip<|za (iy<|vN (N:=["_law_k","_law_arrows"]) (om:=mO [0]) (cap:=[0]) (own:=1) (yj (n:=0) xv) (λ_ _ _ _ _ h=>(o7 h)) (λ_ _ _ _ _=>yf)<|λ_ _ _ _ _=>(XE.ow<|e9 (e9 xv xv) dL)) zh)<|ze (lL (Bl hr (kJ xv<|e9 xv dL)<|kJ (e9 xv dL) xv)<|kG<|wj (n:=0))<|ze (xF (vn xv) (Gd (n:=0) rfl<|yi (rO nd)<|yi (rO nd)<|yi (rO nd)<|yi (rO nd) jb)<|ze (nh nd<|e9 xv xv)<|ze (nh nd<|e9 xv xv)<|ze (mZ nd<|ma<|mE (kJ (e9 xv dL)<|e9 xv dL)<|kJ (kJ xv<|e9 xv dL)<|e9 xv dL)<|ze (nh nd<|yX xv<|kJ (kJ (e9 xv dL) xv)<|e9 xv dL)<|zl<|lL (Bk (kJ (kJ (e9 xv dL)<|e9 xv dL)<|e9 xv dL)<|kJ xv<|e9 xv dL)<|kG<|wj (n:=0))<|zl<|kG<|wj (n:=0))
def fP:List D->Option D:=í 0 ["_law_desk","_law_arrows","_law_names_here","_law_text","_law_slow","_law_found","_law_slower"]
  (à (Ö 3<|ku 0 6 "say" (Ä (eC<|.str "least") Å) dY)
  (à (Ö 4<|ku 0 6 "say" (Ä (S d9 (eC<|.str "rate ")<|S dM (L 2) db) Å) dY)
  (BP (tb<|cl kc<|Ä (L 1)<|Ä (eN fC<|Ä (L 2) Å) Å) (è<|eB<|Ø (tb<|S on (L 3)<|eC<|.str "none")<|tb<|S on (L 4)<|eC<|.str "none")
  (à (É 5<|cl mV<|Ä (L 3) Å)
  (BP (Ú<|tb<|cl lQ<|Ä (L 1)<|Ä (eN fC<|Ä (L 2) Å)<|Ä (L 5) Å) (è<|eC<|.bl Ã)
  (BP (tb<|S on (L 4)<|eC<|.str "none") (è<|eC<|.bl Â)
  (à (É 6<|cl gh<|Ä (L 4) Å)
  (è<|eB<|Ø (tb<|S (pN Â) (L 6) io)<|tb<|S Ad (S e7 (S dM (L 6) db)<|S dM (S dM (L 5) db) ds)<|S e7 (S dM (S dM (L 5) db) db)<|S dM (L 6) ds))))))))
theorem ug (T:Txt K mg a w):dO P w K mg base gk 10 a.b2 a.b3 ["_law_desk","_law_arrows","_law_names_here"] (vD K a.ct 0 2 fP):=by refine ue (n:=0) (m:=2) (G:=mO [0,0,0,0]) T.a0.fn xh rfl rfl λxa kM A outer s H E hr=>?_;exact(xg (JP rfl xh.nd rfl (Or.inl rfl)<|Im (i:=0) (c0:=6) (uR rfl) T.h.cl T.aO (wy T) hr (xq u5)<|xr (zn (n:=0)) vv)<|xg (JP rfl xh.nd rfl (Or.inl rfl)<|Im (i:=0) (c0:=6) (uR rfl) T.h.cl T.aO (wy T) hr (xq u5)<|xr (iy<|mE (zn (n:=0))<|e9 xv dL) vv)<|Ni (xi<|xc T.aU (Wc T) hr<|za xv<|za (qD T.bp<|za xv zh) zh) (Et<|v7 (Ā hr xv<|zn (n:=0))<|vc (k:=0)<|Ā hr xv<|zn (n:=0))<|xg (mZ xh.nd<|iJ T.aX (Xi T) hr<|za xv zh)<|Ni (wg<|xi<|xc T.aZ (WG T) hr<|za xv<|za (qD T.bp<|za xv zh)<|za xv zh) (Et<|wj (n:=0))<|Ni (rN hr xv<|zn (n:=0)) (Et<|wj (n:=0))<|xg (mZ xh.nd<|iJ T.aW (wz T) hr<|za xv zh)<|Et<|v7 (VB xv pY)<|vc (k:=0)<|Fj (kJ (e9 xv dL)<|e9 (e9 xv dL) dL)<|kJ (e9 (e9 xv dL) dL)<|e9 xv dL)
def vT:SF:=(Æ (ç (gT<|Ç (gV 8)<|Ç (gV 9) Ð)<|cl kD<|Ä (L 7)<|Ä (L 2)<|Ä (L 4) Å)
  (Æ (yZ (AJ wS (ku 5 6 "say" (Ä (L 8) Å) dY)<|eC<|.str "ok") e2 Ë)
  (É 6<|S d9 (L 6)<|L 9)))
def Aj:EF:=(fF (λY=>((Ä (L 1) Å) Y).bind pA) 1 [3,1] (gV 0) g0<|S iY (S d9 (L 0)<|L 1)<|L 2)
def BQ:List D->Option D:=Ô ["_law_script","_law_many","_law_names_here","_law_turn","_law_order","_law_desk","_law_arrows","_law_cell","_law_row_here","_law_more"]
  (Æ (É 1<|S d9 (eC<|.int 2)<|S iY (cl fN<|Ä (L 0)<|Ä (eC<|.int 0) Å)<|eC<|.int 6)
  (Æ (É 2<|cl nG<|Ä (S iY (cl fN<|Ä (L 0)<|Ä (eC<|.int 1) Å)<|eC<|.int 10007)<|Ä (L 1) Å)
  (Æ (É 3<|S iY (cl fN<|Ä (L 0)<|Ä (eC<|.int 2) Å)<|L 1)
  (Æ (É 4 Aj)
  (Æ (Ò (tb<|S (gb Ã) (S iY (S jC (cl fN<|Ä (L 0)<|Ä (eC<|.int 2) Å)<|L 1)<|eC<|.int 2)<|eC<|.int 1) (É 4<|λY=>((Ù<|L 4) Y).bind λO=>Z<|.lst O.reverse) Ë)
  (Æ (É 5<|λ_=>lJ 6 [])
  (Æ (yZ (AJ (gb Â) (ku 5 6 "say" (Ä (S qI (eC<|.str " ")<|S d9 (λY=>((Ä (eC<|.str "goings") Å) Y).bind λO=>Z<|.lst O)<|L 2) Å) dY)<|eC<|.str "ok") (Ì<|eC<|.bl Ã) Ë)
  (Æ (É 6<|λY=>(Å Y).bind λO=>Z<|.lst O)
  (Æ (Û (Ù<|λY=>((L 0) Y).bind λd=>((ß<|eC<|.int 4) Y).bind λl=>((ß<|eC<|.int 18) Y).bind λh=>gG d l h) (gV 7) vT)
  (Æ (yZ (De<|mB<|qG 5 (Ä (L 6)<|Ä (L 2) Å) fP) (Ì<|eC<|.bl Ã) Ë)
  (Æ (ç (gT<|Ç (gV 8)<|Ç (gV 9) Ð)<|cl kD<|Ä (cl fN<|Ä (L 0)<|Ä (eC<|.int 3) Å)<|Ä (L 2)<|Ä (L 4) Å)
  (λY=>((xB (λY=>((ku 5 6 "say" (Ä (L 8) Å) dY) Y).bind λr=>((eC<|.str "ok") r.2).bind λy=>((gb Ã) r.1 y).bind λd=>Z (d,r.2))<|qG 5 (Ä (S d9 (L 6)<|L 9)<|Ä (L 2) Å) fP) Y).bind λr=>Z<|.rt r.1))))))))))))
theorem Ž (T:Txt K mg a w):dO P w K mg base gk 11 a.b4 a.b5 ["_law_script"] (jR K a.ct [0] 0 BQ) :=
 lf (G:=mO [0,0,0,0,0,1,0,0,0,0]) T.a1.fn λ_ _ _ _ _ _ hr nd=>(ze (mZ nd<|ma<|mE dL<|Ý (xc T.aP (xj T) hr<|za xv<|za dL zh) dL)<|ze (mZ nd<|iJ T.aS (WV T) hr<|za (Ý (xc T.aP (xj T) hr<|za xv<|za dL zh) dL)<|za xv zh)<|ze (nh nd<|Ý (xc T.aP (xj T) hr<|za xv<|za dL zh) xv)<|ze (Ca (k:=0) (N:=["_law_k","_law_turn","_law_many"]) (om:=mO [0]) (cap:=[3,1]) (own:=1) nd (XI.cc<|wv (n:=0) T.bs<|za xv zh) (λ_ _ _ _ _ h=>(o7 h)) (λ_ _ _ _ _=>yf)<|λ_ _ _ _ _=>(XE.ow<|Ý (iy<|mE xv xv) xv))<|ze (lL (rN hr (Ý (æ (xc T.aP (xj T) hr<|za xv<|za dL zh) xv) dL) dL)<|mZ nd<|ma<|ũ (n:=0) (by decide) xv<|Fu (k:=0) dL)<|ze (mZ nd<|ZA (c0:=6) T.h T.aN (Wb T) hr)<|ze (Nh (Rl (k:=0) (JY hr.u64) Ft (Im (i:=5) (c0:=6) (Bw rfl) T.h.cl T.aO (wy T) hr (xq u5)<|xr (ML (k:=0) (zn (n:=0))<|iy<|mE (iy<|yt (k:=0)<|zj (XE.ow<|zn (n:=0)) zt) xv) vv) (zn (n:=0))<|kW _) (zl<|kG<|wj (n:=0)) v8)<|ze (mZ nd<|ma<|yt (k:=0) zt)<|ze (xF (vn<|iy<|xm (n:=0) (by decide) xv (xf dL)<|xf dL) (rO nd)<|ze (Iw (xc T.aT (PJ T) hr<|za xv<|za xv<|za xv zh)<|Gd (n:=0) rfl<|yi (rO nd)<|yi (rO nd) jb)<|ze (Nh (Rl (k:=0) (JY hr.u64) Ft (Im (i:=5) (c0:=6) (Bw rfl) T.h.cl T.aO (wy T) hr (xq u5)<|xr xv vv) (zn (n:=0))<|kW _) (zl<|kG<|wj (n:=0)) v8)<|zl<|mZ nd<|ma<|mE xv xv)<|ze (Nh (zs8<|zs9<|MF (i:=5) (Bw rfl) T.a0 (ug T) hr (xq<|xq u5)<|xr xv<|xr xv vv) (zl<|kG<|wj (n:=0)) v8)<|ze (Iw (xc T.aT (PJ T) hr<|za (xc T.aP (xj T) hr<|za xv<|za dL zh)<|za xv<|za xv zh)<|Gd (n:=0) rfl<|yi (rO nd)<|yi (rO nd) jb)<|zl<|zs7<|Β (zs6 (Nc hr.u64) Ft (Im (i:=5) (c0:=6) (Bw rfl) T.h.cl T.aO (wy T) hr (xq u5)<|xr xv vv) (zn (n:=0))<|kW _)<|MF (i:=5) (Bw rfl) T.a0 (ug T) hr (xq<|xq u5)<|xr (iy<|mE xv xv)<|xr xv vv)
end
local macro_rules| `(tactic|walk_at "mid")=>`(tactic|simp -implicitDefEqProofs [cl,Ô,í,à,è,Ö,Ü,Ñ,Æ,Ò,É,Ì,û,ê,ö,ç,ì,Û,Ù,je,Ë,eC,e1,S,eN,Å,Ä,ñ,ß,wq,tb,ă,Ú,Ø,ã,eB,ù,gV,gT,Ç,Ð,ĕ,Ĕ,ub,ď,vo,Ď,yk,Ē,ē,Ċ,ģ,Ģ,D.isN,D.isB,uc,č,jt,vd,u0,ua,Č,Ė,ċ,wq,Ę,ė,ā,đ,Đ, *])
local macro_rules| `(tactic|walk_at "mie")=>`(tactic|simp -implicitDefEqProofs [cl,Ô,í,à,è,Ö,Ü,Ñ,Æ,Ò,É,Ì,û,ê,ö,ç,ì,Û,Ù,je,Ë,eC,e1,S,eN,Å,Ä,ñ,ß,wq,tb,ă,Ú,Ø,ã,eB,ù,gV,gT,Ç,Ð,ĕ,Ĕ,ub,ď,vo,Ď,yk,Ē,ē,Ċ,uc,č,jt,vd,u0,ua,Č,Ė,ċ,wq,Ę,ė,ā,đ,Đ, *])
variable {α:Type}{P:List Nat}{fi:L3.Env->Option (List D)}{È mv:Nat}{ns:List D}{Y:L3.Env}
noncomputable def i7 (n:Nat)(f:Nat->Int):List D:=(cE n).map λg=>D.int<|f g
theorem ϫ (n:Nat)(f:Nat->Int):(i7 n f).length=n:=by simp[i7]
theorem Iu {n:Nat}(f:Nat->Int){g:Nat}(h:g<n):atI (i7 n f) (g:Int)=dr (f g):=by refine ya ?_;simp[i7,h]
theorem RH {n:Nat}(f:Nat->Int){g:Nat}(h:g<n)(v:Int):xH (i7 n f) (g:Int) (.int v)=Z (i7 n λx=>if x=g then v else f x):=by
 unfold xH;have hx:ò (i7 n f).length (g:Int)=Z g:=by unfold ò;rw[ϫ];rw[if_pos<|by lia,if_pos<|by lia];simp
 rw[hx];simp only[d8,Option.some.injEq];apply oK
 ·simp[i7]
 ·intro i h1 h2;simp[i7,List.getElem_set];by_cases hi:g=i
  ·subst hi;simp
  ·rw[if_neg hi,if_neg<|λz=>hi z.symm]
theorem RI {i:Nat}{fj f:EF}{gi:Int->Int->Int}{n g:Nat}{w:Nat->Int}{y:Int}(h1:(Y[i]?).join=dq (i7 n w))(h2:fj Y=dr g)(h3:f Y=dr y)(hg:g<n) :
  xG i fj gi f Y=Z (.nx<|Y.set i<|dq<|i7 n λx=>if x=g then gi (w g) y else w x):=by
 unfold xG;have:L i Y=dq (i7 n w):=h1;rw[this,h2,h3];simp only[d8,Iu w hg,RH w hg]
noncomputable def cA (p:List Nat):List D:=p.map λ(x:Nat)=>D.int x
theorem ż {f:EF}{r:L3.Env}{n:Nat}(h:f r=dr n)(hn:n<=1000000):((Ä f Å) r).bind pA=Z ((cE n).map λ(t:Nat)=>D.int t):=by
 have e:(Ä f Å) r=Z [.int n]:=by unfold Ä;rw[h];rfl
 rw[e,d8,vq (by lia)<|by lia];unfold l7;simp
theorem uh {own:Nat}{cap:List Nat}{g:D->L3.Env->Option L3.Env}{p:BF}{f:EF}{r:L3.Env}(enc:α->D)(q:α->Bool)(h:α->D)(xs:List α)(hi:fi r=Z (xs.map enc))(hl:xs.length<=16777216)
  (st:∀x∈xs,∃ρ1,g (enc x) (cB own C++jA r cap)=Z ρ1/\p ρ1=Z (q x)/\(q x=Â->f ρ1=Z (h x))):fF fi own cap g p f r=dq ((xs.filter q).map h):=by
 unfold fF;rw[hi];simp only[d8,ck];rw[if_pos hl,Qd enc q h xs st];rfl
theorem yb {own:Nat}{cap:List Nat}{g:D->L3.Env->Option L3.Env}{f:EF}{r:L3.Env}(enc:α->D)(h:α->D)(xs:List α)(hi:fi r=Z (xs.map enc))(hl:xs.length<=16777216)
  (st:∀x∈xs,∃ρ1,g (enc x) (cB own C++jA r cap)=Z ρ1/\f ρ1=Z (h x)):fF fi own cap g g0 f r=dq (xs.map h):=by
 have:=uh (p:=g0) enc (λ_=>Â) h xs hi hl λx hx=>by obtain⟨ρ1,h1,h2⟩:=st x hx;exact⟨ρ1,h1,rfl,λ_=>h2⟩
 rw[this,zQ.mpr λ_ _=>rfl]
theorem JE {α:Type}(enc:α->D):∀(J:List α) (k:Nat),iM k (J.map enc)=(J.zipIdx k).map λ(p:α×Nat)=>D.tup [.int p.2,enc p.1]
 |[],_=>rfl
 |a::J,k=>by show _::iM (k+1) (J.map enc)=_::_;rw[JE enc J<|k+1]
theorem Ż {J:List α}{p:α×Nat}(h:p∈J.zipIdx):J[p.2]?=Z p.1:=ml.mp h
inductive Kd where
 |ride|wait|back
deriving DecidableEq
structure gR where
 c:Kd
 s:Nat
 g:Nat
 t:Int
 b:Nat
deriving DecidableEq
namespace Õ
noncomputable def cnt (W:List gR)(P:List Nat)(g:Nat):Nat:=W.countP λa=>decide<|a.g=g/\a.s∉P
structure Ok (W:List gR)(mv:Nat)(p:List Nat):Prop where
 nd:p.Nodup
 lt:∀x∈p,x<mv
 ord:∀(i x:Nat),p[i]?=Z x->∀a∈W,a.g=x->a.s∈p.take i
theorem Ok.snoc {W:List gR}{p:List Nat}{x:Nat}(h:Ok W mv p)(hx:x∉p)(hl:x<mv)(ho:∀a∈W,a.g=x->a.s∈p):Ok W mv (p++[x]) where
 nd:=by rw[dh];exact⟨h.nd,by simp,λa ha b hb e=>by simp at hb;subst hb;subst e;exact hx ha⟩
 lt:=λy hy=>by
  rcases cH.mp hy with hy|hy
  ·exact h.lt y hy
  ·simp at hy;subst hy;exact hl
 ord:=λi y hy a ha e=>by
  by_cases hi:i<p.length
  ·rw[fV hi]at hy;rw[tf<|by lia];exact h.ord i y hy a ha e
  ·rw[fS<|by lia]at hy;have K6:i-p.length=0:=by
    cases hq:i-p.length with
    |zero=>rfl
    |succ k=>rw[hq]at hy;simp at hy
   rw[K6]at hy;simp at hy;subst hy;have:i=p.length:=by lia
   rw[this,List.take_left']
   ·exact ho a ha e
   ·rfl
noncomputable def stp (È:Nat)(K':(Nat->Int)×List Nat)(a:gR):(Nat->Int)×List Nat :=
 if a.s=È then
  let f':Nat->Int:=λx=>if x=a.g then K'.1 a.g-1 else K'.1 x
  (f',if f' a.g=0 then K'.2++[a.g]else K'.2)
 else K'
structure In (W:List gR)(mv:Nat)(P:List Nat)(È:Nat)(pre:List gR)(K':(Nat->Int)×List Nat):Prop where
 ok:Ok W mv K'.2
 f:∀g,K'.1 g=(cnt W P g:Int)-(pre.countP λa=>decide (a.g=g/\a.s=È):Nat)
 z:∀g,g<mv->(g∈K'.2↔K'.1 g=0)
 sub:∀x,(x∈P\/x=È)->x∈K'.2
theorem ź {W pre post:List gR}{a:gR}(e:W=pre++a::post)(hP:È∉P)(ha:a.s=È):(pre.countP λx=>decide<|x.g=a.g/\x.s=È)+1<=cnt W P a.g:=by
 unfold cnt;rw[e,nj,lM];have h1:(pre.countP λx=>decide<|x.g=a.g/\x.s=È)<=pre.countP λx=>decide (x.g=a.g/\x.s∉P):=by apply List.countP_mono_left;intro x _ hx;simp at hx ⊢;exact⟨hx.1,by rw[hx.2];exact hP⟩
 have h2:(decide<|a.g=a.g/\a.s∉P)=Â:=by simp[ha,hP]
 rw[h2];simp only[if_true];lia
theorem In.step {W pre post:List gR}{a:gR}{K':(Nat->Int)×List Nat}(h:In W mv P È pre K')(e:W=pre++a::post)(hP:È∉P)(hl:a.g<mv):In W mv P È (pre++[a]) (stp È K' a):=by
 by_cases ha:a.s=È
 ·have UF:=ź e hP ha;have hf:∀g,(if g=a.g then K'.1 a.g-1 else K'.1 g)=(cnt W P g:Int)-((pre++[a]).countP λx=>decide (x.g=g/\x.s=È):Nat):=λg=>by
   rw[nj,xO];by_cases hg:g=a.g
   ·subst hg;rw[if_pos rfl,h.f];have:decide (a.g=a.g/\a.s=È)=Â:=by simp[ha]
    rw[this];simp only[if_true];lia
   ·rw[if_neg hg,h.f];have:decide (a.g=g/\a.s=È)=Ã:=by simp;intro z;exact absurd z.symm hg
    rw[this];simp
  have pU:K'.1 a.g≠0:=by rw[h.f];lia
  have vX:a.g∉K'.2:=λz=>pU<|(h.z a.g hl).mp z;by_cases h0:K'.1 a.g-1=0
  ·have es:stp È K' a=(λx=>if x=a.g then K'.1 a.g-1 else K'.1 x,K'.2++[a.g]):=by unfold stp;simp[ha,h0]
   rw[es];refine⟨h.ok.snoc vX hl λb hb eb=>?_,hf,λg hg=>?_,λx hx=>dF _<|h.sub x hx⟩
   ·
    refine h.sub _<|Classical.byContradiction λhc=>?_;have FK:b.s∉P:=λz=>hc<|.inl z;have GM:b.s≠È:=λz=>hc<|.inr z;have h1:cnt W P a.g=(pre.countP λx=>decide<|x.g=a.g/\x.s=È)+1:=by have:=h.f a.g;lia
    have h2:(W.countP λx=>decide<|x.g=a.g/\x.s=È)+(W.countP λx=>decide<|x.g=a.g/\x.s∉P/\x.s≠È)<=cnt W P a.g:=by
     have:cnt W P a.g=(W.countP λx=>decide<|x.g=a.g/\x.s=È)+(W.countP λx=>decide<|x.g=a.g/\x.s∉P/\x.s≠È):=by
      unfold cnt;clear h1 hc FK GM eb hb h0 hf UF e h;induction W with
      |nil=>rfl
      |cons x W ih=>simp only[lM];rw[ih];by_cases q1:x.g=a.g<;>by_cases q2:x.s=È<;>by_cases q3:x.s∈P<;>simp_all<;>lia
     lia
    have h3:(pre.countP λx=>decide<|x.g=a.g/\x.s=È)+1<=W.countP λx=>decide (x.g=a.g/\x.s=È):=by
     rw[e,nj,lM];have:decide (a.g=a.g/\a.s=È)=Â:=by simp[ha]
     rw[this];simp only[if_true];lia
    have h4:0<W.countP λx=>decide (x.g=a.g/\x.s∉P/\x.s≠È):=by rw[List.countP_pos_iff];exact⟨b,hb,by simp[eb,FK,GM]⟩
    lia
   ·rw[cH,cw];by_cases wO:g=a.g
    ·subst wO;simp[h0]
    ·dsimp only;rw[if_neg wO,h.z g hg];simp[wO]
  ·have es:stp È K' a=(λx=>if x=a.g then K'.1 a.g-1 else K'.1 x,K'.2):=by unfold stp;simp[ha,h0]
   rw[es];refine⟨h.ok,hf,λg hg=>?_,h.sub⟩;by_cases wO:g=a.g
   ·subst wO;dsimp only;rw[if_pos rfl];exact⟨λz=>absurd z vX,λz=>absurd z h0⟩
   ·dsimp only;rw[if_neg wO];exact h.z g hg
 ·have:stp È K' a=K':=by unfold stp;rw[if_neg ha]
  rw[this];refine⟨h.ok,λg=>?_,h.z,h.sub⟩;rw[nj,xO];have:decide (a.g=g/\a.s=È)=Ã:=by simp[ha]
  rw[this,h.f];simp
theorem In.fold {W:List gR}{mv:Nat}{P:List Nat}{È:Nat}(hP:È∉P)(hl:∀a∈W,a.g<mv):∀(post pre:List gR) (K':(Nat->Int)×List Nat),W=pre++post->In W mv P È pre K'->In W mv P È W (post.foldl (stp È) K')
 |[],pre,K',e,h=>by rw[e] ;simpa using(by rw[dH]at e;subst e;exact h)
 |a::post,pre,K',e,h=>by have:=In.fold hP hl post (pre++[a]) (stp È K' a) (by rw[e];simp) (h.step e hP<|hl a<|by rw[e];simp);exact this
theorem Y9 {W:List gR}{g:Nat}(hP:È∉P):(cnt W P g:Int)-(W.countP λa=>decide (a.g=g/\a.s=È):Nat)=cnt W (P++[È]) g:=by
 have:cnt W P g=(W.countP λa=>decide<|a.g=g/\a.s=È)+cnt W (P++[È]) g:=by
  unfold cnt;induction W with
  |nil=>rfl
  |cons x W ih=>simp only[lM];rw[ih];by_cases q1:x.g=g<;>by_cases q2:x.s=È<;>by_cases q3:x.s∈P<;>simp_all<;>lia
 lia
structure Wh (W:List gR)(mv:Nat)(f:Nat->Int)(p:List Nat)(d:Nat):Prop where
 ok:Ok W mv p
 dl:d<=p.length
 fe:∀g,f g=cnt W (p.take d) g
 z:∀g,g<mv->(g∈p↔f g=0)
theorem Wh.step {W:List gR}{f:Nat->Int}{p:List Nat}{d:Nat}(h:Wh W mv f p d)(hl:∀a∈W,a.g<mv)(hh:p[d]?=Z È) :
  Wh W mv (W.foldl (stp È) (f,p)).1 (W.foldl (stp È) (f,p)).2 (d+1)/\∃q,(W.foldl (stp È) (f,p)).2=p++q:=by
 have hd:d<p.length:=(cU.mp hh).1;have hP:È∉p.take d:=λz=>by
  obtain⟨i,hi,e⟩:=ir.mp z;have K6:i<d:=by rw[jT]at hi;lia
  rw[AY]at e;have S:p[d]=È:=by have:=cU.mp hh;exact this.2
  have:=(oN (xs:=p) (h₀:=by lia) (h₁:=hd) h.ok.nd).mp<|e.trans S.symm;lia
 have K1:∀(l:List gR) (K':(Nat->Int)×List Nat),∃q,(l.foldl (stp È) K').2=K'.2++q:=by
  intro l;induction l with
  |nil=>exactλK'=>⟨[],by simp⟩
  |cons a l ih=>
   intro K';obtain⟨q,hq⟩:=ih<|stp È K' a;have:∃r,(stp È K' a).2=K'.2++r:=by
    by_cases ha:a.s=È
    ·by_cases h0:K'.1 a.g-1=0
     ·exact⟨[a.g],by unfold stp;simp[ha,h0]⟩
     ·exact⟨[],by unfold stp;simp[ha,h0]⟩
    ·exact⟨[],by unfold stp;simp[ha]⟩
   obtain⟨r,hr⟩:=this;exact⟨r++q,by rw[tL,hq,hr,dN]⟩
 obtain⟨q,hq⟩:=K1 W (f,p);have I:=In.fold hP hl W [] (f,p) rfl ⟨h.ok,λg=>by show f g=_;rw[h.fe];simp,h.z,λx hx=>by
  rcases hx with hx|rfl
  ·exact p5 hx
  ·exact dJ.mpr ⟨d,hh⟩⟩
 have G9:(W.foldl (stp È) (f,p)).2.take (d+1)=p.take d++[È]:=by rw[hq];show(p++q).take (d+1)=_;rw[tf<|by assumption,List.take_succ,hh];rfl
 refine⟨⟨I.ok,?_,λg=>?_,I.z⟩,q,hq⟩
 ·rw[hq];show d+1<=(p++q).length;rw[cM];lia
 ·rw[I.f,G9];exact Y9 hP
theorem cnt_zero {W:List gR}{g:Nat}:cnt W P g=0↔∀a∈W,a.g=g->a.s∈P:=by
 unfold cnt;rw[List.countP_eq_zero];constructor
 ·intro h a ha e;have:=h a ha;simp at this;exact Classical.byContradiction λz=>z<|this e
 ·intro h a ha;simp;exact h a ha
theorem Wh.all {W:List gR}{f:Nat->Int}{p:List Nat}(h:Wh W mv f p p.length)(rank:Nat->Nat)(hr:∀a∈W,rank a.s<rank a.g)(hs:∀a∈W,a.s<mv):∀g,g<mv->g∈p:=by
 have:∀n g,rank g<n->g<mv->g∈p:=by
  intro n;induction n with
  |zero=>intro g h;lia
  |succ n ih=>intro g hg hl;rw[h.z g hl,h.fe,List.take_length];have:cnt W p g=0:=cnt_zero.mpr λa ha e=>ih a.s (by have:=hr a ha;rw[e]at this;lia)<|hs a ha;rw[this];rfl
 exactλg hl=>this (rank g+1) g (by lia) hl
theorem len_of {p:List Nat}(nd:p.Nodup)(lt:∀x∈p,x<mv)(all:∀g,g<mv->g∈p):p.length=mv:=by
 have h1:p.Perm (cE mv):=by rw[uM nd oQ];intro a;rw[dm];exact⟨lt a,all a⟩
 simpa using h1.length_eq
theorem len_le {p:List Nat}(nd:p.Nodup)(lt:∀x∈p,x<mv):p.length<=mv:=by
 have h1:(p++(cE mv).filter λx=>decide<|x∉p).Perm (cE mv):=by
  rw[uM (by rw[dh];refine⟨nd,oQ.filter _,λa ha b hb e=>?_⟩;subst e;simp at hb;exact hb.2 ha) oQ];intro a;rw[cH,dU,dm];constructor
  ·rintro(h|h)
   ·exact lt a h
   ·exact h.1
  ·intro h;by_cases ha:a∈p
   ·exact .inl ha
   ·exact .inr ⟨h,by simpa using ha⟩
 have:=h1.length_eq;rw[cM,fk]at this;lia
end Õ
noncomputable def Kd.n:Kd->Nat
 |.ride=>1|.wait=>2|.back=>3
def dD (a:gR):D:=.obj a.c.n ["start","goal","time","behind"] [.int a.s,.int a.g,.int a.t,.int a.b]
theorem fs (a:gR):dX [0,1,2,3] "start" (dD a)=dr a.s:=by obtain⟨c,_,_,_,_⟩:=a;cases c<;>rfl
theorem fg (a:gR):dX [0,1,2,3] "goal" (dD a)=dr a.g:=by obtain⟨c,_,_,_,_⟩:=a;cases c<;>rfl
theorem ft (a:gR):dX [0,1,2,3] "time" (dD a)=dr a.t:=by obtain⟨c,_,_,_,_⟩:=a;cases c<;>rfl
theorem fb (a:gR):dX [0,1,2,3] "behind" (dD a)=dr a.b:=by obtain⟨c,_,_,_,_⟩:=a;cases c<;>rfl
structure õ (mv:Nat)(a:gR):Prop where
 s:a.s<mv
 g:a.g<mv
 t0:0<=a.t
 t1:a.t<=1000000000
 b:a.b<=4
 r:a.c=.ride->a.b=0
 k:a.c=.back->1<=a.b
theorem uw {n l m:Int}(h1:l<=n)(h2:n<=m):eL [.int n,.int l,.int m]=Z (.bl Â):=by unfold eL;have q1 (i:Int):tT "int" (.int i)=Z (.bl Â):=rfl;have q2 (i:Int):tT "bool" (.int i)=Z (.bl Ã):=rfl;walk_at "mid"
theorem isA (all sub:List Nat)(a:gR):BJ all sub (dD a)=if all.contains a.c.n=Â then Z (.bl<|sub.contains a.c.n)else C:=rfl
theorem Ϫ {a:gR}(h:õ mv a):oS [dD a,.int mv]=Z (.bl Â):=by
 have w1:eL [.int a.s,.int 0,.int<|mv-1]=Z (.bl Â):=uw (by lia) (by have:=h.s;lia);have w2:eL [.int a.g,.int 0,.int<|mv-1]=Z (.bl Â):=uw (by lia) (by have:=h.g;lia);have w3:eL [.int a.t,.int 0,.int 1000000000]=Z (.bl Â):=uw h.t0 h.t1;have f1:=fs a;have f2:=fg a;have f3:=ft a;have f4:=fb a;have hi:=λall sub=>isA all sub a;have hb:=h.b;have hr:=h.r;have hk:=h.k;clear h;unfold oS;cases hc:a.c with
 |ride=>have w4:eL [.int a.b,.int 0,.int 0]=Z (.bl Â):=uw (by lia) (by have:=hr hc;lia);rw[hc]at hi;clear hr hk hb;have hn:Kd.ride.n=1:=rfl;walk_at "mid"
 |wait=>have w4:eL [.int a.b,.int 0,.int 4]=Z (.bl Â):=uw (by lia) (by lia);rw[hc]at hi;clear hr hk hb;have hn:Kd.wait.n=2:=rfl;walk_at "mid"
 |back=>have w4:eL [.int a.b,.int 1,.int 4]=Z (.bl Â):=uw (by have:=hk hc;lia) (by lia);rw[hc]at hi;clear hr hk hb;have hn:Kd.back.n=3:=rfl;walk_at "mid"
noncomputable def W0 (J:List gR):List gR:=J.filter λa=>decide<|a.b=0
theorem WD (J:List gR)(l:J.length<=16777216)(r:L3.Env)(h:r[1]?.join=dq (J.map dD)) :
  nN r=dq ((W0 J).map dD):=by
 have e:Ù (L 1) r=Z (J.map dD):=by unfold Ù;have:L 1 r=dq (J.map dD):=h;rw[this];rfl
 refine uh dD (λa=>decide<|a.b=0) dD J e l λa _=>⟨_,rfl,?_,λ_=>rfl⟩;have:=fb a;walk_at "mid"
def GA (s:(Nat->Int)×Option D)(a:gR):(Nat->Int)×Option D:=(λx=>if x=a.g then s.1 a.g+1 else s.1 x,Z<|dD a)
theorem QK:∀(W:List gR) (s:(Nat->Int)×Option D) (g:Nat),(W.foldl GA s).1 g=s.1 g+(W.countP λa=>decide (a.g=g):Nat)
 |[],s,g=>by simp
 |a::W,s,g=>by
  rw[tL,QK W,lM];by_cases hg:g=a.g
  ·subst hg;simp[GA];lia
  ·have:decide (a.g=g)=Ã:=by simp;exactλz=>hg z.symm
   simp[GA,hg,this]
theorem Za (p:List Nat)(x:Nat):cA p++[D.int x]=cA (p++[x]):=by simp[cA]
theorem ϩ {J:List gR}{f:Nat->Int}{p:List Nat}{d:Nat}{x4:Option D}(hm:mv<=1000)(hW:∀a∈W0 J,a.s<mv/\a.g<mv)(h:Õ.Wh (W0 J) mv f p d)(hh:p[d]?=Z È) :
  ∃x,jV (gV 4) hG ((W0 J).map dD) [dr mv,dq<|J.map dD,dq<|(W0 J).map dD,dq<|i7 mv f,x4,dq<|cA p,dr d,dr È] =
   Z (.nx [dr mv,dq<|J.map dD,dq<|(W0 J).map dD,dq<|i7 mv ((W0 J).foldl (Õ.stp È) (f,p)).1,x,dq<|cA ((W0 J).foldl (Õ.stp È) (f,p)).2,dr d,dr È]):=by
 have hd:d<p.length:=(cU.mp hh).1;have hP:È∉p.take d:=λz=>by
  obtain⟨i,hi,e⟩:=ir.mp z;have K6:i<d:=by rw[jT]at hi;lia
  rw[AY]at e;have S:p[d]=È:=(cU.mp hh).2;have:=(oN (xs:=p) (h₀:=by lia) (h₁:=hd) h.ok.nd).mp<|e.trans S.symm;lia
 obtain⟨ρ',h1,x,pre,e1,S⟩:=jr (g:=gV 4) (b:=hG) (O:=(W0 J).map dD) (Y:=[dr mv,dq<|J.map dD,dq<|(W0 J).map dD,dq<|i7 mv f,x4,dq<|cA p,dr d,dr È])
  (λO Y=>∃x pre,O=pre.map dD/\(∃post,W0 J=pre++post)/\Õ.In (W0 J) mv (p.take d) È pre (pre.foldl (Õ.stp È) (f,p))/\Y=[dr mv,dq<|J.map dD,dq<|(W0 J).map dD,dq<|i7 mv (pre.foldl (Õ.stp È) (f,p)).1,x,dq<|cA (pre.foldl (Õ.stp È) (f,p)).2,dr d,dr È])
  ⟨x4,[],rfl,⟨_,rfl⟩,⟨h.ok,λg=>by show f g=_;rw[h.fe];simp,h.z,λx hx=>by
   rcases hx with hx|rfl
   ·exact p5 hx
   ·exact dJ.mpr ⟨d,hh⟩⟩,rfl⟩ (by
  rintro O dd post Y e ⟨x,pre,rfl,⟨BX,e'⟩,I,rfl⟩;rw[e',dI]at e;have e3:=List.append_cancel_left e;cases BX with
  |nil=>cases e3
  |cons a BX=>
   rw[cI]at e3;cases e3;have ha:a∈W0 J:=by rw[e'];simp
   have hl:=Õ.len_le I.ok.nd I.ok.lt;have I2:=I.step e' hP (hW a ha).2;refine⟨_,_,rfl,.inl ?_,Z<|dD a,pre++[a],by simp,⟨BX,by rw[e'];simp⟩,by rw[AW];exact I2,rfl⟩;rw[AW];generalize pre.foldl (Õ.stp È) (f,p)=K' at hl;show hG _=Z (.nx [_,_,_,dq<|i7 mv (Õ.stp È K' a).1,_,dq<|cA (Õ.stp È K' a).2,_,_]);have f1:=fs a;have f2:=fg a;have iI:(cA K'.2).length<16777216:=by simp[cA];lia
   unfold hG;by_cases hs:a.s=È
   ·have Ab:((a.s:Nat):Int)=(È:Int):=by rw[hs]
    have au:=RI (i:=3) (fj:=e1 (dX [0,1,2,3] "goal")<|L 4) (f:=eC<|.int 1) (gi:=λi j=>i-j) (Y:=[dr mv,dq<|J.map dD,dq<|(W0 J).map dD,dq<|i7 mv K'.1,Z<|dD a,dq<|cA K'.2,dr d,dr È]) (n:=mv) (g:=a.g) (w:=K'.1) (y:=1) rfl (by walk_at "mid") rfl (hW a ha).2;have va:dM (.lst<|i7 mv λx=>if x=a.g then K'.1 a.g-1 else K'.1 x) (.int a.g)=dr (K'.1 a.g-1):=by have:=Iu (λx=>if x=a.g then K'.1 a.g-1 else K'.1 x) (hW a ha).2;rw[if_pos rfl]at this;exact this
    by_cases h0:K'.1 a.g-1=0
    ·have es:Õ.stp È K' a=(λx=>if x=a.g then K'.1 a.g-1 else K'.1 x,K'.2++[a.g]):=by unfold Õ.stp;simp[hs,h0]
     rw[es,←Za];rw[h0]at va;clear I I2 e' es;walk_at "mid"
    ·have es:Õ.stp È K' a=(λx=>if x=a.g then K'.1 a.g-1 else K'.1 x,K'.2):=by unfold Õ.stp;simp[hs,h0]
     rw[es];clear I I2 e' es;walk_at "mid"
   ·have es:Õ.stp È K' a=K':=by unfold Õ.stp;rw[if_neg hs]
    rw[es];have Ab:¬((a.s:Nat):Int)=(È:Int):=by lia
    clear I I2 e' es;walk_at "mid")
 obtain⟨⟨post,S⟩,I,rfl⟩:=S;have:pre=W0 J:=by have:=congrArg nZ e1;rw[ck,ck]at this;rw[S,cM]at this;have hp:post=[]:=sZ (by lia);rw[S,hp,dH]
 rw[this]at h1;exact⟨x,h1⟩
theorem Zb (J:List gR)(l:J.length<=1000)(hm:mv<=1000)(hs:∀a∈J,a.s<mv/\a.g<mv) :
  ∃(f:Nat->Int) (p:List Nat),iX [.int mv,.lst<|J.map dD]=Z (.lst<|cA p)/\Õ.Wh (W0 J) mv f p p.length:=by
 have hW:∀a∈W0 J,a.s<mv/\a.g<mv:=λa ha=>hs a (dU.mp ha).1;obtain⟨c1,_⟩:=Qc (g:=gV 4) (b:=kP) dD (λs:(Nat->Int)×Option D=>[Z<|.int mv,Z<|.lst<|J.map dD,Z<|.lst<|(W0 J).map dD,Z<|.lst<|i7 mv s.1,s.2,C,C,C])
  GA (λ_=>True) (W0 J) (λ_=>0,C) trivial (λs a ha _=>by
   refine⟨_,rfl,.inl ?_,trivial⟩;unfold kP;have f2:=fg a;rw[RI (n:=mv) (g:=a.g) (w:=s.1) (y:=1) rfl (by walk_at "mid") rfl (hW a ha).2]
   rfl)
 have c2:=QK (W0 J) (λ_=>0,C);generalize Uo:(W0 J).foldl GA (λ_=>0,C)=S0 at c1 c2;obtain⟨f0,y4⟩:=S0;dsimp only at c1 c2;have UP:∀r:L3.Env,r[0]?.join=Z (.int mv)->r[3]?.join=Z (.lst<|i7 mv f0)->nM r=Z (.lst<|cA<|(cE mv).filter λg=>decide<|f0 g=0):=by
  intro r h0 h3;refine uh (λ(t:Nat)=>D.int t) (λg=>decide<|f0 g=0) (λ(t:Nat)=>D.int t) (cE mv) (ż h0<|by lia) (by rw[fk];lia) ?_
  ·intro g hg;refine⟨_,rfl,?_,λ_=>rfl⟩;have hg:g<mv:=dm.mp hg;have hv:dM (.lst<|i7 mv f0) (.int g)=Z (.int<|f0 g):=Iu f0 hg;have hc:jA r [3]=[Z<|.lst<|i7 mv f0]:=by unfold jA;simp[h3]
   rw[hc];walk_at "mid"
 generalize hq:((cE mv).filter λg=>decide<|f0 g=0)=p0 at UP;have w0:Õ.Wh (W0 J) mv f0 p0 0:=by
  have hf:∀g,f0 g=Õ.cnt (W0 J) [] g:=λg=>by rw[c2 g];unfold Õ.cnt;simp
  refine⟨⟨by rw[←hq];exact oQ.filter _,λx hx=>by rw[←hq,dU,dm]at hx;exact hx.1,λi x hx a ha e=>?_⟩,by lia,hf,λg hg=>by rw[←hq,dU,dm];simp[hg]⟩;have C6:x∈p0:=dJ.mpr ⟨i,hx⟩;rw[←hq,dU]at C6;have h0:f0 x=0:=by simpa using C6.2
  rw[hf]at h0;have:=Õ.cnt_zero.mp (by exact_mod_cast h0) a ha e;cases this
 obtain⟨ρ',h1,⟨f,p,d,x4,x7,rfl,wh⟩,h3⟩:=Pv (c:=tb<|S tX (L 6)<|eN fC<|Ä (L 5) Å) (b:=kO)
  (λY=>∃f p d x4 x7,Y=[Z<|.int mv,Z<|.lst<|J.map dD,Z<|.lst<|(W0 J).map dD,Z<|.lst<|i7 mv f,x4,Z<|.lst<|cA p,Z<|.int ((d:Nat):Int),x7]/\Õ.Wh (W0 J) mv f p d)
  (λY:L3.Env=>match Y[6]? with|some (Z<|D.int i)=>(1001-i).toNat|_=>0) (by
   rintro Y ⟨f,p,d,x4,x7,rfl,wh⟩;have hl:(cA p).length=p.length:=by simp[cA]
   refine⟨decide<|(d:Int)<p.length,by walk_at "mid",λht=>?_⟩;have hd:d<p.length:=by simpa using ht
   have hh:p[d]?=Z p[d]:=by simp[hd]
   obtain⟨x,EK⟩:=ϩ (x4:=x4) hm hW wh hh;obtain⟨Ia,q,_⟩:=wh.step (λa ha=>(hW a ha).2) hh;have rG:=Õ.len_le Ia.ok.nd Ia.ok.lt;have CZ:=Ia.dl;refine⟨_,.inl ?_,⟨_,_,d+1,x,Z<|.int (p[d]:Int),rfl,Ia⟩,?_⟩
   ·have hix:dM (.lst<|cA p) (.int d)=Z (.int (p[d]:Int)):=ya (by simp[cA,hd]);have hau:i2 (λi j=>D.int<|i+j) (.int d) (.int 1)=Z (.int ((d+1:Nat):Int)):=by simp[i2]
    unfold kO B5;clear wh Ia rG CZ;walk_at "mid"
   ·show(1001-((d+1:Nat):Int)).toNat<(1001-(d:Int)).toNat
    lia) p6 [Z<|.int mv,Z<|.lst<|J.map dD,Z<|.lst<|(W0 J).map dD,Z<|.lst<|i7 mv f0,y4,Z<|.lst<|cA p0,Z<|.int ((0:Nat):Int),C] ⟨f0,p0,0,y4,C,rfl,w0⟩ (by
   show(1001-((0:Nat):Int)).toNat<p6;have:(1001:Nat)<p6:=MV (by decide)
   lia)
 have hd:d=p.length:=by
  have hl:(cA p).length=p.length:=by simp[cA]
  have h4:(tb<|S tX (L 6)<|eN fC<|Ä (L 5) Å) [Z<|.int mv,Z<|.lst<|J.map dD,Z<|.lst<|(W0 J).map dD,Z<|.lst<|i7 mv f,x4,Z<|.lst<|cA p,Z<|.int d,x7]=Z (decide<|(d:Int)<p.length):=by walk_at "mid"
  rw[h4]at h3;have:=wh.dl;simp at h3;lia
 subst hd;refine⟨f,p,?_,wh⟩;have r1:=WD J (by lia);have rp:yY (.lst [.int 0]) (.int mv)=Z (.lst<|i7 mv λ_=>0):=by unfold yY;dsimp only;rw[if_pos ⟨by lia,by lia,by simp⟩];congr 2;unfold i7;rw[Ce,fk];simp
 rw[show(((0:Nat):Int))=0 from rfl]at h1;unfold iX kA;clear hs hW c2 Uo hq w0 wh h3 l hm;walk_at "mid"
def de (ns:List D)(J:List gR):D:=.obj 4 ["names","arrows"] [.lst ns,.lst<|J.map dD]
structure rE (mv:Nat)(J:List gR):Prop where
 pos:1<=mv
 le:mv<=40
 len:J.length<=120
 right:∀a∈J,õ mv a
 rank:∃rank:Nat->Nat,∀a∈J,a.b=0->rank a.s<rank a.g
theorem rE.placed {J:List gR}(h:rE mv J):∃p:List Nat,iX [.int mv,.lst<|J.map dD]=dq (cA p)/\Õ.Ok (W0 J) mv p/\p.length=mv/\∀g,g<mv->g∈p:=by obtain⟨f,p,h1,h2⟩:=Zb (mv:=mv) J (by have:=h.len;lia) (by have:=h.le;lia)<|λa ha=>⟨(h.right a ha).s,(h.right a ha).g⟩;obtain⟨rank,hr⟩:=h.rank;have all:=h2.all rank (λa ha=>by have:=dU.mp ha;exact hr a this.1 (by simpa using this.2))<|λa ha=>(h.right a (dU.mp ha).1).s;exact⟨p,h1,h2.ok,Õ.len_of h2.ok.nd h2.ok.lt all,all⟩
theorem SZ {J:List gR}(h:rE mv J)(hn:ns.length=mv)(hnm:hU [.lst ns]=Z (.bl Â)):fZ 4 [.lst ns,.lst<|J.map dD]=Z (de ns J):=by
 obtain⟨p,hp,_,hl,_⟩:=h.placed;have iI:=h.len;obtain⟨ρ',h1,x3,x4,rfl⟩:=jr (g:=gT<|Ç (gV 3)<|Ç (gV 4) Ð) (b:=mP) (O:=iM 0<|J.map dD) (Y:=[Z<|.obj 4 [] [],dq ns,dq<|J.map dD,C,C,C])
  (λ_ Y=>∃x3 x4,Y=[Z<|.obj 4 [] [],dq ns,dq<|J.map dD,x3,x4,C]) ⟨C,C,rfl⟩ (by rintro pre d post Y e ⟨x3,x4,rfl⟩;obtain⟨x,hx,rfl⟩:=Mp<|Nj e;rw[cP]at hx;obtain⟨a,ha,rfl⟩:=fO.mp hx;have hr:=Ϫ<|h.right a<|dJ.mpr ⟨_,ha⟩;refine⟨_,_,rfl,.inl ?_,dr (0+pre.length:Nat),Z<|dD a,rfl⟩;unfold mP;rw[←hn]at hr;clear hp hl hn iI h;walk_at "mid")
 have hz:(cA p).length=mv:=by simp[cA,hl]
 have hgt:¬((J.length:Int) > 120):=by lia
 rw[←hn]at hp hz;have l1:∀O:List D,vJ [.lst O]=dq O:=λ_=>rfl;have s1:oC [4] "names" (eN vJ<|Ä (L 1) Å) [Z<|D.obj 4 [] [],dq ns,dq<|J.map dD,x3,x4,dq<|cA p]=Z (.nx [Z<|D.obj 4 ["names"] [.lst ns],dq ns,dq<|J.map dD,x3,x4,dq<|cA p]):=rfl;have s2:oC [4] "arrows" (eN vJ<|Ä (L 2) Å) [Z<|D.obj 4 ["names"] [.lst ns],dq ns,dq<|J.map dD,x3,x4,dq<|cA p]=Z (.nx [Z<|de ns J,dq ns,dq<|J.map dD,x3,x4,dq<|cA p]):=rfl;clear h iI hl hn;unfold fZ C7;walk_at "mid"
theorem P4 {α:Type}(f:α->Bool):∀xs:List α,pI (xs.map λx=>D.bl<|f x)=Z (xs.map f)
 |[]=>rfl
 |x::xs=>by show(pI<|xs.map λx=>D.bl<|f x).bind _=_;rw[P4 f xs];rfl
theorem á (f:α->Bool)(xs:List α):lB [.lst<|xs.map λx=>D.bl<|f x]=Z (.bl<|xs.all f):=by show(pI _).bind _=_;rw[P4];show Z (D.bl<|(xs.map f).all id)=_;rw[mJ];rfl
noncomputable def cN (ws:List Str):D:=.lst<|ws.map D.str
theorem P5:∀ys:List Str,sM (ys.map .str)=Z ys
 |[]=>rfl
 |y::ys=>by show(sM<|ys.map .str).bind _=_;rw[P5 ys];rfl
theorem J3 {b:Nat}:∀{ys:List Str},(∀y∈ys,y.length<=b)->(ys.map (·.length)).sum<=ys.length*b
 |[],_=>by simp
 |y::ys,h=>by have h1:=h y b7;have h2:=J3 (b:=b) (ys:=ys) λz hz=>h z<|cj _ hz;rw[cI,d7,cz,xV];lia
theorem MG (sp:Str):∀ys:List Str,(Str.join sp ys).length<=(ys.map (·.length)).sum+ys.length*sp.length
 |[]=>by unfold Str.join;exact fI _
 |[y]=>by unfold Str.join;simp
 |y::z::ys=>by have ih:=MG sp (z::ys);unfold Str.join;rw[yh,yh];simp only[cI,d7,cz]at ih ⊢;rw[xV];lia
theorem Nq {sp:Str}{ys:List Str}{b:Nat}(h:∀y∈ys,y.length<=b)(hb:ys.length*b+ys.length*sp.length<=16777216):qI (.str sp) (cN ys)=Z (.str<|Str.join sp ys):=by show(sM<|ys.map .str).bind _=_;rw[P5];show(if _ then _ else _)=_;rw[if_pos<|by have:=J3 h;lia]
variable {a:gR}{mo ws:List Str}
noncomputable def eP (c:Nat):Str:=⟨#[c]⟩
theorem IF:(" ":Str)=eP 32:=by decide +kernel
def tE (c:Nat)(w:Str):Prop:=c∉w.cps.toList
theorem SJ {c:Nat}:∀{a b X Y':List Nat},c∉a->c∉b->a++c::X=b++c::Y'->a=b/\X=Y'
 |[],[],X,Y',_,_,h=>by simpa using h
 |[],y::b,X,Y',_,hb,h=>by
  have:c=y:=by simpa using(List.cons.inj h).1
  exact absurd (by rw[this];exact b7) hb
 |x::a,[],X,Y',ha,_,h=>by
  have:x=c:=by simpa using(List.cons.inj h).1
  exact absurd (by rw[this];exact b7) ha
 |x::a,y::b,X,Y',ha,hb,h=>by obtain⟨e,h2⟩:=List.cons.inj h;subst e;obtain⟨e1,S⟩:=SJ (λz=>ha<|cj _ z) (λz=>hb<|cj _ z) h2;exact⟨by rw[e1],S⟩
theorem vx {x y:Str}(h:x.cps.toList=y.cps.toList):x=y:=by obtain⟨a⟩:=x;obtain⟨b⟩:=y;exact congrArg Str.mk<|Array.toList_inj.mp h
theorem yx (x y:Str):(x++y).cps.toList=x.cps.toList++y.cps.toList:=by show(x.cps++y.cps).toList=_;simp
theorem join_list (c:Nat)(a b:Str)(r:List Str):(Str.join (eP c) (a::b::r)).cps.toList=a.cps.toList++c::(Str.join (eP c) (b::r)).cps.toList:=by rw[show Str.join (eP c) (a::b::r)=a++eP c++Str.join (eP c) (b::r)from rfl,yx,yx];simp[eP]
theorem QL {c:Nat}:∀{ws us:List Str},ws≠[]->us≠[]->(∀w∈ws,tE c w)->(∀w∈us,tE c w)->Str.join (eP c) ws=Str.join (eP c) us->ws=us
 |[],_,h,_,_,_,_=>absurd rfl h
 |_::_,[],_,h,_,_,_=>absurd rfl h
 |[a],[b],_,_,_,_,h=>by have h:a=b:=h;rw[h]
 |[a],b::b'::r,_,_,ha,_,h=>by have e:=congrArg (λx:Str=>x.cps.toList) h;rw[join_list]at e;have e:a.cps.toList=_:=e;exact absurd (by rw[e];simp)<|ha a b7
 |a::a'::r,[b],_,_,_,hb,h=>by have e:=congrArg (λx:Str=>x.cps.toList) h;rw[join_list]at e;have e:_=b.cps.toList:=e;exact absurd (by rw[←e];simp)<|hb b b7
 |a::a'::r,b::b'::r',_,_,ha,hb,h=>by have e:=congrArg (λx:Str=>x.cps.toList) h;rw[join_list,join_list]at e;obtain⟨e1,S⟩:=SJ (ha a b7) (hb b b7) e;have:=QL (ws:=a'::r) (us:=b'::r') (by simp) (by simp) (λw hw=>ha w<|cj _ hw) (λw hw=>hb w<|cj _ hw)<|vx S;rw[vx e1,this]
theorem Zc (x y:Str):Txt.split x y≠[]:=by
 unfold Txt.split;split
 ·simp
 ·split
  ·simp
  ·intro h;have:=congrArg nZ h;rw[PyProof.Rows.len_partsBetween]at this;simp at this
theorem XZ {c:Nat}(h:ws≠[])(hf:∀w∈ws,tE c w):Txt.split (Str.join (eP c) ws) (eP c)=ws :=
 QL (Zc _ _) h (StrLaws.split_free _ c) hf (StrLaws.join_split _ _)
theorem RJ {c:Nat}{b:Nat}(h:ws≠[])(hf:∀w∈ws,tE c w)(hb:∀w∈ws,w.length<=b)(hz:ws.length*b+ws.length<=16777216):se (.str<|Str.join (eP c) ws) (.str<|eP c)=Z (cN ws):=by
 show(if _ then _ else _)=_;rw[XZ h hf,if_pos]
 ·rfl
 ·refine⟨rfl,?_,by lia⟩;have h1:=MG (eP c) ws;have h2:=J3 hb;have:(eP c).length=1:=rfl;rw[this,zS]at h1;lia
theorem J6 (a c:Nat):Ad (.str<|eP a) (.str<|eP c)=Z (.bl<|decide<|a<=c):=by
 show Z (D.bl<|!(decide<|[c] < [a]))=_;have:decide (([c]:List Nat) < [a])=decide (c<a):=by
  by_cases h:c<a
  ·rw[decide_eq_true h];exact decide_eq_true<|show([c]:List Nat) < [a]from List.Lex.rel h
  ·rw[decide_eq_false h,decide_eq_false];intro z;cases z with
   |rel q=>exact h q
   |cons q=>cases q
 rw[this];by_cases h:c<a
 ·rw[decide_eq_true h,decide_eq_false<|by lia];rfl
 ·rw[decide_eq_false h,decide_eq_true<|by lia];rfl
theorem QM (c:Nat):lP [.str<|eP c]=Z (.bl<|decide<|97<=c/\c<=122):=by
 have h1:=J6 97 c;have h2:=J6 c 122;have e1:("a":Str)=eP 97:=by decide +kernel
 have S:("z":Str)=eP 122:=by decide +kernel
 unfold lP;rw[e1,S];by_cases k1:97<=c
 ·by_cases k2:c<=122
  ·rw[decide_eq_true ⟨k1,k2⟩];rw[decide_eq_true k1]at h1;rw[decide_eq_true k2]at h2;clear e1 S k1 k2;walk_at "mid"
  ·rw[decide_eq_false λz=>k2 z.2];rw[decide_eq_true k1]at h1;rw[decide_eq_false k2]at h2;clear e1 S k1 k2;walk_at "mid"
 ·rw[decide_eq_false λz=>k1 z.1];rw[decide_eq_false k1]at h1;clear e1 S k1 h2;walk_at "mid"
theorem QN (c:Nat):lO [.str<|eP c]=Z (.bl<|decide<|48<=c/\c<=57):=by
 have h1:=J6 48 c;have h2:=J6 c 57;have e1:("0":Str)=eP 48:=by decide +kernel
 have S:("9":Str)=eP 57:=by decide +kernel
 unfold lO;rw[e1,S];by_cases k1:48<=c
 ·by_cases k2:c<=57
  ·rw[decide_eq_true ⟨k1,k2⟩];rw[decide_eq_true k1]at h1;rw[decide_eq_true k2]at h2;clear e1 S k1 k2;walk_at "mid"
  ·rw[decide_eq_false λz=>k2 z.2];rw[decide_eq_true k1]at h1;rw[decide_eq_false k2]at h2;clear e1 S k1 k2;walk_at "mid"
 ·rw[decide_eq_false λz=>k1 z.1];rw[decide_eq_false k1]at h1;clear e1 S k1 h2;walk_at "mid"
noncomputable def Oy (c:Nat):Bool:=decide<|97<=c/\c<=122
noncomputable def T8 (c:Nat):Bool:=decide<|48<=c/\c<=57
theorem xt (w:Str):w.cps.toList.length=w.length:=fQ
theorem QO {x:Str}(h:x.length<=16777216):fC [.str x]=dr (x.length:Int):=by show(if x.length<=16777216 then Z (D.int x.length)else C)=_;rw[if_pos h]
theorem tU {w:Str}{c:Nat}{r:List Nat}(h:w.cps.toList=c::r)(hl:w.length<=100):dM (.str w) (.int 0)=Z (.str<|eP c):=by show(if w.length<=16777216 then(atI w.cps.toList 0).bind λc=>Z (D.str ⟨#[c]⟩)else C)=_;rw[if_pos<|by lia,h,show atI (c::r) 0=Z c from ya (xs:=c::r) (j:=0) rfl];rfl
def CH (w:Str):Bool:=match w.cps.toList with
 |[]=>Ã
 |c::r=>decide (r.length<8)&&Oy c&&r.all λc=>Oy c || T8 c
theorem YE {w:Str}(h:CH w=Â):mI [.str w]=Z (.bl Â):=by
 unfold CH at h;cases hw:w.cps.toList with
 |nil=>rw[hw]at h;cases h
 |cons c r=>
  rw[hw]at h;dsimp only at h;rw[c9,c9]at h;obtain⟨⟨h1,h2⟩,h3⟩:=h;have h1:r.length<8:=of_decide_eq_true h1;have hl:=xt w;rw[hw,cz]at hl;have l1:=QO (x:=w) (by lia);have x0:=tU hw (by lia);have t0:=QM c;rw[show decide (97<=c/\c<=122)=Â from h2]at t0;have i1:tT "str" (.str w)=Z (.bl Â):=rfl;have a1:eN lB (Ä nL Å) [Z<|.str w]=Z (.bl Â):=by
   have:nL [Z<|.str w]=dq ((c::r).map λ_=>D.bl Â):=by
    refine yb (λc=>D.str<|eP c) (λ_=>D.bl Â) (c::r) ?_ (by simp;lia) λx hx=>⟨_,rfl,?_⟩
    ·show Z (t7 w)=_;unfold t7;rw[hw];rfl
    ·have k1:=QM x;have k2:=QN x;by_cases q:97<=x/\x<=122
     ·rw[decide_eq_true q]at k1;clear k2 q;walk_at "mid"
     ·rw[decide_eq_false q]at k1;have:48<=x/\x<=57:=by
       rcases cu.mp hx with rfl|hx
       ·exact absurd (of_decide_eq_true h2) q
       ·have:=ej.mp h3 x hx;rw[pB]at this;rcases this with z|z
        ·exact absurd (of_decide_eq_true z) q
        ·exact of_decide_eq_true z
      rw[decide_eq_true this]at k2;clear q this;walk_at "mid"
   unfold eN Ä;rw[this];show lB [.lst<|(c::r).map λ_=>D.bl Â]=_;rw[á];simp
  have c1:¬(w.length:Int)<1:=by lia
  have c2:¬(w.length:Int) > 8:=by lia
  generalize (w.length:Int)=wl at *;unfold mI;generalize eN lB (Ä nL Å)=AA at *;clear h1 h2 h3 hl hw;walk_at "mid"
theorem vz (n:Nat):(ed n).cps.toList=(Nat.toDigits 10 n).map Char.toNat:=by unfold ed;rw[Str.ofString_eq_toList];have:(toString (n:Int):String)=Nat.repr n:=rfl;rw[this];unfold Nat.repr;rw[String.toList_ofList]
theorem ui {n:Nat}{x:Nat}(h:x∈(ed n).cps.toList):48<=x/\x<=57:=by rw[vz]at h;obtain⟨c,hc,rfl⟩:=cX.mp h;have:=Nat.isDigit_of_mem_toDigits (b:=10) (by decide) (by decide) hc;unfold Char.isDigit at this;simp at this;exact⟨this.1,this.2⟩
theorem ji {c n:Nat}(h:c<48):tE c (ed n):=λz=>by have:=ui z;lia
theorem QP:∀(n:Nat),1<=n->∃c r,Nat.toDigits 10 n=c::r/\c≠'0':=by
 intro n;induction n using Nat.strongRecOn with
 |_ n ih=>
  intro h;by_cases IS:n<10
  ·rw[Nat.toDigits_of_lt_base IS];have:∀m,m<10->1<=m->m.digitChar≠'0':=by decide
   exact⟨_,_,rfl,this n IS h⟩
  ·rw[Nat.toDigits_of_base_le (by decide)<|by lia];obtain⟨c,r,e,hc⟩:=ih (n/10) (by lia) (by lia);rw[e];exact⟨c,_,rfl,hc⟩
theorem xy {n:Nat}(h:n<10000000000):(ed n).length<=10:=by rw[←xt,vz,ck];exact(uZ (by decide)<|by decide).mpr (by lia)
theorem MH:ed ((0:Nat):Int) = "0":=by decide +kernel
theorem JF {n:Nat}(h:n<10000000000):jE [.str<|ed n]=Z (.bl Â):=by
 have hl:=xy h;have l1:=QO (x:=ed n) (by lia);have BG:1<=(ed n).length:=by rw[←xt,vz,ck];exact Nat.length_toDigits_pos
 have a1:eN lB (Ä ke Å) [Z<|.str<|ed n]=Z (.bl Â):=by
  have:ke [Z<|.str<|ed n]=dq ((ed n).cps.toList.map λ_=>D.bl Â):=by refine yb (λc=>D.str<|eP c) (λ_=>D.bl Â) _ rfl (by rw[xt];lia) λx hx=>⟨_,rfl,?_⟩;have k2:=QN x;rw[decide_eq_true<|ui hx]at k2;clear hx l1;walk_at "mid"
  unfold eN Ä;rw[this];show lB [.lst<|(ed n).cps.toList.map λ_=>D.bl Â]=_;rw[á];simp
 have c1:¬((ed n).length:Int)<1:=by lia
 have c2:¬((ed n).length:Int) > 15:=by lia
 by_cases h0:n=0
 ·subst h0;rw[MH]at *;have e1:gb Ã (.str "0") (.str "0")=Z (.bl Â):=(yn (zy _)<|zy _).trans (by simp);generalize (("0":Str).length:Int)=wl at *;unfold jE;generalize eN lB (Ä ke Å)=AA at *;clear hl BG h;walk_at "mid"
 ·obtain⟨c,r,e,hc⟩:=QP n (by lia);have hw:(ed n).cps.toList=c.toNat::r.map Char.toNat:=by rw[vz,e];rfl
  have x0:=tU hw (by lia);have ne:¬eP c.toNat = "0":=λz=>by
   have z:eP c.toNat=eP 48:=z.trans (by decide +kernel);have z:c.toNat=48:=by simpa[eP]using z
   exact hc<|Char.ext<|UInt32.toNat_inj.mp z
  have S:gb Â (.str<|eP c.toNat) (.str "0")=Z (.bl Â):=by
   have hk:df.strOk (eP c.toNat)=Â:=by have:=ui (n:=n) (x:=c.toNat) (by rw[hw];exact b7);unfold df.strOk eP;simp;lia
   rw[yn hk<|zy _,decide_eq_false ne];rfl
  obtain⟨bb,e1⟩:∃bb,gb Ã (.str<|ed n) (.str "0")=Z (.bl bb):=⟨_,yn (Er _)<|zy _⟩;generalize ((ed n).length:Int)=wl at *;generalize ed n=w at *;unfold jE;generalize eN lB (Ä ke Å)=AA at *;clear hl BG h h0 e hc hw ne;cases bb
  ·walk_at "mid"
  ·walk_at "mid"
theorem J7 {n:Nat}(h:n<10000000000):tS [.str<|ed n]=dr (n:Int):=by show(if(ed n).length<=640 then(PySem.intText? (ed n)).bind λi=>Z (D.int i)else C)=_;have:=xy h;rw[if_pos<|by lia,show PySem.intText? (ed n)=Z (n:Int)from PySem.W.KIN.num_reads (by lia) (by lia)];rfl
theorem P6 (hl:ws.length<=1000)(h:∀w∈ws,jE [.str w]=Z (.bl Â)):ka [cN ws]=Z (.bl Â):=by
 have a1:eN lB (Ä kl Å) [Z<|cN ws]=Z (.bl Â):=by
  have:kl [Z<|cN ws]=dq (ws.map λ_=>D.bl Â):=by refine yb D.str (λ_=>D.bl Â) ws rfl (by lia) λw hw=>⟨_,rfl,?_⟩;have:=h w hw;clear h;walk_at "mid"
  unfold eN Ä;rw[this];show lB [.lst<|ws.map λ_=>D.bl Â]=_;rw[á];simp
 generalize cN ws=L' at *;unfold ka;generalize eN lB (Ä kl Å)=AA at *;clear h hl;walk_at "mid"
def t9:Kd->Str
 |.ride=>"ride" |.wait=>"wait" |.back=>"back"
theorem Iv (k:Kd):df.strOk (t9 k)=Â:=by cases k<;>exact zy _
theorem Nr (neg:Bool)(k j:Kd):gb neg (.str<|t9 k) (.str<|t9 j)=Z (.bl<|if neg then !decide (k=j)else decide (k=j)):=by
 rw[yn (Iv k)<|Iv j];have:decide (t9 k=t9 j)=decide (k=j):=by cases k<;>cases j<;>decide
 rw[this]
theorem Zd (k:Kd):gb Ã (.str<|t9 k) (.str "line")=Z (.bl Ã):=by
 rw[yn (Iv k)<|zy _];have:¬t9 k = "line":=by cases k<;>decide +kernel
 rw[decide_eq_false this];rfl
theorem MI (k:Kd):gb Ã (.str "line") (.str<|t9 k)=Z (.bl Ã):=by
 rw[yn (zy _)<|Iv k];have:¬"line"=t9 k:=by cases k<;>decide +kernel
 rw[decide_eq_false this];rfl
structure mN (mo:List Str):Prop where
 nd:mo.Nodup
 ok:∀x∈mo,CH x=Â
 le:mo.length<=40
theorem v4 {w:Str}(h:CH w=Â):1<=w.length/\w.length<=8:=by
 unfold CH at h;rw[←xt];cases hw:w.cps.toList with
 |nil=>rw[hw]at h;cases h
 |cons c r=>rw[hw]at h;dsimp only at h;rw[c9,c9]at h;have:=of_decide_eq_true h.1.1;rw[cz];lia
theorem SK {w:Str}(h:CH w=Â){x:Nat}(hx:x∈w.cps.toList):48<=x/\x<=122:=by
 unfold CH at h;cases hw:w.cps.toList with
 |nil=>rw[hw]at hx;cases hx
 |cons c r=>
  rw[hw]at h hx;dsimp only at h;rw[c9,c9]at h;rcases cu.mp hx with rfl|hx
  ·have:=of_decide_eq_true (p:=97<=x/\x<=122) h.1.2;lia
  ·have:=ej.mp h.2 x hx;rw[pB]at this;rcases this with z|z
   ·have:=of_decide_eq_true (p:=97<=x/\x<=122) z;lia
   ·have:=of_decide_eq_true (p:=48<=x/\x<=57) z;lia
theorem Ie {w:Str}(h:CH w=Â){c:Nat}(hc:c<48):tE c w:=λz=>by have:=SK h z;lia
theorem Nt {w:Str}(h:CH w=Â):df.strOk w=Â:=by unfold df.strOk;rw[←AO,ej];intro x hx;have:=SK h hx;rw[decide_eq_true_iff];lia
noncomputable def dB (mo:List Str)(i:Nat):Str:=mo.getD i ""
theorem xu {i:Nat}(h:i<mo.length):dB mo i∈mo:=by unfold dB;rw[fR,cC h];exact sO h
theorem J9 {i:Nat}(h:i<mo.length):dM (cN mo) (.int i)=Z (.str<|dB mo i):=ya (by unfold dB;rw[cP,cC h,fR,cC h];rfl)
theorem MZ (ws:List Str):(ws.map D.str).all D.sc=Â:=by rw[mJ];exact ej.mpr λx _=>rfl
theorem JG (nd:mo.Nodup){i:Nat}(h:i<mo.length):rH (cN mo) (.str<|dB mo i)=dr (i:Int):=by
 have hf:(mo.map D.str).findIdx? (λy=>Cy y<|.str<|dB mo i)=Z i:=by
  rw[AV];have e:dB mo i=mo[i]:=by unfold dB;rw[fR,cC h];rfl
  rw[e,kN];refine⟨h,?_,λj hj=>?_⟩
  ·show(mo[i]==mo[i])=Â;exact beq_self_eq_true _
  ·have UG:j<mo.length:=by lia
   have:mo[j]≠mo[i]:=λz=>by have:=(oN (xs:=mo) (h₀:=UG) (h₁:=h) nd).mp z;lia
   show¬(mo[j]==mo[i])=Â;rw[beq_iff_eq];exact this
 show(if _ then _ else _)=_;rw[if_pos ⟨rfl,MZ mo⟩,hf];rfl
theorem RL {x:Str}(h:x∈mo):é Â (.str x) (cN mo)=Z (.bl Ã):=by
 have hi:Ac (.str x) (mo.map D.str)=Â:=by unfold Ac;rw[rT,Bn];exact⟨x,h,beq_self_eq_true x⟩
 show(if _ then _ else _)=_;rw[if_pos ⟨rfl,MZ mo⟩,hi];rfl
theorem ZF {told:List Str}(h:∀x∈told,x∈mo):gE [cN told,cN mo]=Z .non:=by
 obtain⟨ρ',h1,x2,rfl⟩:=jr (g:=gV 2) (b:=iP) (O:=told.map D.str) (Y:=[Z<|cN told,Z<|cN mo,C])
  (λ_ Y=>∃x2:Option D,Y=[Z<|cN told,Z<|cN mo,x2]) ⟨C,rfl⟩ (by rintro pre d post Y e ⟨x2,rfl⟩;have hx:=Nj e;rw[cP]at hx;obtain⟨x,C6,rfl⟩:=fO.mp hx;have n1:=RL<|h x<|dJ.mpr ⟨_,C6⟩;refine⟨_,_,rfl,.inl ?_,Z<|.str x,rfl⟩;generalize cN told=T,cN mo=N at *;unfold iP;clear h hx C6 e;walk_at "mid")
 have ls:Ù (L 0) [Z<|cN told,Z<|cN mo,C]=Z (told.map D.str):=rfl;generalize cN told=T,cN mo=N at *;unfold gE Ô Ñ;show((Û (Ù<|L 0) (gV 2) iP) [Z T,Z N,C]).bind _=_;unfold Û;rw[ls,d8,h1];rfl
structure Wr (n:Nat)(a:gR):Prop where
 s:a.s<n
 g:a.g<n
 t0:0<=a.t
 t1:a.t<=1000000000
 b:a.b<=4
 r:a.c=.ride->a.b=0
def rM (mo:List Str)(a:gR):List Str:=[t9 a.c,dB mo a.s,dB mo a.g,ed a.t]++(if a.c=.ride then[]else[ed a.b])
structure wX (mo ws:List Str)(J:List gR):Prop where
 ne:ws≠[]
 f32:∀w∈ws,tE 32 w
 f10:∀w∈ws,tE 10 w
 wl:∀w∈ws,w.length<=12
 len:ws.length<=40
 form:fG [cN ws]=Z (.bl Â)
 told:∃told,jF [cN ws]=Z (cN told)/\∀x∈told,x∈mo
 arr:gU [cN ws,cN mo]=dq (J.map dD)
theorem Ϩ (k:Kd){c:Nat}(hc:c<48):tE c (t9 k):=λz=>by
 have:∀x∈(t9 k).cps.toList,48<=x:=by cases k<;>decide +kernel
 have:=this c z;lia
theorem ϧ (k:Kd):(t9 k).length=4:=by cases k<;>decide +kernel
theorem ZG (hn:mN mo)(h:Wr mo.length a){w:Str}(hw:w∈rM mo a):(∀c,c<48->tE c w)/\w.length<=12/\df.strOk w=Â:=by
 obtain⟨t,ht⟩:∃t:Nat,a.t=(t:Int):=⟨a.t.toNat,by have:=h.t0;lia⟩;have t1:=h.t1;have hb:=h.b;have n1:=hn.ok _<|xu h.s;have n2:=hn.ok _<|xu h.g;have n1l:=v4 n1;have n2l:=v4 n2;unfold rM at hw;rw[ht]at hw t1;have e4:=xy (n:=t) (by lia);have e5:=xy (n:=a.b) (by lia);rcases cH.mp hw with hw|hw
 ·simp only[cu,dZ,or_false]at hw;rcases hw with rfl|rfl|rfl|rfl
  ·exact⟨λc hc=>Ϩ _ hc,by rw[ϧ];lia,Iv _⟩
  ·exact⟨λc hc=>Ie n1 hc,by lia,Nt n1⟩
  ·exact⟨λc hc=>Ie n2 hc,by lia,Nt n2⟩
  ·exact⟨λc hc=>ji hc,by lia,Er _⟩
 ·by_cases hc:a.c=.ride
  ·rw[if_pos hc]at hw;cases hw
  ·rw[if_neg hc,cw]at hw;subst hw;exact⟨λc hc=>ji hc,by lia,Er _⟩
theorem Ŝ (hn:mN mo)(h:Wr mo.length a):wX mo (rM mo a) [a]:=by
 obtain⟨t,ht⟩:∃t:Nat,a.t=(t:Int):=⟨a.t.toNat,by have:=h.t0;lia⟩;have t1:=h.t1;have hb:=h.b;have k1:=JF (n:=t) (by lia);have k2:=JF (n:=a.b) (by lia);have v1:=J7 (n:=t) (by lia);have v2:=J7 (n:=a.b) (by lia);have d1:=JG hn.nd h.s;have d2:=JG hn.nd h.g;have q1:=Nr Ã a.c .ride;have q2:=Nr Ã a.c .wait;have q3:=Nr Ã a.c .back;have q4:=Zd a.c;rw[if_neg<|by decide,show t9 .ride = "ride" from rfl]at q1;rw[if_neg<|by decide,show t9 .wait = "wait" from rfl]at q2;rw[if_neg<|by decide,show t9 .back = "back" from rfl]at q3;have m1:=xu h.s;have m2:=xu h.g;have mem:=λw hw=>ZG (w:=w) hn h hw;obtain⟨c,s,g,tt,b⟩:=a;dsimp only at *;subst ht;obtain⟨r,hr⟩:∃r,r=if c=.ride then[]else[ed b]:=⟨_,rfl⟩;have ew:rM mo ⟨c,s,g,(t:Int),b⟩=t9 c::dB mo s::dB mo g::ed (t:Int)::r:=by rw[hr];rfl
 have rl:r.length<=1:=by rw[hr];split<;>simp
 rw[ew]at mem ⊢;obtain⟨L',hL⟩:∃L',L'=cN (t9 c::dB mo s::dB mo g::ed (t:Int)::r):=⟨_,rfl⟩;have x0:dM L' (.int 0)=Z (.str<|t9 c):=by rw[hL];exact ya (j:=0) rfl
 have x1:dM L' (.int 1)=Z (.str<|dB mo s):=by rw[hL];exact ya (j:=1) rfl
 have x2:dM L' (.int 2)=Z (.str<|dB mo g):=by rw[hL];exact ya (j:=2) rfl
 have x3:dM L' (.int 3)=Z (.str<|ed t):=by rw[hL];exact ya (j:=3) rfl
 have sl:gG L' (Z 1) (Z 3)=Z (cN [dB mo s,dB mo g]):=by rw[hL];show Z (D.lst<|â _ (Z ((1:Nat):Int))<|Z ((3:Nat):Int))=_;rw[JC];rfl
 have ar:jD [L',cN mo]=Z (dD ⟨c,s,g,(t:Int),b⟩)/\fG [L']=Z (.bl Â):=by
  by_cases hc:c=.ride
  ·subst hc;have IW:=h.r rfl;dsimp only at IW;subst IW;have r1:lK 1 [.int s,.int g,.int t]=Z (dD ⟨.ride,s,g,(t:Int),0⟩):=rfl;have ln:fC [L']=dr 4:=by rw[hL,hr];rfl
   rw[decide_eq_true rfl]at q1;generalize cN mo=N,dD ⟨.ride,s,g,(t:Int),0⟩=E at *;clear mem h hn m1 m2 t1 hb q2 q3 q4 sl hL hr ew k2 v2;unfold jD fG;constructor<;>walk_at "mid"
  ·rw[if_neg hc]at hr;have r2:nQ 2 [.int s,.int g,.int t,.int b]=Z (dD ⟨.wait,s,g,(t:Int),b⟩):=rfl;have r3:jZ 3 [.int s,.int g,.int t,.int b]=Z (dD ⟨.back,s,g,(t:Int),b⟩):=rfl;have ln:fC [L']=dr 5:=by rw[hL,hr];rfl
   have x4:dM L' (.int 4)=Z (.str<|ed b):=by rw[hL,hr];exact ya (j:=4) rfl
   have s3:gG L' (Z 3) C=Z (cN [ed t,ed b]):=by rw[hL,hr];show Z (D.lst<|â _ (Z ((3:Nat):Int)) C)=_;rw[vh];rfl
   have nn:=P6 (ws:=[ed t,ed b]) (by simp) λw hw=>by
    simp only[cu,dZ,or_false]at hw;rcases hw with rfl|rfl
    ·exact k1
    ·exact k2
   generalize cN [ed t,ed b]=L3,cN mo=N at *;clear mem h hn m1 m2 t1 hb q4 sl hL hr ew;unfold jD fG;cases c
   ·exact absurd rfl hc
   ·rw[decide_eq_false hc]at q1;rw[decide_eq_true rfl]at q2;generalize dD ⟨.wait,s,g,(t:Int),b⟩=E at *;clear r3 q3 hc;constructor<;>walk_at "mid"
   ·rw[decide_eq_false hc]at q1;rw[decide_eq_false<|by decide]at q2;rw[decide_eq_true rfl]at q3;generalize dD ⟨.back,s,g,(t:Int),b⟩=E at *;clear r2 hc;constructor<;>walk_at "mid"
 refine⟨by simp,λw hw=>(mem w hw).1 32<|by decide,λw hw=>(mem w hw).1 10<|by decide,λw hw=>(mem w hw).2.1,by simp;lia,hL▸ar.2,⟨[dB mo s,dB mo g],?_,?_⟩,?_⟩
 ·rw[←hL];clear mem h hn m1 m2 hL ew hr k1 k2 v1 v2 d1 d2 q1 q2 q3 x1 x2 x3 ar;unfold jF;walk_at "mid"
 ·intro x hx;simp only[cu,dZ,or_false]at hx;rcases hx with rfl|rfl
  ·exact m1
  ·exact m2
 ·rw[←hL];have ar:=ar.1;show _=Z (D.lst [dD ⟨c,s,g,(t:Int),b⟩]);generalize dD ⟨c,s,g,(t:Int),b⟩=ea,cN mo=N at *;clear mem h hn m1 m2 hL ew hr k1 k2 v1 v2 d1 d2 q1 q2 q3 x1 x2 x3;unfold gU;walk_at "mid"
def B8:List (Nat×Nat)->List (Nat×Nat×Nat)
 |p::q::r=>(p.1,q.1,p.2)::B8 (q::r)
 |_=>[]
noncomputable def Fb (x:Nat×Nat×Nat):gR:=⟨.ride,x.1,x.2.1,(x.2.2:Int),0⟩
def CG (ez:Nat)(p:Nat×Nat)(sts:List<|Nat×Nat):List gR:=(B8 (p::sts)).map Fb++[⟨.back,((p::sts).getLast<|by simp).1,p.1,(((p::sts).getLast<|by simp).2:Int),ez⟩]
def Ae (mo:List Str)(sts:List<|Nat×Nat):List Str:=sts.flatMap λp=>[dB mo p.1,ed p.2]
def qB (mo:List Str)(ez:Nat)(sts:List<|Nat×Nat):List Str:="line"::ed (ez:Int)::Ae mo sts
theorem Tb (mo:List Str):∀sts:List (Nat×Nat),every2 (Ae mo sts)=sts.map λp=>dB mo p.1
 |[]=>rfl
 |p::sts=>congrArg (dB mo p.1::·)<|Tb mo sts
theorem Tc (mo:List Str):∀sts:List (Nat×Nat),every2 ((Ae mo sts).drop 1)=sts.map λp=>ed p.2
 |[]=>rfl
 |[p]=>rfl
 |p::q::sts=>by show every2 (ed (p.2:Int)::dB mo q.1::(Ae mo (q::sts)).drop 1)=_;show ed (p.2:Int)::every2 ((Ae mo (q::sts)).drop 1)=_;rw[Tc mo (q::sts)];rfl
theorem RM (mo:List Str):∀sts:List (Nat×Nat),(Ae mo sts).length=2*sts.length
 |[]=>rfl
 |p::sts=>by show(Ae mo sts).length+1+1=_;rw[RM mo sts,cz];lia
theorem RN:∀sts:List (Nat×Nat),lT (sts.map λp=>D.int p.1) ((sts.map λp=>D.int p.1).drop 1) (sts.map λp=>D.int p.2)=(B8 sts).map λx=>D.tup [.int x.1,.int x.2.1,.int x.2.2]
 |[]=>rfl
 |[p]=>rfl
 |p::q::r=>by show D.tup _::lT ((q::r).map λp=>D.int p.1) (((q::r).map λp=>D.int p.1).drop 1) ((q::r).map λp=>D.int p.2)=_;rw[RN (q::r)];rfl
theorem M0:∀sts:List (Nat×Nat),(B8 sts).length<=sts.length
 |[]=>fI _
 |[p]=>fI _
 |p::q::r=>by have:=M0 (q::r);show(B8 (q::r)).length+1<=_;simp only[cz]at this ⊢;lia
theorem QQ (f:α->D)(x:α)(xs:List α):dM (.lst<|(x::xs).map f) (.int<|-1)=Z (f<|(x::xs).getLast<|by simp):=by
 show atI ((x::xs).map f) (-1)=_;unfold atI;have:ò ((x::xs).map f).length (-1)=Z xs.length:=by unfold ò;rw[ck,cz,if_neg<|by lia,if_pos<|by lia];congr 1;lia
 rw[this,d8,cP,List.getLast_eq_getElem];simp
theorem ś {ez:Nat}{p:Nat×Nat}{sts:List (Nat×Nat)}(hn:mN mo)(hc:ez<=4)(hl:sts.length<=15)(hs:∀q∈p::sts,q.1<mo.length/\q.2<=1000000000):wX mo (qB mo ez (p::sts)) (CG ez p sts):=by
 have mem:∀w∈qB mo ez (p::sts),(∀c,c<48->tE c w)/\w.length<=12:=λw hw=>by
  rcases cu.mp hw with rfl|hw
  ·refine⟨λc hc z=>?_,by decide⟩;have:∀x∈("line":Str).cps.toList,48<=x:=by decide +kernel
   have:=this c z;lia
  ·rcases cu.mp hw with rfl|hw
   ·exact⟨λc hc=>ji hc,by have:=xy (n:=ez) (by lia);lia⟩
   ·obtain⟨q,hq,hw⟩:=List.mem_flatMap.mp hw;have hq:=hs q hq;simp only[cu,dZ,or_false]at hw;rcases hw with rfl|rfl
    ·have n1:=hn.ok _<|xu hq.1;have n2:=v4 n1;exact⟨λc hc=>Ie n1 hc,by lia⟩
    ·exact⟨λc hc=>ji hc,by have:=xy (n:=q.2) (by lia);lia⟩
 have iI:(qB mo ez (p::sts)).length=2*sts.length+4:=by show(Ae mo (p::sts)).length+1+1=_;rw[RM,cz];lia
 have ln:fC [cN<|qB mo ez (p::sts)]=Z (.int ((2*sts.length+4:Nat):Int)):=(yk _).trans (by rw[ck,iI]);have x0:dM (cN<|qB mo ez (p::sts)) (.int 0)=Z (.str "line"):=ya (xs:=(qB mo ez (p::sts)).map D.str) (j:=0) rfl;have x1:dM (cN<|qB mo ez (p::sts)) (.int 1)=Z (.str<|ed ez):=ya (xs:=(qB mo ez (p::sts)).map D.str) (j:=1) rfl;have ls:∀r:L3.Env,r[0]?.join=Z (cN<|qB mo ez (p::sts))->Ù (L 0) r=Z ((qB mo ez (p::sts)).map D.str):=λr hr=>by unfold Ù;have:L 0 r=Z (cN<|qB mo ez (p::sts)):=hr;rw[this];rfl
 have S:every2 (((qB mo ez (p::sts)).map D.str).drop 2)=((p::sts).map λq=>dB mo q.1).map D.str:=by show every2 ((Ae mo (p::sts)).map D.str)=_;rw[qh,Tb]
 have e3:every2 (((qB mo ez (p::sts)).map D.str).drop 3)=((p::sts).map λq=>ed q.2).map D.str:=by show every2 (((Ae mo (p::sts)).map D.str).drop 1)=_;rw[←lU,qh,Tc]
 have q1:=MI .ride;have q2:=MI .wait;have q3:=MI .back;rw[show t9 .ride = "ride" from rfl]at q1;rw[show t9 .wait = "wait" from rfl]at q2;rw[show t9 .back = "back" from rfl]at q3;have q4:gb Ã (.str "line") (.str "line")=Z (.bl Â):=(yn (zy _)<|zy _).trans (by simp);refine⟨by unfold qB;simp,λw hw=>(mem w hw).1 32<|by decide,λw hw=>(mem w hw).1 10<|by decide,λw hw=>(mem w hw).2,by lia,?_,⟨(p::sts).map λq=>dB mo q.1,?_,?_⟩,?_⟩
 ·have nn:=P6 (ws:=ed (ez:Int)::(p::sts).map λq=>ed q.2) (by simp;lia) λw hw=>by
   rcases cu.mp hw with rfl|hw
   ·exact JF (by lia)
   ·obtain⟨q,hq,rfl⟩:=cX.mp hw;have:=hs q hq;exact JF (by lia)
  have ad:d9 (.lst [.str<|ed ez]) (.lst<|((p::sts).map λq=>ed q.2).map D.str)=Z (cN (ed (ez:Int)::(p::sts).map λq=>ed q.2)):=x6 (by simp;lia);have ge:((2*sts.length+4:Nat):Int) >= 4:=by lia
  have md:iY (.int ((2*sts.length+4:Nat):Int)) (.int 2)=Z (.int 0):=by rw[vd<|by lia];congr 2;lia
  have l0:DW (cN<|qB mo ez (p::sts))=Z ((qB mo ez (p::sts)).map D.str):=rfl;generalize ((2*sts.length+4:Nat):Int)=wl,cN (ed (ez:Int)::(p::sts).map λq=>ed q.2)=L3,((p::sts).map λq=>ed q.2).map D.str=L2 at *;generalize hw:(qB mo ez (p::sts)).map D.str=W at *;generalize cN (qB mo ez (p::sts))=L',ed ez=ic at *;unfold fG;clear mem ls S hs hn hl hc hw iI;walk_at "mid"
 ·have l0:DW (cN<|qB mo ez (p::sts))=Z ((qB mo ez (p::sts)).map D.str):=rfl;show _=Z (D.lst<|((p::sts).map λq=>dB mo q.1).map D.str);generalize ((p::sts).map λq=>dB mo q.1).map D.str=L2 at *;generalize hw:(qB mo ez (p::sts)).map D.str=W at *;generalize cN (qB mo ez (p::sts))=L' at *;unfold jF;clear mem ls e3 hs hn hl hc hw iI ln q1 q2 q3;walk_at "mid"
 ·intro x hx;obtain⟨q,hq,rfl⟩:=cX.mp hx;exact xu (hs q hq).1
 ·have g3:∀y2 y3 y4:Option D,kz [Z<|cN<|qB mo ez (p::sts),Z<|cN mo,y2,y3,y4]=Z (.lst<|(p::sts).map λq=>D.int q.1):=λy2 y3 y4=>by
   have l0:=ls [Z<|cN<|qB mo ez (p::sts),Z<|cN mo,y2,y3,y4] rfl;refine yb (λq:Nat×Nat=>D.str<|dB mo q.1) _ (p::sts) ?_ (by simp;lia) λq hq=>⟨[Z<|.str<|dB mo q.1,Z<|cN mo],rfl,?_⟩
   ·show(((Ù<|L 0) _).bind λO=>Z<|D.lst<|every2<|O.drop 2).bind DW=_;rw[l0,d8,S,c7];rfl
   ·have:=JG hn.nd (hs q hq).1;generalize cN mo=N at *;clear l0 mem ls;walk_at "mid"
  have g2:∀y2 y3 y4:Option D,ky [Z<|cN<|qB mo ez (p::sts),Z<|cN mo,y2,y3,y4]=Z (.lst<|(p::sts).map λq=>D.int q.2):=λy2 y3 y4=>by
   have l0:=ls [Z<|cN<|qB mo ez (p::sts),Z<|cN mo,y2,y3,y4] rfl;refine yb (λq:Nat×Nat=>D.str<|ed q.2) _ (p::sts) ?_ (by simp;lia) λq hq=>⟨[Z<|.str<|ed q.2],rfl,?_⟩
   ·show(((Ù<|L 0) _).bind λO=>Z<|D.lst<|every2<|O.drop 3).bind DW=_;rw[l0,d8,e3,c7];rfl
   ·have:=J7 (n:=q.2) (by have:=(hs q hq).2;lia);generalize ed q.2=iq at *;clear l0 mem ls;walk_at "mid"
  have g1:kx [Z<|cN<|qB mo ez (p::sts),Z<|cN mo,Z<|.lst<|(p::sts).map λq=>D.int q.1,Z<|.lst<|(p::sts).map λq=>D.int q.2,C]=Z (.lst<|(B8 (p::sts)).map λx=>dD<|Fb x):=by
   refine yb (λx=>D.tup [.int x.1,.int x.2.1,.int x.2.2]) (λx=>dD<|Fb x) (B8 (p::sts)) ?_ (by have:=M0 (p::sts);simp at this ⊢;lia) λx hx=>⟨[Z<|.int x.1,Z<|.int x.2.1,Z<|.int x.2.2],rfl,rfl⟩;have sl:gG (.lst<|(p::sts).map λq=>D.int q.1) (Z 1) C=Z (.lst<|((p::sts).map λq=>D.int q.1).drop 1):=by show Z (D.lst<|â _ (Z ((1:Nat):Int)) C)=_;rw[vh]
   have z:=RN (p::sts);generalize ((p::sts).map λq=>D.int q.1).drop 1=G1 at *;generalize ((p::sts).map λq=>D.int q.1)=W',((p::sts).map λq=>D.int q.2)=T at *;rw[←z];have zb:Cb [.lst W',.lst G1,.lst T]=Z (lT W' G1 T):=rfl;clear z mem ls g3 g2;walk_at "mid"
  have la:=QQ (λq:Nat×Nat=>D.int q.1) p sts;have lb:=QQ (λq:Nat×Nat=>D.int q.2) p sts;have f0:dM (.lst<|(p::sts).map λq=>D.int q.1) (.int 0)=Z (.int p.1):=ya (xs:=(p::sts).map λ(q:Nat×Nat)=>D.int q.1) (j:=0) rfl;have ci:=J7 (n:=ez) (by lia);have r3:∀s g t b:Int,jZ 3 [.int s,.int g,.int t,.int b]=Z (.obj 3 ["start","goal","time","behind"] [.int s,.int g,.int t,.int b]):=λ_ _ _ _=>rfl;have al:jL [cN<|qB mo ez (p::sts),cN mo]=Z (.lst<|(CG ez p sts).map dD):=by
   have ad:∀o:D,d9 (.lst<|(B8 (p::sts)).map λx=>dD<|Fb x) (.lst [o])=Z (.lst<|((B8 (p::sts)).map λx=>dD<|Fb x)++[o]):=λo=>x6 (by have:=M0 (p::sts);simp at this ⊢;lia);have ea:(CG ez p sts).map dD=((B8 (p::sts)).map λx=>dD<|Fb x)++[D.obj 3 ["start","goal","time","behind"] [.int (((p::sts).getLast<|by simp).1:Int),.int p.1,.int (((p::sts).getLast<|by simp).2:Int),.int ez]]:=by unfold CG;rw[dI,c7];rfl
   rw[ea];have g3:=g3 C C C;have g2:=g2 (Z<|.lst<|(p::sts).map λq=>D.int q.1) C C;generalize ((p::sts).map λq=>D.int q.1)=W',((p::sts).map λq=>D.int q.2)=T,((B8 (p::sts)).map λx=>dD<|Fb x)=TR,(((p::sts).getLast<|by simp).1:Int)=z1,(((p::sts).getLast<|by simp).2:Int)=z2,cN (qB mo ez (p::sts))=L',cN mo=N,ed ez=ic at *;unfold jL;generalize kx=Q1,ky=Q2,kz=Q3 at *;clear mem ls hs hn hl hc iI ln q1 q2 q3 S e3 ea q4;walk_at "mid"
  generalize (CG ez p sts).map dD=LA,cN (qB mo ez (p::sts))=L',cN mo=N at *;unfold gU;clear mem ls hs hn hl hc iI ln q1 q2 q3 S e3 g1 g2 g3 la lb f0 ci r3;walk_at "mid"
noncomputable def Bc (isn:Str->Bool):List Str->List Str->Bool
 |_,[]=>Â
 |Ï,x::xs=>isn x&&(!Ï.contains x)&&Bc isn (Ï++[x]) xs
theorem RP (isn:Str->Bool):∀(xs Ï:List Str),Ï.Nodup->(Bc isn Ï xs=Â↔(∀x∈xs,isn x=Â)/\(Ï++xs).Nodup)
 |[],Ï,h=>by simp[Bc,h]
 |x::xs,Ï,h=>by
  unfold Bc;rw[c9,c9];by_cases hx:x∈Ï
  ·have c:(!Ï.contains x)=Ã:=by simp[hx]
   rw[c];constructor
   ·rintro⟨⟨_,z⟩,_⟩;cases z
   ·rintro⟨_,nd⟩;exact absurd rfl<|((dh.mp nd).2.2 x hx x b7)
  ·have c:(!Ï.contains x)=Â:=by simp[hx]
   have nd:(Ï++[x]).Nodup:=dh.mpr ⟨h,by simp,λa ha b hb e=>by rw[cw]at hb;subst hb;subst e;exact hx ha⟩;rw[RP isn xs (Ï++[x]) nd,c,dN,List.singleton_append];constructor
   ·rintro⟨⟨h1,_⟩,h2,h3⟩;exact⟨λy hy=>by
     rcases cu.mp hy with rfl|hy
     ·exact h1
     ·exact h2 y hy,h3⟩
   ·rintro⟨h1,h2⟩;exact⟨⟨h1 x b7,rfl⟩,λy hy=>h1 y<|cj _ hy,h2⟩
def mY (Ï:List Str):D:=.dK (Ï.map Sum.inr)<|Ï.map λ_=>D.bl Â
theorem QR (x:Str):∀Ï:List Str,(oy (Ï.map (Sum.inr:Str->jU)) (Ï.map λ_=>D.bl Â)<|.inr x).isSome=Ï.contains x
 |[]=>rfl
 |y::Ï=>by
  have ih:=QR x Ï;unfold oy at *;rw[cI,cI,gJ,eX];by_cases h:y=x
  ·subst h;simp
  ·have h1:¬(Sum.inr y:jU)=.inr x:=λz=>h (by cases z;rfl);rw[decide_eq_false h1];dsimp only;rw[ih];have h2:¬x=y:=λz=>h z.symm;simp[h2]
theorem Pn (isn:Str->Bool)(d:D):∀(xs Ï:List Str) (y2:Option D),(∀x∈xs,mI [.str x]=Z (.bl<|isn x))->Ï.length+xs.length<=100 ->
  (Bc isn Ï xs=Â/\∃t1 t2,jV (gV 2) eK (xs.map .str) [Z d,Z<|mY Ï,y2]=Z (.nx [Z d,t1,t2]))\/(Bc isn Ï xs=Ã/\jV (gV 2) eK (xs.map .str) [Z d,Z<|mY Ï,y2]=Z (.rt<|.bl Ã))
 |[],Ï,y2,_,_=>.inl ⟨rfl,_,_,rfl⟩
 |x::xs,Ï,y2,hn,hl=>by
  have h1:=hn x b7;have hg:(nD (mY Ï)<|.str x).bind (λr=>Z<|D.bl r.isSome)=Z (.bl<|Ï.contains x):=by show Z (D.bl (oy (Ï.map (Sum.inr:Str->jU)) (Ï.map λ_=>D.bl Â)<|.inr x).isSome)=_;rw[QR]
  have AN:jV (gV 2) eK ((x::xs).map .str) [Z d,Z<|mY Ï,y2]=(eK [Z d,Z<|mY Ï,Z<|.str x]).bind λo=>match o with
    |.nx ρ'=>jV (gV 2) eK (xs.map .str) ρ'
    |.ct ρ'=>jV (gV 2) eK (xs.map .str) ρ'
    |.bk ρ'=>Z<|.nx ρ'
    |.rt d=>Z (.rt d):=rfl
  rw[AN];unfold Bc;cases hi:isn x with
  |false=>
   right;refine⟨rfl,?_⟩
   rw[hi]at h1;have:eK [Z d,Z<|mY Ï,Z<|.str x]=Z (.rt<|.bl Ã):=by unfold eK;clear hg AN hn hl hi;walk_at "mid"
   rw[this];rfl
  |true=>
   rw[hi]at h1;cases hc:Ï.contains x with
   |true=>
    right;refine⟨rfl,?_⟩
    rw[hc]at hg;have:eK [Z d,Z<|mY Ï,Z<|.str x]=Z (.rt<|.bl Ã):=by generalize mY Ï=sd at *;unfold eK;clear AN hn hl hi hc;walk_at "mid"
    rw[this];rfl
   |false=>
    rw[hc]at hg;have put:pQ 1 (L 2) (eC<|.bl Â) [Z d,Z<|mY Ï,Z<|.str x]=Z (.nx [Z d,Z<|mY<|Ï++[x],Z<|.str x]):=by
     have UL:(Sum.inr x:jU)∉Ï.map (Sum.inr:Str->jU):=λz=>by obtain⟨y,hy,e⟩:=cX.mp z;cases e;rw[xN.mpr hy]at hc;cases hc
     have e:jG (Ï.map (Sum.inr:Str->jU)) (Ï.map λ_=>D.bl Â) (.inr x) (.bl Â)=((Ï++[x]).map Sum.inr,(Ï++[x]).map λ_=>D.bl Â):=by unfold jG;rw[if_neg<|by simpa using UL,dI,dI];rfl
     show(if(Ï.map (Sum.inr:Str->jU)).length<16777216 then Z (ð.nx [Z d,Z<|.dK (jG (Ï.map (Sum.inr:Str->jU)) (Ï.map λ_=>D.bl Â) (.inr x)<|.bl Â).1 (jG (Ï.map (Sum.inr:Str->jU)) (Ï.map λ_=>D.bl Â) (.inr x)<|.bl Â).2,Z<|.str x])else C)=_;rw[if_pos<|by rw[ck];lia,e];rfl
    have:eK [Z d,Z<|mY Ï,Z<|.str x]=Z (.nx [Z d,Z<|mY<|Ï++[x],Z<|.str x]):=by generalize mY (Ï++[x])=sd2,mY Ï=sd at *;unfold eK;generalize pQ 1 (L 2) (eC<|.bl Â)=PD at *;clear AN hn hl hi hc;walk_at "mid"
    rw[this];exact Pn isn d xs (Ï++[x]) _ (λy hy=>hn y<|cj _ hy) (by rw[cM];simp at hl ⊢;lia)
theorem X0 (isn:Str->Bool)(xs:List Str)(hn:∀x∈xs,mI [.str x]=Z (.bl<|isn x))(hl:xs.length<=100):hU [.lst<|xs.map .str]=Z (.bl<|decide (1<=xs.length/\xs.length<=40)&&Bc isn [] xs):=by
 have i1:tT "list" (.lst<|xs.map D.str)=Z (.bl Â):=rfl;have l1:fC [.lst<|xs.map D.str]=dr (xs.length:Int):=(yk _).trans (by rw[ck]);by_cases h:1<=xs.length/\xs.length<=40
 ·have a1:¬(xs.length:Int)<1:=by lia
  have a2:¬(xs.length:Int) > 40:=by lia
  rw[decide_eq_true h,DG];have e0:mY []=.dK [] []:=rfl;rcases Pn isn (.lst<|xs.map .str) xs [] C hn (by simpa using hl)with⟨h1,t1,t2,h2⟩|⟨h1,h2⟩
  ·rw[h1];rw[e0]at h2;generalize xs.map D.str=v at *;unfold hU;simp -implicitDefEqProofs [Ô,Ñ,Æ,Ò,É,Ì,Û,Ù,je,Ë,L,eC,e1,S,eN,Å,Ä,tb,ă,Ú,ã,l1,i1,ub,vo,a1,a2,h2]
  ·rw[h1];rw[e0]at h2;generalize xs.map D.str=v at *;unfold hU;simp -implicitDefEqProofs [Ô,Ñ,Æ,Ò,É,Ì,Û,Ù,je,Ë,L,eC,e1,S,eN,Å,Ä,tb,ă,Ú,ã,l1,i1,ub,vo,a1,a2,h2]
 ·rw[decide_eq_false h,CJ];generalize xs.map D.str=v at *;have a1:(xs.length:Int)<1\/(¬(xs.length:Int)<1/\(xs.length:Int) > 40):=by lia
  unfold hU;rcases a1 with a1|⟨a1,a2⟩
  ·simp -implicitDefEqProofs [Ô,Ñ,Æ,Ò,É,Ì,Û,Ù,je,Ë,L,eC,e1,S,eN,Å,Ä,tb,ă,Ú,ã,l1,i1,ub,vo,a1]
  ·simp -implicitDefEqProofs [Ô,Ñ,Æ,Ò,É,Ì,Û,Ù,je,Ë,L,eC,e1,S,eN,Å,Ä,tb,ă,Ú,ã,l1,i1,ub,vo,a1,a2]
theorem Jt (c:Nat):(eP c).length=1:=rfl
theorem F9 {t:Int}(h0:0<=t)(h1:t<=1000000000):nX [.int t]=Z (.str<|ed t):=by
 show(if t.natAbs.log2<1920 then _ else _)=_;rw[if_pos];have:=Nat.log2_le_self t.natAbs;by_cases hz:t.natAbs=0
 ·rw[hz];decide
 ·rw[qE hz];refine nz (m:=2 ^ 30) (by lia) ?_;exact Nat.pow_lt_pow_right (by decide) (by decide)
theorem Ś {c:Nat}(hc:c<48):tE c ("goings":Str):=λz=>by
 have:∀x∈("goings":Str).cps.toList,48<=x:=by decide +kernel
 have:=this c z;lia
theorem Nu (hn:mN mo){w:Str}(hw:w∈(("goings":Str)::mo)):(∀c,c<48->tE c w)/\w.length<=12/\df.strOk w=Â:=by
 rcases cu.mp hw with rfl|hw
 ·exact⟨λc hc=>Ś hc,by decide,zy _⟩
 ·have:=v4<|hn.ok w hw;exact⟨λc hc=>Ie (hn.ok w hw) hc,by lia,Nt<|hn.ok w hw⟩
theorem P7 {b:Nat}(h:∀w∈ws,w.length<=b)(c:Nat):(Str.join (eP c) ws).length<=ws.length*b+ws.length:=by have h1:=MG (eP c) ws;have h2:=J3 h;have:(eP c).length=1:=rfl;rw[this,zS]at h1;lia
theorem QS (hn:mN mo)(h1:mo≠[]):hU [cN mo]=Z (.bl Â):=by have rG:=hn.le;have hp:1<=mo.length:=mF.mpr h1;show hU [.lst<|mo.map .str]=_;rw[X0 (λ_=>Â) mo (λx hx=>YE<|hn.ok x hx)<|by lia,decide_eq_true ⟨hp,rG⟩,DG,(RP _ _ [] dC).mpr ⟨λ_ _=>rfl,by rw[Ci];exact hn.nd⟩]
def KW (mo:List Str):Str:=Str.join (eP 32) ("goings"::mo)
variable {J:List gR}{gs:L3.Env->Option (List D)}{nt pt tl:D}
noncomputable def dk (nt tl pt:D)(n:Int):D:=.obj 6 ["net","table","puts","answered"] [nt,tl,pt,.int n]
theorem yQ:lJ 6 []=Z (dk .non .non (.lst []) 0):=by unfold lJ;rfl
section
variable {d:D}{n:Int}{r:L3.Env}{f:EF}
theorem RQ (h:f (Z (dk nt tl pt n)::r)=Z d):lS 0 [5,6] "net" f (Z (dk nt tl pt n)::r)=Z (.nx (Z (dk d tl pt n)::r)):=by unfold lS;rw[h];rfl
theorem P8 (h:f (Z (dk nt tl pt n)::r)=Z d):lS 0 [6] "table" f (Z (dk nt tl pt n)::r)=Z (.nx (Z (dk nt d pt n)::r)):=by unfold lS;rw[h];rfl
theorem ZH (h:f (Z (dk nt tl pt n)::r)=Z d):lS 0 [6] "puts" f (Z (dk nt tl pt n)::r)=Z (.nx (Z (dk nt tl d n)::r)):=by unfold lS;rw[h];rfl
theorem Ϧ:Ak 0 [6] "answered" (eC<|.int 1) (Z (dk nt tl pt n)::r)=Z (.nx (Z (dk nt tl pt<|n+1)::r)):=rfl
end
theorem ř {bs:List gR}{n:Int}(ok:rE mo.length bs)(hn:mN mo)(h1:mo≠[]):iw [dk (de (mo.map .str) J) tl pt n,.lst<|bs.map dD]=Z (.tup [.str "ok",dk (de (mo.map .str) bs) .non pt n]):=by have nt:=SZ (ns:=mo.map .str) ok (by rw[ck])<|QS hn h1;have f1:dX [4] "names" (de (mo.map .str) J)=dq (mo.map .str):=rfl;have f2:dX [5,6] "net" (dk (de (mo.map .str) J) tl pt n)=Z (de (mo.map .str) J):=rfl;generalize de (mo.map .str) J=n1,de (mo.map .str) bs=n2 at *;generalize mo.map D.str=N,bs.map dD=B at *;have p1:=RQ (f:=cl (fZ 4)<|Ä (e1 (dX [4] "names")<|e1 (dX [5,6] "net")<|L 0)<|Ä (L 1) Å) (nt:=n1) (tl:=tl) (pt:=pt) (n:=n) (r:=[dq B]) (d:=n2) (by clear ok hn h1;walk_at "mid");have p2:=P8 (f:=eC .non) (nt:=n2) (tl:=tl) (pt:=pt) (n:=n) (r:=[dq B]) (d:=.non) rfl;unfold iw;clear ok hn h1 nt f1 f2;generalize (cl (fZ 4)<|Ä (e1 (dX [4] "names")<|e1 (dX [5,6] "net")<|L 0)<|Ä (L 1) Å)=FN at *;generalize lS 0 [5,6] "net" FN=S1,lS 0 [6] "table" (eC .non)=S2 at *;walk_at "mid"
theorem YF {n:Int}(hn:mN mo)(h1:mo≠[]):kd [dk nt tl pt n,cN ("goings"::mo)]=Z (.tup [.str "ok",dk (de (mo.map .str) []) .non (.lst []) n]):=by
 have nw:=SZ (ns:=mo.map .str) (J:=[]) ⟨mF.mpr h1,hn.le,by simp,nofun,id,nofun⟩ (by rw[ck])<|QS hn h1;have s1:gG (cN ("goings"::mo)) (Z 1) C=dq (mo.map .str):=by show Z (D.lst<|â _ (Z ((1:Nat):Int)) C)=_;rw[vh];rfl
 replace nw:fZ 4 [.lst<|mo.map .str,.lst []]=Z (de (mo.map .str) []):=nw;generalize de (mo.map .str) []=n2 at *;generalize mo.map D.str=N,cN ("goings"::mo)=L' at *;have p1:=RQ (f:=cl (fZ 4)<|Ä (λY=>((L 1) Y).bind λd=>((ß<|eC<|.int 1) Y).bind λl=>(ñ Y).bind λh=>gG d l h)<|Ä (λY=>(Å Y).bind λO=>(dq O)) Å) (nt:=nt) (tl:=tl) (pt:=pt) (n:=n) (r:=[Z L']) (d:=n2) (by clear hn h1;walk_at "mid");have p2:=P8 (f:=eC .non) (nt:=n2) (tl:=tl) (pt:=pt) (n:=n) (r:=[Z L']) (d:=.non) rfl;have p3:=ZH (f:=λY=>(Å Y).bind λO=>(dq O)) (nt:=n2) (tl:=.non) (pt:=pt) (n:=n) (r:=[Z L']) (d:=.lst []) rfl;unfold kd;clear hn h1 nw s1;generalize (cl (fZ 4)<|Ä (λY=>((L 1) Y).bind λd=>((ß<|eC<|.int 1) Y).bind λl=>(ñ Y).bind λh=>gG d l h)<|Ä (λY=>(Å Y).bind λO=>(dq O)) Å)=FN at *;generalize lS 0 [5,6] "net" FN=S1,lS 0 [6] "table" (eC .non)=S2,lS 0 [6] "puts" (λY=>(Å Y).bind λO=>(dq O))=S3 at *;walk_at "mid"
section
variable {bs:List gR}{n:Int}
theorem Ř {r:L3.Env}(ok:rE mo.length bs)(hn:mN mo)(h1:mo≠[])(h:gs (Z (dk (de (mo.map .str) J) tl pt n)::r)=Z [.lst<|bs.map dD]):qG 0 gs iw (Z (dk (de (mo.map .str) J) tl pt n)::r)=Z (.str "ok",Z (dk (de (mo.map .str) bs) .non pt n)::r):=by unfold qG;rw[h];show(if iQ (dk (de (mo.map .str) J) tl pt n)=Â then(iw [dk (de (mo.map .str) J) tl pt n,.lst<|bs.map dD]).bind _ else C)=_;rw[ř ok hn h1];rfl
theorem YG (ok:rE mo.length<|J++bs)(hn:mN mo)(h1:mo≠[])(hr:wX mo ws bs):f6 [dk (de (mo.map .str) J) tl pt n,cN ws]=Z (.tup [.str "ok",dk (de (mo.map .str)<|J++bs) .non pt n]):=by
 have f1:dX [4] "names" (de (mo.map .str) J)=Z (cN mo):=rfl;have f3:dX [4] "arrows" (de (mo.map .str) J)=dq (J.map dD):=rfl;have f2:dX [5,6] "net" (dk (de (mo.map .str) J) tl pt n)=Z (de (mo.map .str) J):=rfl;have ar:=hr.arr;have ad:d9 (.lst<|J.map dD) (.lst<|bs.map dD)=dq ((J++bs).map dD):=by rw[dI];refine x6 ?_;have:=ok.len;rw[cM]at this;simp only[ck];lia
 have M:=Ř (J:=J) (tl:=tl) (pt:=pt) (n:=n) (gs:=Ä (S d9 (e1 (dX [4] "arrows")<|e1 (dX [5,6] "net")<|L 0)<|cl gU<|Ä (L 1)<|Ä (e1 (dX [4] "names")<|e1 (dX [5,6] "net")<|L 0) Å) Å) (r:=[Z<|cN ws]) ok hn h1 (by generalize de (mo.map .str) J=n1 at *;generalize dk n1 tl pt n=d1,J.map dD=A,bs.map dD=B,(J++bs).map dD=AB,cN mo=N,cN ws=W at *;clear ok hn h1 hr;walk_at "mid");unfold f6;generalize qG 0 _ iw=CF,de (mo.map .str) J=n1,de (mo.map .str) (J++bs)=n2 at *;generalize dk n1 tl pt n=d1,dk n2 .non pt n=d2 at *;clear ok hn h1 hr f1 f2 f3 ar ad;walk_at "mid"
end
variable {w0:Str}
noncomputable abbrev CP:=Option<|Int×Int
def wD:CP->D
 |none=>.non
 |some (l,h)=>.kt [.int l,.int h]
def ĉ (p:Str×CP):Prop:=p.2=C
theorem ZI {p:Str×CP}(h:ĉ p):kU [.str p.1,wD p.2]=Z (.bl Â):=by have h:p.2=C:=h;rw[h];have i1:pN Ã .non .non=Z (.bl Â):=rfl;show kU [.str p.1,.non]=_;unfold kU;clear h;walk_at "mid"
theorem P9 {α:Type}(f g:α->D):∀xs:List α,sX (xs.map f) (xs.map g)=xs.map λx=>.tup [f x,g x]
 |[]=>rfl
 |x::xs=>congrArg (D.tup [f x,g x]::·)<|P9 f g xs
section
variable {ps:List (Str×CP)}
def oF (w0:Str)(ps:List<|Str×CP):List Str:=w0::ps.map (·.1)
theorem RT:gG (cN<|oF w0 ps) (Z 1) C=dq (ps.map λp=>.str p.1):=by show Z (D.lst<|â _ (Z ((1:Nat):Int)) C)=_;rw[vh];show Z (D.lst<|(ps.map (·.1)).map D.str)=_;rw[c7];rfl
theorem Fw {r:List Str}:dM (cN (w0::r)) (.int 0)=Z (.str w0):=ya (xs:=(w0::r).map D.str) (j:=0) rfl
theorem QT:DD [.lst<|ps.map λp=>.str p.1,.kt<|ps.map λp=>wD p.2]=Z (ps.map λp=>.tup [.str p.1,wD p.2]):=congrArg Z<|P9 _ _ ps
theorem ŗ (hk:EY yo (.str w0)=Z (.kt<|ps.map λp=>wD p.2))(hl:ps.length<=100)(hf:∀p∈ps,ĉ p):mU [cN<|oF w0 ps]=Z (.bl Â):=by
 have x0:dM (cN<|oF w0 ps) (.int 0)=Z (.str w0):=Fw;have sl:=RT (w0:=w0) (ps:=ps);have zf:=QT (ps:=ps);have a1:eN lB (Ä mC Å) [Z<|cN<|oF w0 ps,Z<|.kt<|ps.map λp=>wD p.2]=Z (.bl Â):=by
  have:mC [Z<|cN<|oF w0 ps,Z<|.kt<|ps.map λp=>wD p.2]=dq (ps.map λ_=>D.bl Â):=by
   refine yb (λp:Str×CP=>D.tup [.str p.1,wD p.2]) (λ_=>D.bl Â) ps ?_ (by lia) λp hp=>⟨_,rfl,?_⟩
   ·generalize (ps.map λp=>D.tup [.str p.1,wD p.2])=R at *;generalize (ps.map λp=>D.str p.1)=R1,D.kt (ps.map λp=>wD p.2)=R2,cN (oF w0 ps)=L' at *;clear hf hl hk x0;walk_at "mid"
   ·have:=ZI<|hf p hp;generalize wD p.2=K' at *;clear hf hl hk zf sl;walk_at "mid"
  unfold eN Ä;rw[this];show lB [.lst<|ps.map λ_=>D.bl Â]=_;rw[á];simp
 have l1:fC [cN<|oF w0 ps]=dr (ps.length+1):=(yk _).trans (by unfold oF;simp);have l2:fC [.kt<|ps.map λp=>wD p.2]=dr (ps.length:Int):=by show Z (D.int (((ps.map λp=>wD p.2).length:Nat):Int))=_;rw[ck]
 unfold mU;generalize eN lB (Ä mC Å)=AA,D.kt (ps.map λp=>wD p.2)=R2,cN (oF w0 ps)=L',(ps.length:Int)=pl at *;clear hf hl sl zf;walk_at "mid"
theorem Ŗ (hk:EY yo (.str w0)=Z (.kt<|ps.map λp=>wD p.2))(hi:tV Ã yo (.str w0)=Z (.bl Â))(hl:ps.length<=100):hZ [cN<|oF w0 ps]=Z (cN<|(ps.filter λp=>p.2.isNone).map (·.1)):=by
 have x0:dM (cN<|oF w0 ps) (.int 0)=Z (.str w0):=Fw;have sl:=RT (w0:=w0) (ps:=ps);have zf:=QT (ps:=ps);have q1:mX [Z<|cN<|oF w0 ps]=Z (cN<|(ps.filter λp=>p.2.isNone).map (·.1)):=by
  unfold cN;rw[c7];refine uh (λp:Str×CP=>D.tup [.str p.1,wD p.2]) (λp=>p.2.isNone) (λp=>D.str p.1) ps ?_ (by lia) λp hp=>⟨_,rfl,?_,λ_=>rfl⟩
  ·generalize (ps.map λp=>D.tup [.str p.1,wD p.2])=R at *;generalize (ps.map λp=>D.str p.1)=R1,D.kt (ps.map λp=>wD p.2)=R2 at *;show _=Z R;have e:D.lst ((oF w0 ps).map D.str)=cN (oF w0 ps):=rfl;rw[e];generalize cN (oF w0 ps)=L' at *;clear hl hi e;walk_at "mid"
  ·obtain⟨w,s⟩:=p;cases s with
   |none=>rfl
   |some q=>rfl
 generalize cN ((ps.filter λp=>p.2.isNone).map (·.1))=R,cN (oF w0 ps)=L' at *;unfold hZ;generalize mX=Q at *;clear hl sl zf hk;walk_at "mid"
end
variable {tbl:D}
section
variable {n:Int}{r:List Str}{ps:List (Str×CP)}
theorem X1 {d:D}:kS [d,cN ("goings"::r)]=Z (.bl Â):=by have x0:dM (cN ("goings"::r)) (.int 0)=Z (.str "goings"):=Fw;have e1:gb Ã (.str "goings") (.str "goings")=Z (.bl Â):=(yn (zy _)<|zy _).trans (by simp);generalize cN ("goings"::r)=L' at *;unfold kS;walk_at "mid"
structure Wd (w0:Str)(g p:Bool):Prop where
 ok:df.strOk w0=Â
 ng:¬w0 = "goings"
 np:¬w0 = "plan"
 pl:é Ã (.str w0) yy=Z (.bl p)
 fo:(yo.lookup w0).isSome=g
theorem Wd.eg {g p:Bool}(h:Wd w0 g p)(neg:Bool):gb neg (.str w0) (.str "goings")=Z (.bl neg):=by rw[yn h.ok<|zy _,decide_eq_false h.ng];cases neg<;>rfl
theorem Wd.ep {g p:Bool}(h:Wd w0 g p):gb Ã (.str w0) (.str "plan")=Z (.bl Ã):=by rw[yn h.ok<|zy _,decide_eq_false h.np];rfl
theorem YH (hw:Wd w0 Ã Ã)(hf:fG [cN (w0::r)]=Z (.bl Â)):kS [dk (de (mo.map .str) J) tbl pt n,cN (w0::r)]=Z (.bl Â):=by
 have x0:dM (cN (w0::r)) (.int 0)=Z (.str w0):=Fw;have eq1:=hw.eg Ã;have eq2:=hw.ep;have eq3:=hw.pl;have k1:tV Â yo (.str w0)=Z (.bl Â):=by show Z (D.bl<|!(yo.lookup w0).isSome)=_;rw[hw.fo];rfl
 have f1:dX [5,6] "net" (dk (de (mo.map .str) J) tbl pt n)=Z (de (mo.map .str) J):=rfl;have f2:pN Ã (de (mo.map .str) J) .non=Z (.bl Ã):=rfl;unfold kS;generalize de (mo.map .str) J=n1 at *;generalize dk n1 tbl pt n=d1,cN (w0::r)=L',yy=WP,tV Â yo=KI at *;clear hw;walk_at "mie"
theorem ZJ (hw:Wd w0 Â Ã)(hf:mU [cN<|oF w0 ps]=Z (.bl Â))(ha:é Â (.str w0) yr=Z (.bl Â)) :
  kS [dk (de (mo.map .str) J) tbl pt n,cN<|oF w0 ps]=Z (.bl Â):=by
 have x0:dM (cN<|oF w0 ps) (.int 0)=Z (.str w0):=Fw;have eq1:=hw.eg Ã;have eq2:=hw.ep;have eq3:=hw.pl;have k1:tV Â yo (.str w0)=Z (.bl Ã):=by show Z (D.bl<|!(yo.lookup w0).isSome)=_;rw[hw.fo];rfl
 have f1:dX [5,6] "net" (dk (de (mo.map .str) J) tbl pt n)=Z (de (mo.map .str) J):=rfl;have f2:pN Ã (de (mo.map .str) J) .non=Z (.bl Ã):=rfl;unfold kS;generalize de (mo.map .str) J=n1 at *;generalize dk n1 tbl pt n=d1,cN (oF w0 ps)=L',yy=WP,yr=WA,tV Â yo=KI at *;clear hw;walk_at "mie"
end
variable {BU B0:D}
section
variable {uV Cu:D}{n:Int}{wr:List Str}
theorem NH {mf:List D->Option D}(hf:∀w∈w0::wr,tE 32 w)(hl:∀w∈w0::wr,w.length<=20)(hz:wr.length<=1000)(hk:df.strOk w0=Â)(ok:kS [dk nt tbl pt n,cN (w0::wr)]=Z (.bl Â))
  (told:w0 = "goings"\/∃(tl mo:List Str) (J:List gR),hZ [cN (w0::wr)]=Z (cN tl)/\(∀x∈tl,x∈mo)/\nt=de (mo.map .str) J) (hd:iS.lookup w0=Z mf) (hm:mf [dk nt tbl pt n,cN (w0::wr)]=Z (.tup [Cu,dk BU uV B0 n])) :
  dY [dk nt tbl pt n,.str<|Str.join (eP 32) (w0::wr)]=Z (.tup [Cu,dk BU uV B0<|n+1]):=by
 have sp:se (.str<|Str.join (eP 32) (w0::wr)) (.str " ")=Z (cN (w0::wr)):=by rw[IF];exact RJ (b:=20) (by simp) hf hl (by simp only[cz];lia)
 have i1:tT "str" (.str<|Str.join (eP 32) (w0::wr))=Z (.bl Â):=rfl;have x0:dM (cN (w0::wr)) (.int 0)=Z (.str w0):=Fw;have ch:(Ò (tb<|S (gb Â) (S dM (L 2)<|eC<|.int 0)<|eC<|.str "goings") (ê<|cl gE<|Ä (cl hZ<|Ä (L 2) Å)<|Ä (e1 (dX [4] "names")<|e1 (dX [5,6] "net")<|L 0) Å) Ë) [Z<|dk nt tbl pt n,Z<|.str<|Str.join (eP 32) (w0::wr),Z<|cN (w0::wr),C]=Z (.nx [Z<|dk nt tbl pt n,Z<|.str<|Str.join (eP 32) (w0::wr),Z<|cN (w0::wr),C]):=by
  have eg:=yn (neg:=true) hk<|zy "goings";by_cases hg:w0 = "goings"
  ·rw[decide_eq_true hg]at eg;generalize cN (w0::wr)=L',Str.join (eP 32) (w0::wr)=J',dk nt tbl pt n=d1 at *;clear hf hl hz told hd hm ok hk hg;walk_at "mid"
  ·rw[decide_eq_false hg]at eg;obtain⟨tl,mo,J,h1,h2,h3⟩:=told.resolve_left hg;have rf:=ZF h2;have f1:dX [5,6] "net" (dk nt tbl pt n)=Z nt:=rfl;have f2:dX [4] "names" nt=Z (cN mo):=by rw[h3];rfl
   generalize cN (w0::wr)=L',Str.join (eP 32) (w0::wr)=J',cN mo=N,cN tl=TL,dk nt tbl pt n=d1 at *;clear hf hl hz told hd hm ok hk hg h2 h3;walk_at "mid"
 have dp:Ö 3 (rY 0 (S dM (L 2)<|eC<|.int 0) (Ä (L 2) Å) iS) [Z<|dk nt tbl pt n,Z<|.str<|Str.join (eP 32) (w0::wr),Z<|cN (w0::wr),C]=Z (.nx [Z<|dk BU uV B0 n,Z<|.str<|Str.join (eP 32) (w0::wr),Z<|cN (w0::wr),Z Cu]):=by
  have cf:rY 0 (S dM (L 2)<|eC<|.int 0) (Ä (L 2) Å) iS [Z<|dk nt tbl pt n,Z<|.str<|Str.join (eP 32) (w0::wr),Z<|cN (w0::wr),C]=Z (Cu,[Z<|dk BU uV B0 n,Z<|.str<|Str.join (eP 32) (w0::wr),Z<|cN (w0::wr),C]):=by have k1:S dM (L 2) (eC<|.int 0) [Z<|dk nt tbl pt n,Z<|.str<|Str.join (eP 32) (w0::wr),Z<|cN (w0::wr),C]=Z (.str w0):=x0;unfold rY;rw[k1];show(iS.lookup w0).bind _=_;rw[hd];show(if iQ (dk nt tbl pt n)=Â then(mf [dk nt tbl pt n,cN (w0::wr)]).bind _ else C)=_;rw[hm];rfl
  unfold Ö;rw[cf];rfl
 have pa:=Ϧ (nt:=BU) (tl:=uV) (pt:=B0) (n:=n) (r:=[Z<|.str<|Str.join (eP 32) (w0::wr),Z<|cN (w0::wr),Z Cu]);unfold dY;generalize (Ò (tb<|S (gb Â) (S dM (L 2)<|eC<|.int 0)<|eC<|.str "goings") (ê<|cl gE<|Ä (cl hZ<|Ä (L 2) Å)<|Ä (e1 (dX [4] "names")<|e1 (dX [5,6] "net")<|L 0) Å) Ë)=S1,Ö 3 (rY 0 (S dM (L 2)<|eC<|.int 0) (Ä (L 2) Å) iS)=S2,Ak 0 [6] "answered" (eC<|.int 1)=S3,cN (w0::wr)=L',Str.join (eP 32) (w0::wr)=J',dk nt tbl pt n=d1,dk BU uV B0 n=d2,dk BU uV B0 (n+1)=d3 at *;clear hf hl hz told hd hm hk x0;walk_at "mid"
theorem IG {i:Nat}{row d:D}(h0:L i Y=Z (dk nt tbl pt n))(h1:gs Y=Z [row])(h2:dY [dk nt tbl pt n,row]=Z (.tup [Cu,d])):ku i 6 "say" gs dY Y=Z (Cu,Y.set i<|Z d):=by unfold ku;rw[h0,h1];show(if 6=6/\(["net","table","puts","answered"]:List Str).contains "say"=Ã then(dY [dk nt tbl pt n,row]).bind _ else C)=_;rw[if_pos ⟨rfl,by decide +kernel⟩,h2];rfl
end
def Hi (x:Option D)(b:Bool):Bool:=match x with
 |some (.bl c)=>c==b
 |_=>Ã
theorem Ig {x:Option D}{b:Bool}(h:Hi x b=Â):x=Z (.bl b):=by
 unfold Hi at h;split at h
 ·rw[eq_of_beq h]
 ·cases h
theorem ŕ:∀w∈(["ride","wait","back","line"]:List Str),Wd w Ã Ã:=by intro w hw;refine⟨?_,?_,?_,Ig ?_,?_⟩<;>revert w<;>decide +kernel
section
variable {n:Int}{bs:List gR}
theorem X2 (hn:mN mo)(h1:mo≠[]):dY [dk nt tbl pt n,.str<|KW mo]=Z (.tup [.str "ok",dk (de (mo.map .str) []) .non (.lst [])<|n+1]) :=
 NH (mf:=kd) (λw hw=>(Nu hn hw).1 32<|by decide) (λw hw=>by have:=(Nu hn hw).2.1;lia) (by have:=hn.le;lia) (zy _) X1 (.inl rfl) rfl (YF hn h1)
theorem YI {wr:List Str}(hn:mN mo)(h1:mo≠[])(h0:w0∈(["ride","wait","back","line"]:List Str))(hr:wX mo (w0::wr) bs)(ok:rE mo.length<|J++bs):dY [dk (de (mo.map .str) J) tbl pt n,.str<|Str.join (eP 32) (w0::wr)]=Z (.tup [.str "ok",dk (de (mo.map .str)<|J++bs) .non pt<|n+1]):=by
 have hw:=ŕ w0 h0;have hl:=hr.len;rw[cz]at hl;obtain⟨tl,t1,t2⟩:=hr.told;have ld:iS.lookup w0=Z f6:=by simp only[cu,dZ,or_false]at h0;rcases h0 with rfl|rfl|rfl|rfl<;>rfl
 refine NH (mf:=f6) hr.f32 (λw hw=>by have:=hr.wl w hw;lia) (by lia) hw.ok (YH hw hr.form) (.inr ⟨tl,mo,J,?_,t2,rfl⟩) ld<|YG ok hn h1 hr;have x0:dM (cN (w0::wr)) (.int 0)=Z (.str w0):=Fw;have k1:tV Ã yo (.str w0)=Z (.bl Ã):=by show Z (D.bl<|(yo.lookup w0).isSome)=_;rw[hw.fo]
 have ep:=hw.ep;unfold hZ;generalize cN (w0::wr)=L',cN tl=TL,tV Ã yo=KI at *;clear hw hr h0 ok hn h1 t2 ld hl;walk_at "mid"
theorem QU {uV Cu:D}{mf:List D->Option D}(hn:mN mo)(hw:Wd w0 Â Ã)(h0:tE 32 w0/\w0.length<=20)(UV:∀w∈ws,w∈mo)(hl:ws.length<=100)(hk:EY yo (.str w0)=Z (.kt<|ws.map λ_=>.non))(ha:é Â (.str w0) yr=Z (.bl Â))
  (hd:iS.lookup w0=Z mf) (hm:mf [dk (de (mo.map .str) J) tbl pt n,cN (w0::ws)]=Z (.tup [Cu,dk BU uV B0 n])) :
  dY [dk (de (mo.map .str) J) tbl pt n,.str<|Str.join (eP 32) (w0::ws)]=Z (.tup [Cu,dk BU uV B0<|n+1]):=by
 obtain⟨ps,rfl,hp⟩:∃ps:List (Str×CP),ws=ps.map (·.1)/\∀p∈ps,p.2=C:=⟨ws.map λw=>(w,C),by rw[c7];exact(List.map_id _).symm,λp hp=>by obtain⟨_,_,rfl⟩:=cX.mp hp;rfl⟩;rw[ck]at hl;have hk:EY yo (.str w0)=Z (.kt<|ps.map λp=>wD p.2):=by rw[hk,c7];refine congrArg (λz=>Z<|D.kt z)<|gA λp q=>?_;show D.non=wD p.2;rw[hp p q];rfl
 have Lb:∀p∈ps,p.1∈mo:=λp q=>UV _<|cX.mpr ⟨p,q,rfl⟩;have mem:∀w∈w0::ps.map (·.1),tE 32 w/\w.length<=20:=λw hw=>by
  rcases cu.mp hw with rfl|hw
  ·exact h0
  ·obtain⟨p,q,rfl⟩:=cX.mp hw;have:=v4<|hn.ok _<|Lb p q;exact⟨Ie (hn.ok _<|Lb p q)<|by decide,by lia⟩
 refine NH (mf:=mf) (λw hw=>(mem w hw).1) (λw hw=>(mem w hw).2) (by rw[ck];lia) hw.ok (ZJ hw (ŗ hk hl hp) ha) (.inr ⟨_,mo,J,Ŗ hk ?_ hl,λx hx=>?_,rfl⟩) hd hm
 ·show Z (D.bl<|(yo.lookup w0).isSome)=_;rw[hw.fo]
 ·obtain⟨q,hq,rfl⟩:=cX.mp hx;exact Lb q (dU.mp hq).1
end
variable {κ:Type}{W' K':Nat->Nat}{O:List D}
theorem QW (ns:List D)(J:List gR):dX [4] "names" (de ns J)=dq ns:=rfl
theorem uj (ns:List D)(J:List gR):dX [4] "arrows" (de ns J)=dq (J.map dD):=rfl
theorem Qa {κ:Type}(h:κ×D->D):∀(ks:List κ) (O:List D),ks.zip ((ks.zip O).map h)=(ks.zip O).map λp=>(p.1,h p)
 |[],_=>rfl
 |_::_,[]=>rfl
 |k::ks,d::O=>by show(k,h (k,d))::ks.zip ((ks.zip O).map h)=(k,h (k,d))::(ks.zip O).map _;rw[Qa h ks O]
theorem ZK [DecidableEq κ]{ks:List κ}(hl:ks.length=O.length)(k k':κ)(d:D):oy (jG ks O k d).1 (jG ks O k d).2 k'=if k'=k then Z d else oy ks O k':=by
 unfold jG;by_cases hc:ks.contains k=Â
 ·rw[if_pos hc];unfold oy;dsimp only;rw[Qa,List.find?_map];by_cases hk:k'=k
  ·subst hk;rw[if_pos rfl];have hm:k'∈ks:=by simpa using hc
   have:∃p∈ks.zip O,p.1=k':=by obtain⟨i,hi,e⟩:=ir.mp hm;refine⟨(ks[i],O[i]),?_,e⟩;rw[ir];exact⟨i,by rw[gz];lia,by simp⟩
   obtain⟨p,hp,he⟩:=this;cases hf:(ks.zip O).find? ((λp:κ×D=>decide<|p.1=k') ∘ λp:κ×D=>(p.1,if p.1=k' then d else p.2))with
   |none=>rw[Ap]at hf;have:=hf p hp;simp[he]at this
   |some q=>have hq:=Cf hf;simp at hq;simp[hq]
  ·rw[if_neg hk];have:((λp:κ×D=>decide<|p.1=k') ∘ λp:κ×D=>(p.1,if p.1=k then d else p.2))=λp:κ×D=>decide (p.1=k'):=rfl;rw[this];cases hf:(ks.zip O).find? λp=>decide (p.1=k')with
   |none=>rfl
   |some q=>have hq:=Cf hf;simp at hq;have pU:¬q.1=k:=λz=>hk<|hq▸z;simp[pU]
 ·rw[if_neg hc];unfold oy;dsimp only;have hz:(ks++[k]).zip (O++[d])=ks.zip O++[(k,d)]:=by rw[Cj hl];rfl
  rw[hz,List.find?_append];by_cases hk:k'=k
  ·subst hk;rw[if_pos rfl];have hn:(ks.zip O).find? (λp=>decide<|p.1=k')=C:=by
    rw[Ap];intro p hp;have hm:=(mn (a:=p.1) (b:=p.2) hp).1;have yB:¬k'∈ks:=by simpa using hc
    simp;intro z;exact yB<|z▸hm
   rw[hn];simp
  ·rw[if_neg hk];have:¬k=k':=λz=>hk z.symm;cases hf:(ks.zip O).find? (λp=>decide<|p.1=k')<;>simp[this]
theorem RU [DecidableEq κ]{ks:List κ}(hl:ks.length=O.length)(k:κ)(d:D):(jG ks O k d).1.length=(jG ks O k d).2.length/\(jG ks O k d).1.length<=ks.length+1:=by
 unfold jG;by_cases hc:ks.contains k=Â
 ·rw[if_pos hc];simp;lia
 ·rw[if_neg hc];simp[hl]
noncomputable def fr (q:Int×Int):D:=.tup [.int q.1,.int q.2]
theorem Bd (q:Int×Int):dM (fr q) (.int 0)=dr q.1:=rfl
theorem uJ (q:Int×Int):dM (fr q) (.int 1)=dr q.2:=rfl
def Fz (n:Nat)(q:Int×Int):Prop:=Sz n q.1/\Sz n q.2
theorem Fz.mono {n m:Nat}{q:Int×Int}(h:Fz n q)(hm:n<=m):Fz m q:=⟨h.1.mono hm,h.2.mono hm⟩
theorem vg {n:Nat}{i w:Int}(h1:-w<=i)(h2:i<=w)(hw:w<2 ^ n):Sz n i:=by
 unfold Sz;have:(i.natAbs:Int)<2 ^ n:=by lia
 exact_mod_cast this
theorem Md {x y:Int}(hy:Sz 8000 y):jM [.int x,.int y]=dr ((iz x y:Nat):Int):=by
 obtain⟨s',h1,h2,h3,r,h5⟩:=jd (c:=tb<|S (gb Â) (L 1)<|eC<|D.int 0) (b:=ko) (λs:Int×Int×Option D=>[dr s.1,dr s.2.1,s.2.2]) (λs=>!decide (s.2.1=0)) (λs=>(s.2.1,s.1.fmod s.2.1,dr<|s.1.fmod s.2.1)) (λs=>s.2.1.natAbs) (λs=>iz s.1 s.2.1=iz x y)
  (λs hp=>by walk_at "mid") (λs hp ht=>by
   have hs:s.2.1≠0:=by simpa using ht
   refine⟨.inl ?_,(Fq.gcd_step s.1 s.2.1).trans hp,Fq.fmod_less s.1 hs⟩;unfold ko;have:=Ro (i:=s.1) hs;walk_at "mid") p6 (x,y,C) rfl (MU hy<|by decide)
 have h3:s'.2.1=0:=by simpa using h3
 have h4:=Fq.gcd_end s'.1;rw[h3]at h2;rw[h2]at h4;clear h5;unfold jM kA;walk_at "mid"
theorem qz {t b:Int}(hb:b≠0)(hz:Sz 8000 b):mz [.int t,.int b]=Z (fr<|Fq.mk t b):=by
 have e:=Md (x:=t) hz;have hg:=Fq.gcd_pos (t:=t) (b:=b) hb;have hd:Fq.dv t b≠0:=by unfold Fq.dv;split<;>lia
 have uT:Sz 9000 (Fq.dv t b):=(hz.le<|Fq.dv_le hb).mono (by decide);have e1:=Qv (i:=t) hd uT;have S:=Qv (i:=b) hd uT;unfold mz fr Fq.mk;by_cases hn:b<0
 ·have hd:Fq.dv t b = -((iz t b:Nat):Int):=by unfold Fq.dv;rw[if_pos hn]
  rw[hd]at e1 S ⊢;walk_at "mid"
 ·have hd:Fq.dv t b=((iz t b:Nat):Int):=by unfold Fq.dv;rw[if_neg hn]
  rw[hd]at e1 S ⊢;walk_at "mid"
theorem Ka {n:Nat}{t b:Int}(hb:b≠0)(ht:Sz n t)(hz:Sz n b):Fz n (Fq.mk t b):=⟨ht.le<|Fq.mk_le_one hb,hz.le<|Fq.mk_le_two hb⟩
theorem SO:∀{p:List Nat} {i x y:Nat},p.Nodup->p[i]?=Z x->y∈p.take i->p.idxOf y<p.idxOf x
 |[],i,x,y,_,h,_=>by simp at h
 |z::p,0,x,y,_,_,hy=>by simp at hy
 |z::p,i+1,x,y,nd,h,hy=>by
  obtain⟨n1,n2⟩:=dz.mp nd;have h:p[i]?=Z x:=by simpa using h
  have hx:x∈p:=dJ.mpr ⟨i,h⟩;have UZ:z≠x:=λe=>n1<|e▸hx;rw[List.take_succ_cons]at hy;have e1:(z::p).idxOf x=p.idxOf x+1:=by rw[tO,show(z==x)=Ã from beq_eq_false_iff_ne.mpr UZ];rfl
  rw[e1];rcases cu.mp hy with rfl|hy
  ·simp
  ·have:=SO n2 h hy;by_cases Ot:z=y
   ·subst Ot;simp
   ·rw[tO,show(z==y)=Ã from beq_eq_false_iff_ne.mpr Ot];show p.idxOf y+1<_;lia
def vF (K' W':Nat->Nat):Nat->List Nat->Nat->Prop
 |a,[],b=>a=b
 |a,n::l,b=>K' n=a/\vF K' W' (W' n) l b
theorem vF.app {K' W':Nat->Nat}{b c:Nat}{m:List Nat}(h2:vF K' W' b m c):∀{a:Nat} {l:List Nat},vF K' W' a l b->vF K' W' a (l++m) c
 |a,[],h=>by have h:a=b:=h;rw[h];exact h2
 |a,n::l,h=>⟨h.1,vF.app h2 h.2⟩
theorem vF.one (K' W':Nat->Nat)(n:Nat):vF K' W' (K' n) [n] (W' n):=⟨rfl,rfl⟩
noncomputable def Dl (l:List α):List α:=l.drop (l.length-1)++l.take (l.length-1)
theorem RV (l:List α){j:Nat}(hj:j<l.length):(Dl l)[j]?=l[if j=0 then l.length-1 else j-1]?:=by
 unfold Dl;by_cases h0:j=0
 ·subst h0;rw[fV<|by rw[eM];lia,rq,if_pos rfl];congr 1
 ·rw[if_neg h0,fS<|by rw[eM];lia,eM,Ar];rw[if_pos<|by lia];congr 1;lia
theorem MJ (l:List α):(Dl l).Perm l:=by unfold Dl;refine List.perm_append_comm.trans ?_;rw[List.take_append_drop]
theorem ϥ (l:List α):(Dl l).length=l.length:=(MJ l).length_eq
noncomputable def yC (n j:Nat):Nat:=if j=0 then n-1 else j-1
def Kc (K' W':Int->Nat)(n:Nat)(is:List Int)(j:Nat):Prop:=(0<=is.getD j 0/\is.getD j 0<(n:Int))/\(0<=is.getD (yC is.length j) 0/\is.getD (yC is.length j) 0<(n:Int))/\K' (is.getD j 0)=W' (is.getD (yC is.length j) 0)/\∀i,i<j->K' (is.getD i 0)≠K' (is.getD j 0)
def EB (K' W':Int->Nat)(n:Nat)(is:List Int):Prop:=is≠[]/\(∀i∈is,0<=i/\i<(n:Int))/\is.map K'=Dl (is.map W')/\(is.map W').Nodup
theorem yz {is:List Int}{j:Nat}(h:j<is.length):is[j]?=Z (is.getD j 0):=by rw[fR,cC h];rfl
theorem Ϥ {K' W':Int->Nat}{n:Nat}{is:List Int}:EB K' W' n is↔is≠[]/\∀j,j<is.length->Kc K' W' n is j:=by
 constructor
 ·rintro⟨h1,h2,h3,h4⟩;refine⟨h1,λj hj=>?_⟩;have hp:yC is.length j<is.length:=by unfold yC;split<;>lia
  have m1:=h2 _<|dJ.mpr ⟨j,yz hj⟩;have m2:=h2 _<|dJ.mpr ⟨_,yz hp⟩;have hs:(is.map K')[j]?=(Dl<|is.map W')[j]?:=by rw[h3]
  rw[RV _<|by rw[ck];exact hj,ck,cP,cP,yz hj]at hs;have tG:Z (K'<|is.getD j 0)=(is[yC is.length j]?).map W':=hs;rw[yz hp]at tG;refine⟨m1,m2,Option.some.inj tG,λi hi e=>?_⟩;have nd:(is.map K').Nodup:=by rw[h3];exact(MJ _).nodup_iff.mpr h4
  have:=(uY.mp nd) i j (by rw[ck];lia) (by rw[ck];lia) hi;rw[jS,jS]at this;have e1:is[i]=is.getD i 0:=by have:=yz (is:=is) (j:=i) (by lia);rw[cC<|by lia]at this;exact Option.some.inj this
  have S:is[j]=is.getD j 0:=by have:=yz hj;rw[cC hj]at this;exact Option.some.inj this
  rw[e1,S]at this;exact this e
 ·rintro⟨h1,h2⟩;have n8:is.map K'=Dl (is.map W'):=by
   apply nY;intro j;by_cases hj:j<is.length
   ·have hp:yC is.length j<is.length:=by unfold yC;split<;>lia
    rw[RV _<|by rw[ck];exact hj,ck,cP,cP,yz hj];show Z (K'<|is.getD j 0)=(is[yC is.length j]?).map W';rw[yz hp,(h2 j hj).2.2.1];rfl
   ·rw[lG<|by rw[ck];lia,lG<|by rw[ϥ,ck];lia]
  refine⟨h1,λi hi=>?_,n8,?_⟩
  ·obtain⟨j,hj⟩:=dJ.mp hi;have hl:=(cU.mp hj).1;have:=yz hl;rw[hj]at this;rw[Option.some.inj this];exact(h2 j hl).1
  ·have nd:(is.map K').Nodup:=uY.mpr λi j hi hj Bg=>by
    rw[ck]at hi hj;rw[jS,jS];have e1:is[i]=is.getD i 0:=by have:=yz hi;rw[cC hi]at this;exact Option.some.inj this
    have S:is[j]=is.getD j 0:=by have:=yz hj;rw[cC hj]at this;exact Option.some.inj this
    rw[e1,S];exact(h2 j hj).2.2.2 i Bg
   rw[n8]at nd;exact(MJ _).nodup_iff.mp nd
theorem j7 {g:D->L3.Env->Option L3.Env}{b:SF}{n:Nat}(I:Nat->L3.Env->Prop)(R:D->Prop)(st:∀i Y,i<n->I i Y->∃ρ1,g (.int i) Y=Z ρ1/\((∃ρ2,b ρ1=Z (.nx ρ2)/\I (i+1) ρ2)\/∃w,b ρ1=Z (.rt w)/\R w)) :
  ∀(m k:Nat) (Y:L3.Env),k+m=n->I k Y->(∃ρ',jV g b ((jI k m).map λ(i:Nat)=>D.int i) Y=Z (.nx ρ')/\I n ρ')\/∃w,jV g b ((jI k m).map λ(i:Nat)=>D.int i) Y=Z (.rt w)/\R w
 |0,k,Y,hk,hI=>by
  have:k=n:=by lia
  subst this;exact .inl ⟨Y,rfl,hI⟩
 |m+1,k,Y,hk,hI=>by
  obtain⟨ρ1,h1,h2⟩:=st k Y (by lia) hI;have AN:jV g b ((jI k<|m+1).map λ(i:Nat)=>D.int i) Y=(g (.int k) Y).bind λρ1=>(b ρ1).bind λo=>match o with
    |.nx ρ'=>jV g b ((jI (k+1) m).map λ(i:Nat)=>D.int i) ρ'
    |.ct ρ'=>jV g b ((jI (k+1) m).map λ(i:Nat)=>D.int i) ρ'
    |.bk ρ'=>Z<|.nx ρ'
    |.rt d=>Z (.rt d):=rfl
  rw[AN,h1,d8];rcases h2 with⟨ρ2,h2,h3⟩|⟨w,h2,h3⟩
  ·rw[h2];exact j7 I R st m (k+1) ρ2 (by lia) h3
  ·rw[h2];exact .inr ⟨w,rfl,h3⟩
noncomputable def aN (J:List gR)(n:Nat):gR:=(J[n]?).getD ⟨.wait,0,0,0,0⟩
theorem DC {n:Nat}(h:n<J.length):J[n]?=Z (aN J n):=by unfold aN;rw[cC h];rfl
def sI (J:List gR)(i:Int):Nat:=(aN J i.toNat).s
def gI (J:List gR)(i:Int):Nat:=(aN J i.toNat).g
theorem Ŕ {i:Int}(h0:0<=i)(h1:i<(J.length:Int)):dM (.lst<|J.map dD) (.int i)=Z (dD<|aN J i.toNat):=by obtain⟨n,rfl⟩:∃n:Nat,i=(n:Int):=⟨i.toNat,by lia⟩;rw[i8];exact ya (by rw[cP,DC<|by lia];rfl)
theorem Nv {is:List Int}{fld:Str}{f:gR->Int}{q:EF}(hq:q=fF (Ù<|L 1) 1 [0] (gV 0) g0 (e1 (dX [0,1,2,3] fld)<|S dM (e1 (dX [4] "arrows")<|L 1)<|L 0))(hf:∀a,dX [0,1,2,3] fld (dD a)=dr (f a))(hl:is.length<=1000)(hr:∀i∈is,0<=i/\i<(J.length:Int))(r:L3.Env)(h0:r[0]?.join=Z (de ns J))(h1:r[1]?.join=dq (is.map .int)) :
  q r=dq ((is.map λi=>f<|aN J i.toNat).map .int):=by
 rw[hq,c7];refine yb D.int (λi=>D.int<|f<|aN J i.toNat) is (by unfold Ù;have:L 1 r=_:=h1;rw[this];rfl) (by lia) λi hi=>⟨_,rfl,?_⟩;have oz:jA r [0]=[Z<|de ns J]:=by unfold jA;simp[h0]
 rw[oz];have i1:=Ŕ (hr i hi).1 (hr i hi).2;have f1:=hf<|aN J i.toNat;have f4:=uj ns J;generalize f (aN J i.toNat)=v,dD (aN J i.toNat)=ea,J.map dD=al,de ns J=net at *;clear oz h0 h1 hr hi hl hf hq;walk_at "mid"
theorem IA (xs:List Int):wF [.lst<|xs.map .int]=dr xs.sum:=by show(mT<|xs.map .int).bind _=_;rw[ju];rfl
def tI (J:List gR)(i:Int):Int:=(aN J i.toNat).t
def bI (J:List gR)(i:Int):Int:=((aN J i.toNat).b:Int)
theorem SQ {f:Int->Int}{m:Int}(hm:0<=m):∀is:List Int,(∀i∈is,0<=f i/\f i<=m)->0<=(is.map f).sum/\(is.map f).sum<=m*(is.length:Int)
 |[],_=>by simp
 |i::is,h=>by obtain⟨h1,h2⟩:=SQ hm is λj hj=>h j<|cj _ hj;obtain⟨h3,h4⟩:=h i b7;rw[cI,d7,cz];refine⟨by lia,?_⟩;rw[show((is.length+1:Nat):Int)=(is.length:Int)+1 by lia,Int.mul_add,tH];lia
theorem œ {is:List Int}(hl:is.length<=1000)(hb:∀a∈J,a.b<=4)(hr:∀i∈is,0<=i/\i<(J.length:Int))(h0:(is.map<|bI J).sum≠0):oU [de ns J,.lst<|is.map .int]=Z (fr<|Fq.mk (is.map<|tI J).sum (is.map<|bI J).sum):=by
 have k1:=Nv (ns:=ns) (J:=J) (is:=is) (fld:="time") (f:=λa=>a.t) (q:=t4) rfl ft hl hr [Z<|de ns J,dq<|is.map .int,C,C] rfl rfl;have k2:=Nv (ns:=ns) (J:=J) (is:=is) (fld:="behind") (f:=λa=>(a.b:Int)) (q:=t3) rfl fb hl hr [Z<|de ns J,dq<|is.map .int,Z<|.int (is.map<|tI J).sum,C] rfl rfl;have s1:=IA<|is.map<|tI J;have s2:=IA<|is.map<|bI J;have bd:=SQ (f:=bI J) (m:=4) (by decide) is λi hi=>by have:=hb (aN J i.toNat) (dJ.mpr ⟨i.toNat,DC<|by have:=hr i hi;lia⟩);unfold bI;lia
 have ra:=qz (t:=(is.map<|tI J).sum) h0 (vg (w:=4000) (by lia) (by lia)<|by decide);replace k1:t4 _=dq ((is.map<|tI J).map .int):=k1;replace k2:t3 _=dq ((is.map<|bI J).map .int):=k2;generalize fr (Fq.mk (is.map<|tI J).sum (is.map<|bI J).sum)=F,(is.map<|tI J).map D.int=tl,(is.map<|bI J).map D.int=bl at *;generalize (is.map<|tI J).sum=T,(is.map<|bI J).sum=Bh,de ns J=net,is.map D.int=il at *;unfold oU;clear bd hl hb hr h0;walk_at "mid"
structure iV (d:D)(ch:Nat->Option Nat)(m:Nat):Prop where
 is:∃ks O,d=.dK ks O/\ks.length=O.length/\ks.length<=m/\∀x:Nat,oy ks O (.inl (x:Int))=(ch x).map λ(n:Nat)=>D.int n
theorem iV.get {d:D}{ch:Nat->Option Nat}{m:Nat}(h:iV d ch m){x n:Nat}(e:ch x=Z n):(nD d<|.int x).join=dr (n:Int):=by obtain⟨ks,O,rfl,_,_,h3⟩:=h.is;show oy ks O (.inl (x:Int))=_;rw[h3,e];rfl
theorem iV.put {d:D}{ch:Nat->Option Nat}{m:Nat}(h:iV d ch m)(hm:m<16777216)(x n:Nat):∃d',(∀(Y:L3.Env) (i:Nat) (fj f:EF),f Y=dr n->L i Y=Z d->fj Y=dr x->pQ i fj f Y=Z (.nx<|Y.set i<|Z d'))/\iV d' (λy=>if y=x then Z n else ch y) (m+1):=by
 obtain⟨ks,O,rfl,h1,h2,h3⟩:=h.is;refine⟨.dK (jG ks O (.inl (x:Int))<|.int n).1 (jG ks O (.inl (x:Int))<|.int n).2,λY i fj f e1 S e3=>?_,⟨_,_,rfl,(RU h1 _ _).1,by have:=(RU h1 (.inl (x:Int))<|.int n).2;lia,λy=>?_⟩⟩
 ·unfold pQ;rw[e1];show(L i Y).bind _=_;rw[S];show(fj Y).bind _=_;rw[e3];show(if ks.length<16777216 then Z (ð.nx<|Y.set i<|Z<|.dK (jG ks O (.inl (x:Int))<|.int n).1 (jG ks O (.inl (x:Int))<|.int n).2)else C)=_;rw[if_pos<|by lia]
 ·rw[ZK h1];by_cases e:y=x
  ·subst e;rw[if_pos rfl,if_pos rfl];rfl
  ·rw[if_neg (λz=>e<|by have:=Sum.inl.inj z;lia),if_neg e];exact h3 y
theorem Qk {c:BF}{b:SF}(I:L3.Env->Prop)(μ:L3.Env->Nat)(R:D->Prop)(st:∀Y,I Y->∃t,c Y=Z t/\(t=Â->(∃ρ',b Y=Z (.nx ρ')/\I ρ'/\μ ρ' < μ Y)\/∃d,b Y=Z (.rt d)/\R d)) :
  ∀(n:Nat) (Y:L3.Env),I Y->μ Y<n->(∃ρ',lE c b n Y=Z (.nx ρ')/\I ρ'/\c ρ'=Z Ã)\/∃d,lE c b n Y=Z (.rt d)/\R d
 |0,_,_,h=>absurd h (by lia)
 |n+1,Y,hI,h=>by
  obtain⟨t,h1,h2⟩:=st Y hI;cases t with
  |false=>exact .inl ⟨Y,by show(c Y).bind _=_;rw[h1];rfl,hI,h1⟩
  |true=>
   rcases h2 rfl with⟨ρ',h3,h4,h5⟩|⟨d,h3,h4⟩
   ·rcases Qk I μ R st n ρ' h4 (by lia)with⟨ρ2,h6,h7,h8⟩|⟨d,h6,h7⟩
    ·refine .inl ⟨ρ2,?_,h7,h8⟩;show(c Y).bind _=_;rw[h1];show(b Y).bind _=_;rw[h3];exact h6
    ·refine .inr ⟨d,?_,h7⟩;show(c Y).bind _=_;rw[h1];show(b Y).bind _=_;rw[h3];exact h6
   ·refine .inr ⟨d,?_,h4⟩;show(c Y).bind _=_;rw[h1];show(b Y).bind _=_;rw[h3];rfl
theorem iV.has {d:D}{ch:Nat->Option Nat}{m:Nat}(h:iV d ch m)(x:Nat):nD d (.int x)=Z ((ch x).map λ(n:Nat)=>D.int n):=by obtain⟨ks,O,rfl,_,_,h3⟩:=h.is;show Z (oy ks O<|.inl (x:Int))=_;rw[h3]
def gD (J:List gR)(p:Int×Int)(n:Nat):Int:=(aN J n).t*p.2-((aN J n).b:Int)*p.1
def aS (J:List gR)(n:Nat):Nat:=(aN J n).s
def aG (J:List gR)(n:Nat):Nat:=(aN J n).g
structure Fx (mv:Nat)(a:gR):Prop where
 s:a.s<mv
 g:a.g<mv
 t0:0<=a.t
 t1:a.t<=1000000000
 b:a.b<=4
theorem wn {n:Nat}(hn:n<J.length):aN J n∈J:=dJ.mpr ⟨n,DC hn⟩
variable {U':Int}{T:Nat->Int}{cY:List Nat}
noncomputable def rj (T:Nat->Int)(x:Nat)(v:Int):Nat->Int:=λy=>if y=x then v else T y
noncomputable def Mf (T:Nat->Option Nat)(x v:Nat):Nat->Option Nat:=λy=>if y=x then Z v else T y
noncomputable def sf (T:Nat->Nat)(x v:Nat):Nat->Nat:=λy=>if y=x then v else T y
structure vE (cY:List Nat)(K' W':Nat->Nat)(c:Nat->Int)(r:Nat)(dn:List Nat)(T:Nat->Int)(ch:Nat->Option Nat)(lr ts:Nat->Nat)(k:Nat):Prop where
 le:∀x,lr x<=r
 st:∀x,ts x<k
 ch:∀x,0<lr x->∃n,ch x=Z n/\n∈cY/\W' n=x/\lr x<=lr (K' n)+1/\T x<=T (K' n)+c n/\(T x<T (K' n)+c n\/ts (K' n)<ts x)
 old:∀n∈cY,lr (K' n)+1<r->T (K' n)+c n<=T (W' n)
 dn:∀n∈dn,lr (K' n)<r->T (K' n)+c n<=T (W' n)
 pos:∀x,0<=T x
section
variable {c:Nat->Int}{r:Nat}{dn:List Nat}{ch:Nat->Option Nat}{lr ts:Nat->Nat}{k:Nat}
theorem vE.start:vE cY K' W' c 1 [] (λ_=>0) (λ_=>C) (λ_=>0) (λ_=>0) 1 where
 le:=λ_=>fI _
 st:=λ_=>Nat.zero_lt_one
 ch:=λ_ h=>absurd h<|iC 0
 old:=λ_ _ h=>absurd h (by lia)
 dn:=λ_ h=>by cases h
 pos:=λ_=>jP 0
theorem vE.next (h:vE cY K' W' c r cY T ch lr ts k):vE cY K' W' c (r+1) [] T ch lr ts k where
 le:=λx=>Nat.le_succ_of_le<|h.le x
 st:=h.st
 ch:=h.ch
 old:=λn hn h1=>h.dn n hn (by lia)
 dn:=λ_ h=>by cases h
 pos:=h.pos
theorem vE.stay (h:vE cY K' W' c r dn T ch lr ts k){n:Nat}(hn:T (K' n)+c n<=T (W' n)):vE cY K' W' c r (dn++[n]) T ch lr ts k where
 le:=h.le
 st:=h.st
 ch:=h.ch
 old:=h.old
 dn:=λm hm h1=>by
  rcases cH.mp hm with hm|hm
  ·exact h.dn m hm h1
  ·rw[cw.mp hm];exact hn
 pos:=h.pos
theorem vE.push (h:vE cY K' W' c r dn T ch lr ts k){n:Nat}(hn:n∈cY)(hp:T (W' n)<T (K' n)+c n) :
  vE cY K' W' c r (dn++[n]) (rj T (W' n)<|T (K' n)+c n) (Mf ch (W' n) n) (sf lr (W' n) r) (sf ts (W' n) k) (k+1) where
 le:=λx=>by
  unfold sf;split
  ·exact cK _
  ·exact h.le x
 st:=λx=>by unfold sf;have:=h.st x;split<;>lia
 ch:=λx hx=>by
  have up:∀y,T y<=rj T (W' n) (T (K' n)+c n) y:=λy=>by
   unfold rj;split
   ·rename_i e;rw[e];lia
   ·exact jP _
  have ul:∀y,lr y<=sf lr (W' n) r y:=λy=>by
   unfold sf;split
   ·exact h.le y
   ·exact cK _
  by_cases e:x=W' n
  ·subst e;refine⟨n,by simp[Mf],hn,rfl,?_,?_,?_⟩
   ·have h1:¬lr (K' n)+1<r:=λz=>by have:=h.old n hn z;lia
    have h2:=ul<|K' n;have h3:sf lr (W' n) r (W' n)=r:=by simp[sf]
    lia
   ·have h2:=up<|K' n;have h3:rj T (W' n) (T (K' n)+c n) (W' n)=T (K' n)+c n:=by simp[rj]
    lia
   ·have h3:rj T (W' n) (T (K' n)+c n) (W' n)=T (K' n)+c n:=by simp[rj]
    by_cases S:K' n=W' n
    ·left;rw[S]at hp h3 ⊢
     lia
    ·right;have h4:sf ts (W' n) k (W' n)=k:=by simp[sf]
     have h5:sf ts (W' n) k (K' n)=ts (K' n):=by simp[sf,S]
     have:=h.st<|K' n;lia
  ·have C6:sf lr (W' n) r x=lr x:=by simp[sf,e]
   have ht:rj T (W' n) (T (K' n)+c n) x=T x:=by simp[rj,e]
   rw[C6]at hx;obtain⟨m,h1,h2,h3,h4,h5,h6⟩:=h.ch x hx;refine⟨m,by simp[Mf,e,h1],h2,h3,?_,?_,?_⟩
   ·have:=ul<|K' m;lia
   ·have:=up<|K' m;lia
   ·by_cases S:K' m=W' n
    ·left;have h7:rj T (W' n) (T (K' n)+c n) (K' m)=T (K' n)+c n:=by simp[rj,S]
     rw[S]at h5;lia
    ·have h7:rj T (W' n) (T (K' n)+c n) (K' m)=T (K' m):=by simp[rj,S]
     have h8:sf ts (W' n) k (K' m)=ts (K' m):=by simp[sf,S]
     have h9:sf ts (W' n) k x=ts x:=by simp[sf,e]
     rw[h7,h8,h9,ht];exact h6
 old:=λm hm h1=>by
  have S:K' m≠W' n:=λe=>by
   have:sf lr (W' n) r (K' m)=r:=by simp[sf,e]
   lia
  have h7:rj T (W' n) (T (K' n)+c n) (K' m)=T (K' m):=by simp[rj,S]
  have h8:sf lr (W' n) r (K' m)=lr (K' m):=by simp[sf,S]
  rw[h8]at h1;have h9:=h.old m hm h1;have:T (W' m)<=rj T (W' n) (T (K' n)+c n) (W' m):=by
   unfold rj;split
   ·rename_i e;rw[e];lia
   ·exact jP _
  lia
 dn:=λm hm h1=>by
  have S:K' m≠W' n:=λe=>by
   have:sf lr (W' n) r (K' m)=r:=by simp[sf,e]
   lia
  have h7:rj T (W' n) (T (K' n)+c n) (K' m)=T (K' m):=by simp[rj,S]
  have h8:sf lr (W' n) r (K' m)=lr (K' m):=by simp[sf,S]
  rw[h8]at h1;rcases cH.mp hm with hm|hm
  ·have h9:=h.dn m hm h1;have:T (W' m)<=rj T (W' n) (T (K' n)+c n) (W' m):=by
    unfold rj;split
    ·rename_i e;rw[e];lia
    ·exact jP _
   lia
  ·have hm:=cw.mp hm;subst hm;have h3:rj T (W' m) (T (K' m)+c m) (W' m)=T (K' m)+c m:=by simp[rj]
   lia
 pos:=λx=>by
  unfold rj;split
  ·have:=h.pos<|W' n;lia
  ·exact h.pos x
theorem vE.cost {Q:Nat->Prop}(h:∀n,Q n->T (W' n)<=T (K' n)+c n/\(T (W' n)<T (K' n)+c n\/ts (K' n)<ts (W' n))):∀{w:List Nat} {a b:Nat},vF K' W' a w b->(∀n∈w,Q n)->T b<=T a+(w.map c).sum/\(w=[]\/T b<T a+(w.map c).sum\/ts a<ts b)
 |[],a,b,hw,_=>by have hw:a=b:=hw;subst hw;simp
 |n::w,a,b,hw,hq=>by
  obtain⟨h1,h2⟩:=hw;obtain⟨i1,i2⟩:=vE.cost h h2 λm hm=>hq m<|cj _ hm;obtain⟨j1,j2⟩:=h n<|hq n b7;rw[cI,d7];rw[←h1];refine⟨by lia,.inr ?_⟩;rcases i2 with i2|i2|i2
  ·subst i2;have h2:W' n=b:=h2;subst h2;simp at i1 ⊢;rcases j2 with j2|j2
   ·left;lia
   ·right;exact j2
  ·left;lia
  ·rcases j2 with j2|j2
   ·left;lia
   ·right;lia
end
def yA (K' W':Nat->Nat):Nat->List Nat->Nat->Prop
 |a,[],b=>a=b
 |a,n::l,b=>W' n=a/\yA K' W' (K' n) l b
theorem yA.snoc {K' W':Nat->Nat}{n:Nat}:∀{w:List Nat} {a b:Nat},yA K' W' a w b->W' n=b->yA K' W' a (w++[n]) (K' n)
 |[],a,b,h,e=>by have h:a=b:=h;exact⟨by rw[e,h],rfl⟩
 |m::w,a,b,h,e=>⟨h.1,yA.snoc h.2 e⟩
theorem yA.wlk {K' W':Nat->Nat}:∀{w:List Nat} {a b:Nat},yA K' W' a w b->vF K' W' b w.reverse a
 |[],a,b,h=>by have h:a=b:=h;exact h.symm
 |n::w,a,b,h=>by rw[kZ];exact vF.app (h.1▸vF.one K' W' n)<|yA.wlk h.2
theorem yA.drop {K' W':Nat->Nat}:∀{w:List Nat} {a b:Nat} {j n:Nat},yA K' W' a w b->w[j]?=Z n->yA K' W' (W' n) (w.drop j) b
 |[],a,b,j,n,h,e=>by simp at e
 |m::w,a,b,0,n,h,e=>by
  have e:m=n:=by simpa using e
  subst e;exact⟨rfl,h.2⟩
 |m::w,a,b,j+1,n,h,e=>by rw[List.drop_succ_cons];exact yA.drop h.2 (by simpa using e)
structure Wk (ch:Nat->Option Nat)(K' W':Nat->Nat)(lr:Nat->Nat)(v È:Nat)(ws:List Nat):Prop where
 ch:∀n∈ws,ch (W' n)=Z n/\0<lr (W' n)
 way:yA K' W' v ws È
 nd:(ws.map W').Nodup
 lr:lr v<=lr È+ws.length
def Pu (mv:Nat)(lr:Nat->Nat)(r:Nat)(pu:D):Prop:=(pu=.non/\∀x,lr x<r)\/∃v:Nat,pu=.int v/\v<mv/\lr v=r
theorem M1 {mv:Nat}{J:List gR}{ns:List D}{p:Int×Int}{cY:List Nat}{r:Nat}{U':Int}(pK:∀a∈J,Fx mv a)(hM:∀n,n<J.length->gD J p n<=U')(vV:0<=U')(hr:0<r)(hn:∀n∈cY,n<J.length){S:Option D} :
  ∀(post pre:List Nat) (T:Nat->Int) (d:D) (ch:Nat->Option Nat) (lr ts:Nat->Nat) (k m:Nat) (V':Int) (pu:D) (y6 y7 y8:Option D),cY=pre++post->vE cY (aS J) (aG J) (gD J p) r pre T ch lr ts k->iV d ch m->m+post.length<=1000000->(∀x,T x<=V')->Pu mv lr r pu ->
  ∃(T':Nat->Int) (d':D) (wY:Nat->Option Nat) (AI B9:Nat->Nat) (k':Nat) (Ai:D) (z6 z7 z8:Option D),jV (gV 6) fM (cA post) [Z<|de ns J,Z<|fr p,S,dq<|i7 mv T,Z d,Z pu,y6,y7,y8]=Z (.nx [Z<|de ns J,Z<|fr p,S,dq<|i7 mv T',Z d',Z Ai,z6,z7,z8]) /\
   vE cY (aS J) (aG J) (gD J p) r cY T' wY AI B9 k'/\iV d' wY (m+post.length)/\(∀x,T' x<=V'+(post.length:Int)*U')/\Pu mv AI r Ai
 |[],pre,T,d,ch,lr,ts,k,m,V',pu,y6,y7,y8,e,hP,hD,_,hC,hu=>by rw[dH]at e;subst e;exact⟨T,d,ch,lr,ts,k,pu,y6,y7,y8,rfl,hP,hD,λx=>by have:=hC x;simp;lia,hu⟩
 |n::post,pre,T,d,ch,lr,ts,k,m,V',pu,y6,y7,y8,e,hP,hD,hm,hC,hu=>by
  rw[cz]at hm;have Jb:n∈cY:=by rw[e];simp
  have G0:=hn n Jb;have ok:=pK _<|wn G0;have f4:=uj ns J;have i1:dM (.lst<|J.map dD) (.int n)=Z (dD<|aN J n):=ya (by rw[cP,DC G0];rfl);have f1:=fs<|aN J n;have f2:=fg<|aN J n;have f3:=ft<|aN J n;have f5:=fb<|aN J n;have v1:dM (.lst<|i7 mv T) (.int ((aN J n).s:Int))=dr (T (aN J n).s):=Iu T ok.s;have v2:dM (.lst<|i7 mv T) (.int ((aN J n).g:Int))=dr (T (aN J n).g):=Iu T ok.g;have m1:e7 (.int (aN J n).t) (.int p.2)=dr ((aN J n).t*p.2):=u0 (by have:=ok.t0;lia) (by have:=ok.t1;lia);have m2:e7 (.int ((aN J n).b:Int)) (.int p.1)=dr (((aN J n).b:Int)*p.1):=u0 (by lia) (by have:=ok.b;lia);have e8:T (aN J n).s+(aN J n).t*p.2-((aN J n).b:Int)*p.1=T (aS J n)+gD J p n:=by unfold gD aS;lia
  have eg:(aN J n).g=aG J n:=rfl;have p0:=Bd p;have p1:=uJ p;have AN:jV (gV 6) fM (cA (n::post)) [Z<|de ns J,Z<|fr p,S,dq<|i7 mv T,Z d,Z pu,y6,y7,y8]=(fM [Z<|de ns J,Z<|fr p,S,dq<|i7 mv T,Z d,Z pu,dr n,y7,y8]).bind λo=>match o with
    |.nx ρ'=>jV (gV 6) fM (cA post) ρ'
    |.ct ρ'=>jV (gV 6) fM (cA post) ρ'
    |.bk ρ'=>Z<|.nx ρ'
    |.rt d=>Z (.rt d):=rfl
  have pe:cY=(pre++[n])++post:=by rw[e];simp
  by_cases hg:T (aG J n)<T (aS J n)+gD J p n
  ·obtain⟨d2,put,hd2⟩:=hD.put (by lia) (aG J n) n;have gt:Be (.int<|T (aS J n)+gD J p n) (.int<|T (aN J n).g)=Z (.bl Â):=(vo _ _).trans (by rw[decide_eq_true<|by rw[eg];lia]);have ps:xH (i7 mv T) ((aN J n).g:Int) (.int<|T (aS J n)+gD J p n)=Z (i7 mv<|rj T (aG J n)<|T (aS J n)+gD J p n):=RH T ok.g _;have st:fM [Z<|de ns J,Z<|fr p,S,dq<|i7 mv T,Z d,Z pu,dr n,y7,y8]=Z (.nx [Z<|de ns J,Z<|fr p,S,dq<|i7 mv<|rj T (aG J n)<|T (aS J n)+gD J p n,Z d2,dr ((aG J n:Nat):Int),dr n,Z<|dD<|aN J n,dr<|T (aS J n)+gD J p n]):=by
    have put:=put [Z<|de ns J,Z<|fr p,S,dq<|i7 mv<|rj T (aG J n)<|T (aS J n)+gD J p n,Z d,Z pu,dr n,Z<|dD<|aN J n,dr<|T (aS J n)+gD J p n] 4 (e1 (dX [0,1,2,3] "goal")<|L 7) (L 6) rfl rfl f2;have pl:qM 3 (e1 (dX [0,1,2,3] "goal")<|L 7) (L 8) [Z<|de ns J,Z<|fr p,S,dq<|i7 mv T,Z d,Z pu,dr n,Z<|dD<|aN J n,dr<|T (aS J n)+gD J p n]=Z (.nx [Z<|de ns J,Z<|fr p,S,dq<|i7 mv<|rj T (aG J n)<|T (aS J n)+gD J p n,Z d,Z pu,dr n,Z<|dD<|aN J n,dr<|T (aS J n)+gD J p n]):=by unfold qM e1 L;generalize dD (aN J n)=ea at *;simp[f2,ps]
    have qH:T (aN J n).g<T (aS J n)+gD J p n:=hg;generalize T (aS J n)+gD J p n=w at *;generalize i7 mv (rj T (aG J n) w)=v',T (aN J n).g=tg at *;rw[←eg];generalize i7 mv T=v0,fr p=F,J.map dD=al,de ns J=net,dD (aN J n)=ea at *;unfold fM;generalize qM 3 (e1 (dX [0,1,2,3] "goal")<|L 7) (L 8)=PL,pQ 4 (e1 (dX [0,1,2,3] "goal")<|L 7) (L 6)=PD at *;clear AN pe hP hD hm hC hu e Jb G0 ok hg hd2 eg pK hM vV hn ps;walk_at "mid"
   obtain⟨T',d',wY,AI,B9,k',Ai,z6,z7,z8,h1,h2,h3,h4,h5⟩:=M1 (ns:=ns) pK hM vV hr hn (S:=S) post (pre++[n]) _ d2 _ _ _ _ (m+1) (V'+U') (.int ((aG J n:Nat):Int)) (dr n) (Z<|dD<|aN J n) (dr<|T (aS J n)+gD J p n) pe (hP.push Jb hg) hd2 (by lia) (λx=>by unfold rj;have h1:=hC x;have h2:=hC<|aS J n;have h3:=hM n G0;split<;>lia) (.inr ⟨aG J n,rfl,ok.g,by simp[sf]⟩);refine⟨T',d',wY,AI,B9,k',Ai,z6,z7,z8,?_,h2,?_,λx=>?_,h5⟩
   ·rw[AN,st];exact h1
   ·rw[cz,show m+(post.length+1)=m+1+post.length by lia];exact h3
   ·have:=h4 x;rw[cz,show((post.length+1:Nat):Int)=(post.length:Int)+1 by lia,zP,tJ];lia
  ·have gt:Be (.int<|T (aS J n)+gD J p n) (.int<|T (aN J n).g)=Z (.bl Ã):=(vo _ _).trans (by rw[decide_eq_false<|by rw[eg];lia]);have st:fM [Z<|de ns J,Z<|fr p,S,dq<|i7 mv T,Z d,Z pu,dr n,y7,y8]=Z (.nx [Z<|de ns J,Z<|fr p,S,dq<|i7 mv T,Z d,Z pu,dr n,Z<|dD<|aN J n,dr<|T (aS J n)+gD J p n]):=by have qH:¬T (aN J n).g<T (aS J n)+gD J p n:=hg;generalize T (aS J n)+gD J p n=w,T (aN J n).g=tg,i7 mv T=v0,fr p=F,J.map dD=al,de ns J=net,dD (aN J n)=ea at *;unfold fM;clear AN pe hP hD hm hC hu e Jb G0 ok hg eg pK hM vV hn;walk_at "mid"
   obtain⟨T',d',wY,AI,B9,k',Ai,z6,z7,z8,h1,h2,h3,h4,h5⟩:=M1 (ns:=ns) pK hM vV hr hn (S:=S) post (pre++[n]) T d ch lr ts k m V' pu (dr n) (Z<|dD<|aN J n) (dr<|T (aS J n)+gD J p n) pe (hP.stay<|by lia) hD (by lia) hC hu;refine⟨T',d',wY,AI,B9,k',Ai,z6,z7,z8,?_,h2,?_,λx=>?_,h5⟩
   ·rw[AN,st];exact h1
   ·obtain⟨ks,O,q1,q2,q3,q4⟩:=h3.is;exact⟨ks,O,q1,q2,by rw[cz];lia,q4⟩
   ·have:=h4 x;rw[cz,show((post.length+1:Nat):Int)=(post.length:Int)+1 by lia,zP,tJ];lia
theorem Œ {p:Int×Int}{r:Nat}(pK:∀a∈J,Fx mv a)(hM:∀n,n<J.length->gD J p n<=U')(vV:0<=U')(hr:0<r)(hn:∀n∈cY,n<J.length){d:D}{ch:Nat->Option Nat}{lr ts:Nat->Nat}{k m:Nat}{V':Int}(hP:vE cY (aS J) (aG J) (gD J p) r [] T ch lr ts k)(hD:iV d ch m)(hm:m+cY.length<=1000000)(hC:∀x,T x<=V')(hl:∀x,lr x<r) :
  ∃(T':Nat->Int) (d':D) (wY:Nat->Option Nat) (AI B9:Nat->Nat) (k':Nat) (Ai:D),iN [de ns J,fr p,.lst<|cA cY,.lst<|i7 mv T,d]=Z (.tup [Ai,.lst<|i7 mv T',d']) /\
   vE cY (aS J) (aG J) (gD J p) r cY T' wY AI B9 k'/\iV d' wY (m+cY.length)/\(∀x,T' x<=V'+(cY.length:Int)*U')/\Pu mv AI r Ai:=by
 obtain⟨T',d',wY,AI,B9,k',Ai,z6,z7,z8,h1,h2,h3,h4,h5⟩:=M1 (ns:=ns) pK hM vV hr hn (S:=dq<|cA cY) cY [] T d ch lr ts k m V' .non C C C rfl hP hD hm hC<|.inl ⟨rfl,hl⟩;refine⟨T',d',wY,AI,B9,k',Ai,?_,h2,h3,h4,h5⟩;unfold iN E3 à è;generalize i7 mv T=v0 at *;generalize i7 mv T'=v1,fr p=F,de ns J=net,cA cY=nl at *;clear hP hD hm hC hl pK hM vV hn h2 h3 h4 h5;walk_at "mid"
theorem iV.congr {d:D}{ch wY:Nat->Option Nat}{m:Nat}(h:iV d ch m)(e:∀x,ch x=wY x):iV d wY m:=by have:ch=wY:=funext e;rw[←this];exact h
theorem iV.mono {d:D}{ch:Nat->Option Nat}{m m':Nat}(h:iV d ch m)(e:m<=m'):iV d ch m':=by obtain⟨ks,O,q1,q2,q3,q4⟩:=h.is;exact⟨ks,O,q1,q2,by lia,q4⟩
theorem iV.nil:iV (.dK [] []) (λ_=>C) 0:=⟨[],[],rfl,rfl,by simp,λ_=>rfl⟩
noncomputable def BL (us:List Nat)(y:Nat):Option Nat:=if y∈us then Z (us.idxOf y)else C
theorem ϣ (us:List Nat){x:Nat}(h:x∉us)(y:Nat):(if y=x then Z us.length else BL us y)=BL (us++[x]) y:=by
 unfold BL;by_cases e:y=x
 ·subst e;rw[if_pos rfl,if_pos<|by simp,AZ,if_neg h];simp
 ·rw[if_neg e];by_cases hy:y∈us
  ·rw[if_pos hy,if_pos<|by simp[hy],AZ,if_pos hy]
  ·rw[if_neg hy,if_neg<|by simp[hy,e]]
def Vb (Y:L3.Env):Nat:=match Y[5]?.join with
 |some (D.lst O)=>1000-O.length
 |_=>0
def cR:BF:=tb<|λY=>((L 3) Y).bind λx=>((L 4) Y).bind λy=>(nD y x).bind λr=>Z<|.bl<|!r.isSome
theorem ń {m v:Nat}{d:D}{ch:Nat->Option Nat}{lr:Nat->Nat}(hD:iV d ch m)(rF:∀x,0<lr x->∃n,ch x=Z n/\n<J.length/\aG J n=x/\lr x<=lr (aS J n)+1)(pK:∀a∈J,Fx mv a)(hv:v<mv)(Oc:mv<=lr v)(hm:mv<=900) :
  ∃(R:List Nat) (x:Nat),jN [.lst<|J.map dD,d,.int v]=dq (cA R)/\R≠[]/\vF (aS J) (aG J) x R x/\(R.map<|aG J).Nodup/\∀n∈R,ch (aG J n)=Z n/\0<lr (aG J n):=by
 have Cv:∀(È:Nat) (us:List Nat) (d2:D) (k:Nat) (y0 y1 y2 y5:Option D),iV d2 (BL us) k->cR [y0,y1,y2,dr È,Z d2,y5]=Z (!decide (È∈us)):=by
  intro È us d2 k y0 y1 y2 y5 h;have g1:=h.has È;have Cw:((BL us È).map λ(n:Nat)=>D.int n).isSome=decide (È∈us):=by
   unfold BL;by_cases hh:È∈us
   ·rw[if_pos hh,decide_eq_true hh];rfl
   ·rw[if_neg hh,decide_eq_false hh];rfl
  rw[←Cw];generalize (BL us È).map (λ(n:Nat)=>D.int n)=o at *;unfold cR;clear h Cw rF pK hD;walk_at "mid"
 have lp:=Qk (c:=cR) (b:=kr)
  (λY=>∃(ws:List Nat) (È:Nat) (d2:D),Y=[dq<|J.map dD,Z d,dr v,dr È,Z d2,dq<|cA ws]/\Wk ch (aS J) (aG J) lr v È ws/\È<mv/\(∀n∈ws,n<J.length)/\iV d2 (BL<|ws.map<|aG J) ws.length) Vb
  (λ_=>False) (by
   rintro Y ⟨ws,È,d2,rfl,hw,hh,hn,h2⟩;have Hb:ws.length<=mv:=by rw[←ck (f:=aG J)];refine Õ.len_le hw.nd λx hx=>?_;obtain⟨n,h1,rfl⟩:=cX.mp hx;exact(pK _<|wn<|hn n h1).g
   refine⟨_,Cv È _ d2 _ _ _ _ _ h2,λht=>.inl ?_⟩;have vX:È∉ws.map (aG J):=by simpa using ht
   have D8:(ws.map (aG J)++[È]).Nodup:=dh.mpr ⟨hw.nd,by simp,λa ha b hb e=>vX<|by rw[←cw.mp hb,←e];exact ha⟩;have BC:=Õ.len_le (mv:=mv) D8 λx hx=>by
    rcases cH.mp hx with hx|hx
    ·obtain⟨n,h1,rfl⟩:=cX.mp hx;exact(pK _<|wn<|hn n h1).g
    ·rw[cw.mp hx];exact hh
   rw[cM,ck,eR]at BC;have hl:=hw.lr;obtain⟨n,c1,c2,c3,c4⟩:=rF È (by lia);obtain⟨d3,put,N6⟩:=h2.put (by lia) È ws.length;have put:=put [dq<|J.map dD,Z d,dr v,dr È,Z d2,dq<|cA ws] 4 (L 3) (eN fC<|Ä (L 5) Å) (by show fC [.lst<|cA ws]=_;rw[yk];unfold cA;rw[ck]) rfl rfl;have g1:=hD.get c1;have f1:=fs<|aN J n;have i1:dM (.lst<|J.map dD) (.int n)=Z (dD<|aN J n):=ya (by rw[cP,DC c2];rfl);refine⟨[dq<|J.map dD,Z d,dr v,dr ((aN J n).s:Int),Z d3,dq<|cA<|ws++[n]],?_,⟨ws++[n],(aN J n).s,d3,rfl,⟨λk hk=>?_,hw.way.snoc c3,?_,?_⟩,(pK _<|wn c2).s,λk hk=>?_,?_⟩,?_⟩
   ·have e3:cA (ws++[n])=cA ws++[.int n]:=by unfold cA;rw[dI];rfl
    have hz:(cA ws).length<16777216:=by unfold cA;rw[ck];lia
    rw[e3];generalize J.map dD=al,cA ws=wl,dD (aN J n)=ea at *;unfold kr;generalize pQ 4 (L 3) (eN fC<|Ä (L 5) Å)=PP at *;clear e3 N6 c1 c2 c3 c4 hl BC D8 vX ht Hb h2 hn hh hw Cv hD rF pK hv Oc hm;walk_at "mid"
   ·rcases cH.mp hk with hk|hk
    ·exact hw.ch k hk
    ·rw[cw.mp hk,c3];exact⟨c1,by lia⟩
   ·rw[dI,rB,c3];exact D8
   ·rw[cM,eR];have:(aN J n).s=aS J n:=rfl;rw[this];lia
   ·rcases cH.mp hk with hk|hk
    ·exact hn k hk
    ·rw[cw.mp hk];exact c2
   ·rw[cM,eR,dI,rB,c3];refine N6.congr λy=>?_;have:=ϣ (ws.map<|aG J) vX y;rw[ck]at this;exact this
   ·show 1000-(cA<|ws++[n]).length<1000-(cA ws).length;unfold cA;rw[ck,ck,cM,eR]
    lia) p6 [dq<|J.map dD,Z d,dr v,dr v,Z<|.dK [] [],dq<|cA []]
  ⟨[],v,.dK [] [],rfl,⟨λn hn=>(by cases hn),rfl,by simp,by simp⟩,hv,λn hn=>(by cases hn),iV.nil.congr λ_=>by simp[BL]⟩ (MV<|by show 1000-(cA []).length<1048576;lia)
 have n0:cA []=[]:=rfl;rw[n0]at lp;rcases lp with⟨ρ',l1,⟨ws,È,d2,rfl,hw,hh,hn,h2⟩,hc⟩|⟨_,_,f⟩
 ·rw[Cv È _ d2 _ _ _ _ _ h2]at hc;have EK:È∈ws.map (aG J):=by simpa using hc
  have hj:BL (ws.map<|aG J) È=Z ((ws.map<|aG J).idxOf È):=by unfold BL;rw[if_pos EK]
  have AH:=vO.mpr EK;have CB:(ws.map<|aG J)[(ws.map<|aG J).idxOf È]?=Z È:=by rw[cC AH,nk]
  generalize (ws.map<|aG J).idxOf È=j at *;rw[ck]at AH;rw[cP,cC AH]at CB;replace CB:aG J ws[j]=È:=by simpa using CB
  have wlk:yA (aS J) (aG J) È (ws.drop j) È:=by have:=hw.way.drop (j:=j) (n:=ws[j])<|cC AH;rw[CB]at this;exact this
  refine⟨(ws.drop j).reverse,È,?_,?_,wlk.wlk,?_,λn GZ=>?_⟩
  ·have gv:=h2.get hj;have M:â (cA ws) (Z (j:Int)) C=cA (ws.drop j):=by rw[vh];unfold cA;rw[lU]
   have lv:BO (.lst<|cA<|ws.drop j)=dq (cA (ws.drop j).reverse):=by show Z (D.lst (cA<|ws.drop j).reverse)=_;unfold cA;rw[←oP]
   unfold cR at l1;generalize cA (ws.drop j).reverse=wr at *;generalize cA (ws.drop j)=wd,J.map dD=al,cA ws=wl at *;unfold jN kA;generalize (tb<|λY=>((L 3) Y).bind λx=>((L 4) Y).bind λy=>(nD y x).bind λr=>Z<|.bl<|!r.isSome)=cc at *;clear wlk CB AH hj EK hc h2 hn hh hw Cv hD rF pK hv Oc hm;walk_at "mid"
  ·intro e;have:=congrArg nZ e;rw[fT,eM]at this;simp at this;lia
  ·rw[oP,lU];exact xS.mpr<|(og.sublist (AU _ _) hw.nd).imp λh e=>h e.symm
  ·exact hw.ch n<|p4<|sP.mp GZ
 ·exact f.elim
variable {B B' T' c1 c2 m2:Int}
theorem Ϣ {p q:Int×Int}(h1:Fz 9000 p)(h2:Fz 9000 q):pX [fr p,fr q]=Z (.bl<|Fq.under p q):=by have e1:=xo h1.1 h2.2 (by decide) (by decide);have S:=xo h2.1 h1.2 (by decide) (by decide);unfold pX;have f0:=Bd;have f1:=uJ;walk_at "mid";rfl
theorem RC {n:Nat}{x y:Int×Int}(lx:Fq.Low x)(ly:Fq.Low y)(hx:Fz n x)(hy:Fz n y):Fz (n+n+1) (Fq.plus x y) :=
 Ka (lx.mul_ne ly) (Sz.add (hx.1.mul hy.2)<|hy.1.mul hx.2) ((hx.2.mul hy.2).mono<|by lia)
theorem Ql {n m:Nat}{x:Int×Int}{k:Int}(lx:Fq.Low x)(hx:Fz n x)(hk:Sz m k):Fz (n+m) (Fq.scaled x k):=Ka lx.ne (hx.1.mul hk)<|hx.2.mono<|Nat.le_add_right _ _
theorem SR {n:Nat}{p q:Int×Int}(hn:n<=2000)(lp:Fq.Low p)(lq:Fq.Low q)(h1:Fz n p)(h2:Fz n q):tY [fr p,fr q]=Z (fr<|Fq.plus p q):=by have e1:=xo h1.1 h2.2 (by lia) (by lia);have S:=xo h2.1 h1.2 (by lia) (by lia);have e3:=xo h1.2 h2.2 (by lia) (by lia);have r:=qz (t:=p.1*q.2+q.1*p.2) (lp.mul_ne lq) ((h1.2.mul h2.2).mono<|by lia);have f0:=Bd;have f1:=uJ;unfold tY Fq.plus;clear h1 h2 lp lq hn;generalize fr (Fq.mk (p.1*q.2+q.1*p.2)<|p.2*q.2)=rr at *;walk_at "mid"
theorem ZL {n m:Nat}{p:Int×Int}{k:Int}(hn:n<=2000)(hm:m<=2000)(lp:Fq.Low p)(h1:Fz n p)(hk:Sz m k):rK [fr p,.int k]=Z (fr<|Fq.scaled p k):=by have e1:=xo h1.1 hk (by lia) (by lia);have r:=qz (t:=p.1*k) lp.ne (h1.2.mono<|by lia);have f0:=Bd;have f1:=uJ;unfold rK Fq.scaled;clear h1 hk lp hn hm;generalize fr (Fq.mk (p.1*k) p.2)=rr at *;walk_at "mid"
theorem Nm:Sz 1 (-1):=by unfold Sz;decide
theorem ϡ {n:Nat}{p q:Int×Int}(hn:n<=1000)(lp:Fq.Low p)(lq:Fq.Low q)(h1:Fz n p)(h2:Fz n q):pW [fr p,fr q]=Z (fr<|Fq.minus p q):=by have e1:=ZL (by lia) (by decide) lq h2 Nm;have S:=SR (n:=n+1) (by lia) lp (Fq.scaled_low lq<|-1) (h1.mono<|by lia)<|Ql lq h2 Nm;unfold pW Fq.minus;clear h1 h2 lp lq hn;generalize fr (Fq.plus p<|Fq.scaled q<|-1)=rr,fr (Fq.scaled q<|-1)=sq at *;walk_at "mid"
theorem ZM {n:Nat}{x y:Int×Int}(lx:Fq.Low x)(ly:Fq.Low y)(hx:Fz n x)(hy:Fz n y):Fz (n+1+(n+1)+1) (Fq.minus x y) :=
 RC lx (Fq.scaled_low ly<|-1) (hx.mono<|by lia) (Ql ly hy Nm)
theorem Ϡ (t:Int):Fq.Low (t,1):=⟨jP 1,by show iz t 1=1;simp⟩
noncomputable def eI (a:gR):D:=.tup [.int a.s,.int a.g,.int a.t,.int a.b]
def n9 (mv:Nat)(p:Int×Int)(T:Nat->Int):D:=.lst<|(cE mv).map λg=>fr<|Fq.mk (T g) p.2
def NK (mv:Nat)(J:List gR)(p:Int×Int)(cY:List Nat)(B:Int)(d:D):Prop :=
 (∃T:Nat->Int,d=.tup [.str "times",n9 mv p T]/\(∀n∈cY,T (aS J n)+gD J p n<=T (aG J n))/\∀x,0<=T x/\T x<=B) \/
 ∃(R:List Nat) (x:Nat),d=.tup [.str "ring",.lst<|cA R]/\R≠[]/\vF (aS J) (aG J) x R x/\(R.map<|aG J).Nodup/\(∀n∈R,n∈cY)/\0<(R.map<|gD J p).sum
theorem ϟ (mv:Nat):(cB mv [D.int 0]).flatten=i7 mv λ_=>0:=by
 unfold i7;rw[Ce,fk];induction mv with
 |zero=>rfl
 |succ n ih=>rw[eZ,ip,ih,eZ];rfl
theorem ZN {p:Int×Int}(hm:mv<=1000)(hp:p.2≠0)(uT:Sz 8000 p.2)(r:L3.Env)(h1:r[1]?.join=Z (fr p))(h3:r[3]?.join=dq (i7 mv T)):kF r=Z (n9 mv p T):=by
 unfold n9;refine yb (λ(g:Nat)=>D.int<|T g) (λg=>fr<|Fq.mk (T g) p.2) (cE mv) (by unfold Ù;have:L 3 r=_:=h3;rw[this];rfl) (by rw[fk];lia) λg _=>⟨_,rfl,?_⟩;have oz:jA r [1]=[Z<|fr p]:=by unfold jA;simp[h1]
 rw[oz];have p1:=uJ p;have ra:=qz (t:=T g) hp uT;generalize fr (Fq.mk (T g) p.2)=F,fr p=fp at *;clear oz h1 h3 hm uT;walk_at "mid"
theorem QX {p:Int×Int}(oA:ns.length=mv)(Od:1<=mv)(hm:mv<=900)(D4:cY.length<=1000)(pK:∀a∈J,Fx mv a)(hp:p.2≠0)(uT:Sz 8000 p.2)(hM:∀n,n<J.length->gD J p n<=U')(vV:0<=U')(hn:∀n∈cY,n<J.length) :
  ∃d,fw [de ns J,fr p,.lst<|cA cY]=Z d/\NK mv J p cY ((mv:Int)*((cY.length:Int)*U')) d:=by
 have ln:fC [.lst ns]=dr (mv:Int):=(yk _).trans (by rw[oA]);have Ku:=QW ns J;have IP:=uj ns J;have FH:0<=(cY.length:Int)*U':=jQ (by lia) vV;have lp:=j7 (g:=gV 6) (b:=gw) (n:=mv)
  (λi Y=>∃(T:Nat->Int) (d:D) (ch:Nat->Option Nat) (lr ts:Nat->Nat) (k:Nat) (pu:D) (y6:Option D),Y=[Z<|de ns J,Z<|fr p,dq<|cA cY,dq<|i7 mv T,Z d,Z pu,y6]/\vE cY (aS J) (aG J) (gD J p) (i+1) [] T ch lr ts k/\iV d ch (i*cY.length)/\(∀x,T x<=(i:Int)*((cY.length:Int)*U'))/\(∀x,lr x<=i)/\(i=0\/∃v:Nat,pu=.int v/\v<mv/\lr v=i))
  (NK mv J p cY<|(mv:Int)*((cY.length:Int)*U')) (by
   rintro i Y hi ⟨T,d,ch,lr,ts,k,pu,y6,rfl,hP,hD,hC,hl,_⟩;have FO:i*cY.length+cY.length<=1000000:=by have:i*cY.length<=900*1000:=DK (by lia) D4;lia
   obtain⟨T',d',wY,AI,B9,k',Ai,h1,h2,h3,h4,h5⟩:=Œ (ns:=ns) (cY:=cY) pK hM vV (Nat.succ_pos i) hn hP hD FO hC (λx=>by have:=hl x;lia);have GO:iQ d=Â/\iQ (.lst<|i7 mv T)=Â:=by obtain⟨ks,O,rfl,_⟩:=hD.is;exact⟨rfl,rfl⟩
   have hB:∀x,T' x<=((i+1:Nat):Int)*((cY.length:Int)*U'):=λx=>by have:=h4 x;rw[show((i+1:Nat):Int)=(i:Int)+1 by lia,zP,tJ];lia
   have KS:tQ 3 4 (Ä (L 0)<|Ä (L 1)<|Ä (L 2) Å) iN [Z<|de ns J,Z<|fr p,dq<|cA cY,dq<|i7 mv T,Z d,Z pu,dr i]=Z (Ai,[Z<|de ns J,Z<|fr p,dq<|cA cY,dq<|i7 mv T',Z d',Z pu,dr i]):=by obtain⟨c1,c2⟩:=GO;generalize i7 mv T=v0 at *;generalize i7 mv T'=v1,fr p=F,de ns J=net,cA cY=nl at *;unfold tQ;clear hP hD hC hl FO h2 h3 h4 h5 hB pK uT hM vV hn FH ln Ku IP;walk_at "mid"
   have ss:Ö 5 (tQ 3 4 (Ä (L 0)<|Ä (L 1)<|Ä (L 2) Å) iN) [Z<|de ns J,Z<|fr p,dq<|cA cY,dq<|i7 mv T,Z d,Z pu,dr i]=Z (.nx [Z<|de ns J,Z<|fr p,dq<|cA cY,dq<|i7 mv T',Z d',Z Ai,dr i]):=by unfold Ö;rw[KS];rfl
   refine⟨[Z<|de ns J,Z<|fr p,dq<|cA cY,dq<|i7 mv T,Z d,Z pu,dr i],rfl,?_⟩;rcases h5 with⟨rfl,Of⟩|⟨v,rfl,hv,Ja⟩
   ·refine .inr ⟨.tup [.str "times",n9 mv p T'],?_,.inl ⟨T',rfl,λn hn=>h2.dn n hn<|Of _,λx=>⟨h2.pos x,?_⟩⟩⟩
    ·have q:=ZN (T:=T') (p:=p) (mv:=mv) (by lia) hp uT [Z<|de ns J,Z<|fr p,dq<|cA cY,dq<|i7 mv T',Z d',Z .non,dr i] rfl rfl;have sc:(D.str "times").sc=Â:=rfl;generalize i7 mv T=v0 at *;generalize i7 mv T'=v1,fr p=F,de ns J=net,cA cY=nl,n9 mv p T'=TM at *;unfold gw FF;generalize Ö 5 (tQ 3 4 (Ä (L 0)<|Ä (L 1)<|Ä (L 2) Å) iN)=SM at *;clear hP hD hC hl FO h1 h2 h3 h4 Of hB pK uT hM vV hn FH ln Ku IP GO KS;walk_at "mid"
    ·have h6:=hB x;have h7:((i+1:Nat):Int)*((cY.length:Int)*U')<=(mv:Int)*((cY.length:Int)*U'):=cZ (by lia) FH;lia
   ·refine .inl ⟨[Z<|de ns J,Z<|fr p,dq<|cA cY,dq<|i7 mv T',Z d',dr v,dr i],?_,⟨T',d',wY,AI,B9,k',_,_,rfl,h2.next,?_,hB,h2.le,.inr ⟨v,rfl,hv,Ja⟩⟩⟩
    ·generalize i7 mv T=v0 at *;generalize i7 mv T'=v1,fr p=F,de ns J=net,cA cY=nl at *;unfold gw;generalize Ö 5 (tQ 3 4 (Ä (L 0)<|Ä (L 1)<|Ä (L 2) Å) iN)=SM at *;clear hP hD hC hl FO h1 h2 h3 h4 Ja hB pK uT hM vV hn FH ln Ku IP GO KS hv;walk_at "mid"
    ·rw[Nat.add_mul,Nat.one_mul];exact h3)
  mv 0 [Z<|de ns J,Z<|fr p,dq<|cA cY,dq<|i7 mv λ_=>0,Z<|.dK [] [],Z .non,C] (by lia)
  ⟨λ_=>0,.dK [] [],λ_=>C,λ_=>0,λ_=>0,1,.non,C,rfl,vE.start,iV.nil.mono<|by lia,λx=>by simp,λx=>cK 0,.inl rfl⟩
 have Oj:pA [.int mv]=Z ((cE mv).map λ(t:Nat)=>D.int t):=by rw[vq (by lia)<|by lia];unfold l7;simp
 have rp:yY (.lst [.int 0]) (.int mv)=dq (i7 mv λ_=>0):=by show(if -1000000<(mv:Int)/\(mv:Int)<1000000/\[D.int 0].length<=16 then Z (D.lst (cB (mv:Int).toNat [D.int 0]).flatten)else C)=_;rw[if_pos ⟨by lia,by lia,by simp⟩,i8,ϟ mv]
 rw[←pZ]at lp;rcases lp with⟨ρ',l1,⟨T,d,ch,lr,ts,k,pu,y6,rfl,hP,hD,hC,hl,hv⟩⟩|⟨w,l1,hw⟩
 ·rcases hv with hv|⟨v,rfl,hv,Ja⟩
  ·lia
  obtain⟨R,x,r1,r2,r3,r4,r5⟩:=ń (J:=J) (mv:=mv) (v:=v) hD (λx hx=>by obtain⟨n,c1,c2,c3,c4,_⟩:=hP.ch x hx;exact⟨n,c1,hn n c2,c3,c4⟩) pK hv (by lia) hm;have key:∀n∈R,n∈cY/\T (aG J n)<=T (aS J n)+gD J p n/\(T (aG J n)<T (aS J n)+gD J p n\/ts (aS J n)<ts (aG J n)):=λn UK=>by obtain⟨q1,q2⟩:=r5 n UK;obtain⟨n',c1,c2,c3,c4,c5,c6⟩:=hP.ch _ q2;rw[q1]at c1;have:=Option.some.inj c1;subst this;exact⟨c2,c5,c6⟩
  obtain⟨_,k2⟩:=vE.cost (T:=T) (ts:=ts) (K':=aS J) (W':=aG J) (c:=gD J p) (Q:=λn=>n∈R) (λn h=>(key n h).2) r3<|λn h=>h;refine⟨.tup [.str "ring",.lst<|cA R],?_,.inr ⟨R,x,rfl,r2,r3,r4,λn h=>(key n h).1,?_⟩⟩
  ·have sc:(D.str "ring").sc=Â:=rfl;clear hP hD hC hl Ja hv key k2 r2 r3 r4 r5 pK uT hM vV hn FH;generalize i7 mv T=v0,(i7 mv λ_=>0)=v1,fr p=F,J.map dD=al,de ns J=net,cA cY=nl,cA R=rl,(cE mv).map (λ(t:Nat)=>D.int t)=LM at *;unfold fw FF;walk_at "mid"
  ·rcases k2 with k2|k2|k2
   ·exact absurd k2 r2
   ·lia
   ·lia
 ·refine⟨w,?_,hw⟩;clear hw pK uT hM vV hn FH;generalize (i7 mv λ_=>0)=v1,fr p=F,J.map dD=al,de ns J=net,cA cY=nl,(cE mv).map (λ(t:Nat)=>D.int t)=LM at *;unfold fw FF;walk_at "mid"
theorem Ń {n:Nat}(h1:n<J.length):dM (.lst<|J.map eI) (.int n)=Z (.tup [.int ((aN J n).s:Int),.int ((aN J n).g:Int),.int (aN J n).t,.int ((aN J n).b:Int)]):=ya (by rw[cP,DC h1];rfl)
def tN (J:List gR)(n:Nat):Int:=(aN J n).t
def bN (J:List gR)(n:Nat):Int:=((aN J n).b:Int)
theorem JR {J:List gR}{p:Int×Int}:∀w:List Nat,(w.map<|gD J p).sum=(w.map<|tN J).sum*p.2-(w.map<|bN J).sum*p.1
 |[]=>by simp
 |n::w=>by
  rw[cI,cI,cI,d7,d7,d7,JR w];unfold gD tN bN
  grind
theorem JS {f:Nat->Int}{m:Int}(hm:0<=m):∀is:List Nat,(∀i∈is,0<=f i/\f i<=m)->0<=(is.map f).sum/\(is.map f).sum<=m*(is.length:Int)
 |[],_=>by simp
 |i::is,h=>by obtain⟨h1,h2⟩:=JS hm is λj hj=>h j<|cj _ hj;obtain⟨h3,h4⟩:=h i b7;rw[cI,d7,cz];refine⟨by lia,?_⟩;rw[show((is.length+1:Nat):Int)=(is.length:Int)+1 by lia,Int.mul_add,tH];lia
theorem QY {J:List gR}{rank:Nat->Nat}(Jd:∀a∈J,a.b=0->rank a.s<rank a.g):∀{w:List Nat} {a b:Nat},vF (aS J) (aG J) a w b->(∀n∈w,n<J.length)->0<=(w.map<|bN J).sum/\((w.map<|bN J).sum=0->rank a+w.length<=rank b)
 |[],a,b,h,_=>by have h:a=b:=h;subst h;simp
 |n::w,a,b,h,hn=>by
  obtain⟨i1,i2⟩:=QY Jd h.2 λm hm=>hn m<|cj _ hm;rw[cI,d7,cz];have h0:0<=bN J n:=by unfold bN;lia
  refine⟨by lia,λe=>?_⟩;have h1:bN J n=0:=by lia
  have h2:=Jd _ (wn<|hn n b7) (by unfold bN at h1;lia);have h3:=i2 (by lia);have e1:a=(aN J n).s:=h.1.symm;have S:aG J n=(aN J n).g:=rfl;rw[S]at h3;rw[e1];lia
theorem SS {w:List Nat}{j:Int}{f:gR->Int}{q:EF}(hq:q=fF fi 1 [0] (gV 0) g0 (S dM (S dM (L 1)<|L 0)<|eC<|.int j))(hf:∀a:gR,dM (.tup [.int a.s,.int a.g,.int a.t,.int a.b]) (.int j)=dr (f a))(hl:w.length<=1000)(hr:∀n∈w,n<J.length)(r:L3.Env)(h0:r[0]?.join=dq (J.map eI))(hi:fi r=Z (cA w)) :
  q r=dq ((w.map λn=>f<|aN J n).map .int):=by
 rw[hq,c7];refine yb (λ(n:Nat)=>D.int n) (λn=>D.int<|f<|aN J n) w hi (by lia) λn hn=>⟨_,rfl,?_⟩;have oz:jA r [0]=[dq<|J.map eI]:=by unfold jA;simp[h0]
 rw[oz];have i1:=Ń (J:=J)<|hr n hn;have f1:=hf<|aN J n;generalize f (aN J n)=v,J.map eI=al,(D.tup [.int ((aN J n).s:Int),.int ((aN J n).g:Int),.int (aN J n).t,.int ((aN J n).b:Int)])=tp at *;clear oz h0 hr hn hl hf hq hi;walk_at "mid"
theorem Ϟ {T m1 K' P:Int}(hc:0<c2)(hm:0<m2)(v:m1*(2*B*c2)=(T*c2+c1*B)*m2)(h:(c1*B-T*c2)*P<=K'*c2*B):(m1*B-T*m2)*(2*P)<=K'*m2*B:=by
 have e:(m1*B-T*m2)*(2*P)*c2=(c1*B-T*c2)*P*m2:=by
  have:(m1*B-T*m2)*(2*P)*c2=(m1*(2*B*c2)-2*T*c2*m2)*P:=by grind
  rw[this,v];grind
 have h1:=cZ h<|eY hm;rw[←e]at h1;have S:K'*c2*B*m2=K'*m2*B*c2:=by grind
 rw[S]at h1;exact gM h1 hc
theorem ł {T T2 B2 m1 K' P:Int}(hc:0<c2)(hm:0<m2)(hB:0<B)(Uj:0<B2)(hP:0<P)(v:m1*(2*B*c2)=(T*c2+c1*B)*m2)(ha:m1*B2<T2*m2)(h:(c1*B-T*c2)*P<=K'*c2*B):(c1*B2-T2*c2)*(2*P)<=K'*c2*B2:=by
 have k1:(c1*B2-T2*c2)*m2<=B2*(c1*m2-m1*c2):=by
  have:=cZ (eY ha)<|eY hc
  grind
 have k2:(c1*m2-m1*c2)*(2*B)=m2*(c1*B-T*c2):=by grind
 have k3:(c1*B2-T2*c2)*m2*(2*B)<=B2*(m2*(c1*B-T*c2)):=by have:=cZ k1 (show(0:Int)<=2*B by lia);rw[Int.mul_assoc B2,k2]at this;exact this
 have k4:=cZ k3<|eY hP;have k5:=eF h<|eY<|gr Uj hm;have k6:(c1*B2-T2*c2)*(2*P)*(m2*B)<=K'*c2*B2*(m2*B):=by
  have e1:(c1*B2-T2*c2)*(2*P)*(m2*B)=(c1*B2-T2*c2)*m2*(2*B)*P:=by grind
  have S:B2*(m2*(c1*B-T*c2))*P=B2*m2*((c1*B-T*c2)*P):=by grind
  have e3:B2*m2*(K'*c2*B)=K'*c2*B2*(m2*B):=by grind
  rw[e1];rw[S]at k4;rw[e3]at k5;exact xL k4 k5
 exact gM k6<|gr hm hB
theorem ő {T D:Int}(hc:0<c2)(hB:0<B)(Uk:B<=D)(NU:0<B')(KA:B'<=D)(h:(c1*B-T*c2)*(D*D)<c2*B)(hu:T' * c2<=c1*B'):T' * B<=T*B':=by
 apply Int.not_lt.mp;intro hn;have k1:c2<=B' * (c1*B-T*c2):=by
  have a1:c2<=(T' * B-T*B')*c2:=by have:1*c2<=(T' * B-T*B')*c2:=cZ (by lia)<|eY hc;lia
  have a2:=eF hu<|eY hB
  grind
 have hx:0<=c1*B-T*c2:=by apply Int.not_lt.mp;intro z;have:=Int.mul_lt_mul_of_pos_left z NU;lia
 generalize c1*B-T*c2=x at *;have k2:=cZ k1<|eY hB;have k3:B' * x*B<=x*(D*D):=by
  have b1:B' * B<=D*D:=gP KA Uk (eY hB) (by lia);have b2:=eF b1 hx;have e:B' * x*B=x*(B' * B):=by grind
  rw[e];exact b2
 lia
theorem ϝ {T K' P D:Int}(hx:c2*B<=(c1*B-T*c2)*(D*D))(hc:0<c2)(hB:0<B)(hS:0<=K')(hP:0<P)(h:(c1*B-T*c2)*P<=K'*c2*B):P<=K'*(D*D):=by
 have pos:0<c2*B:=gr hc hB;have UX:0<c1*B-T*c2:=by
  apply Int.not_le.mp;intro z;have hD:0<=D*D:=by
   rcases Int.le_total 0 D with h|h
   ·exact jQ h h
   ·exact rP h h
  have:(c1*B-T*c2)*(D*D)<=0:=Int.mul_nonpos_of_nonpos_of_nonneg z hD;lia
 generalize c1*B-T*c2=x at *;have k1:=eF hx hS;have e1:K'*(c2*B)=K'*c2*B:=by grind
 rw[e1]at k1;have k2:x*P<=x*(K'*(D*D)):=by
  have S:K'*(x*(D*D))=x*(K'*(D*D)):=by grind
  rw[S]at k1;exact xL h k1
 exact Int.le_of_mul_le_mul_left k2 UX
theorem Ő {T m1 K':Int}(hc:0<c2)(hB:0<B)(hm:0<m2)(hT:T<=K'*B)(h:c1<=K'*c2)(v:m1*(2*B*c2)=(T*c2+c1*B)*m2):m1<=K'*m2:=by
 have k1:=cZ hT<|eY hc;have k2:=cZ h<|eY hB;have k3:T*c2+c1*B<=K'*(2*B*c2):=by grind
 have k4:=cZ k3<|eY hm;rw[←v]at k4;have e:K'*(2*B*c2)*m2=K'*m2*(2*B*c2):=by grind
 rw[e]at k4;have pos:0<2*B*c2:=gr (by lia) hc;exact gM k4 pos
theorem ŏ {T q1 q2:Int}(hB:0<B)(hq:0<q2)(e:q1*B=T*q2)(h:T' * B<=T*B'):T' * q2<=q1*B':=by
 have k:=cZ h<|eY hq;have e1:T' * B*q2=T' * q2*B:=by grind
 have S:T*B' * q2=q1*B' * B:=by
  have:T*B' * q2=T*q2*B':=by grind
  rw[this,←e];grind
 rw[e1,S]at k;exact gM k hB
variable {R:List Nat}{mb:Nat}{rk:Nat->Nat}
def sT (J:List gR)(R:List Nat):Int:=(R.map<|tN J).sum
def sB (J:List gR)(R:List Nat):Int:=(R.map<|bN J).sum
structure RG (J:List gR)(cY:List Nat)(R:List Nat):Prop where
 ne:R≠[]
 w:∃x,vF (aS J) (aG J) x R x
 nd:(R.map<|aG J).Nodup
 m:∀n∈R,n∈cY
structure GN (mv:Nat)(J:List gR)(cY:List Nat)(rk:Nat->Nat)(mb:Nat):Prop where
 m1:1<=mv
 m:mv<=40
 al:J.length<=120
 ok:∀a∈J,Fx mv a
 n:∀n∈cY,n<J.length
 nl:cY.length<=120
 r:∀a∈J,a.b=0->rk a.s<rk a.g
 b1:1<=mb
 b4:mb<=4
 b:∀a∈J,a.b<=mb
theorem SU {f:Nat->Int}:∀cY:List Nat,(∀n∈cY,0<=f n)->0<=(cY.map f).sum
 |[],_=>by simp
 |n::cY,h0=>by rw[cI,d7];have:=SU cY λm hm=>h0 m<|cj _ hm;have:=h0 n b7;lia
theorem ZO {l1 l2:List Int}(p:l1.Perm l2):l1.sum=l2.sum:=by
 induction p with
 |nil=>rfl
 |cons x _ ih=>rw[d7,d7,ih]
 |swap x y l=>rw[d7,d7,d7,d7];lia
 |trans _ _ U3 U4=>exact U3.trans U4
theorem QZ {f:Nat->Int}:∀(R cY:List Nat),(∀n∈cY,0<=f n)->R.Nodup->(∀n∈R,n∈cY)->(R.map f).sum<=(cY.map f).sum
 |[],cY,h0,_,_=>by have:=SU cY h0;simpa using this
 |n::R,cY,h0,nd,hs=>by
  have hn:=hs n b7;have p:=List.perm_cons_erase hn;have e:(cY.map f).sum=f n+((cY.erase n).map f).sum:=by have p2:=p.map f;rw[cI]at p2;rw[ZO p2,d7]
  obtain⟨n1,n2⟩:=dz.mp nd;have ih:=QZ R (cY.erase n) (λm hm=>h0 m<|List.mem_of_mem_erase hm) n2 λm hm=>(List.mem_erase_of_ne<|λ(z:m=n)=>n1<|by rw[←z];exact hm).mpr<|hs m<|cj _ hm;rw[cI,d7,e];lia
theorem RG.lt (h:RG J cY R)(g:GN mv J cY rk mb):∀n∈R,n<J.length:=λn hn=>g.n n<|h.m n hn
theorem RG.len (h:RG J cY R)(g:GN mv J cY rk mb):R.length<=mv:=by rw[←ck (f:=aG J)];refine Õ.len_le h.nd λy hy=>?_;obtain⟨n,q1,rfl⟩:=cX.mp hy;exact(g.ok _<|wn<|h.lt g n q1).g
theorem RG.bds (h:RG J cY R)(g:GN mv J cY rk mb):(0<=sT J R/\sT J R<=sT J cY)/\1<=sB J R/\sB J R<=(mv:Int)*mb:=by
 have hn:=h.lt g;have hl:=h.len g;obtain⟨x,hx⟩:=h.w;obtain⟨r1,r2⟩:=QY (rank:=rk) g.r hx hn;have hwp:=mF.mpr h.ne;have bt:=JS (f:=tN J) (m:=1000000000) (by decide) R λn h=>⟨(g.ok _<|wn<|hn n h).t0,(g.ok _<|wn<|hn n h).t1⟩;have bb:=JS (f:=bN J) (m:=(mb:Int)) (by lia) R λn h=>by have:=g.b _<|wn<|hn n h;unfold bN;lia
 have IW:1<=(R.map<|bN J).sum:=by
  by_cases e:(R.map<|bN J).sum=0
  ·have:=r2 e;lia
  ·lia
 have nd:R.Nodup:=og.of_map (S:=(·≠·)) (aG J) (λa b h e=>h<|by rw[e]) h.nd;refine⟨⟨bt.1,?_⟩,IW,?_⟩
 ·exact QZ R cY (λn hn=>(g.ok _<|wn<|g.n n hn).t0) nd h.m
 ·have:(mb:Int)*(R.length:Int)<=mb*(mv:Int):=eF (by lia) (by lia);have e:(mb:Int)*(mv:Int)=mv*(mb:Int):=sk _ _;have:=bb.2;unfold sB;lia
theorem GN.st (g:GN mv J cY rk mb):0<=sT J cY/\sT J cY<=120000000000:=by have bt:=JS (f:=tN J) (m:=1000000000) (by decide) cY λn h=>⟨(g.ok _<|wn<|g.n n h).t0,(g.ok _<|wn<|g.n n h).t1⟩;have:=g.nl;exact⟨bt.1,by have:=bt.2;unfold sT;lia⟩
theorem GN.Dd (g:GN mv J cY rk mb):1<=(mv:Int)*mb/\(mv:Int)*(mb:Int)<=160:=by have h1:=g.m1;have h2:=g.b1;have a:(1:Int)*1<=(mv:Int)*mb:=gP (by lia) (by lia) (by decide) (by lia);have b:(mv:Int)*(mb:Int)<=40*4:=gP (by have:=g.m;lia) (by have:=g.b4;lia) (by lia) (by decide);lia
theorem Qm {p:Int×Int}{T:Nat->Int}(hk:∀n∈cY,T (aS J n)+gD J p n<=T (aG J n)):∀{w:List Nat} {a b:Nat},vF (aS J) (aG J) a w b->(∀n∈w,n∈cY)->T a+(w.map<|gD J p).sum<=T b
 |[],a,b,h,_=>by have h:a=b:=h;subst h;simp
 |n::w,a,b,h,hn=>by have i1:=Qm hk h.2 λm hm=>hn m<|cj _ hm;have i2:=hk n<|hn n b7;rw[h.1]at i2;rw[cI,d7];lia
def Kp (J:List gR)(cY:List Nat)(p:Int×Int):Prop:=∃T:Nat->Int,∀n∈cY,T (aS J n)+gD J p n<=T (aG J n)
theorem Kp.le {p:Int×Int}(h:Kp J cY p)(hR:RG J cY R):sT J R*p.2<=p.1*sB J R:=by obtain⟨T,hT⟩:=h;obtain⟨x,hx⟩:=hR.w;have:=Qm hT hx hR.m;rw[JR]at this;unfold sT sB;rw[sk p.1];lia
theorem RD (J:List gR)(p:Int×Int):∀k:Nat,∃U':Int,0<=U'/\∀n,n<k->gD J p n<=U'
 |0=>⟨0,jP 0,λn h=>absurd h<|by lia⟩
 |k+1=>by
  obtain⟨U',h1,h2⟩:=RD J p k;refine⟨max U'<|gD J p k,by lia,λn hn=>?_⟩;by_cases e:n=k
  ·rw[e];lia
  ·have:=h2 n (by lia);lia
theorem RE {p:Int×Int}(g:GN mv J cY rk mb)(oA:ns.length=mv)(hp:0<p.2)(hz:Sz 8000 p.2) :
  ∃d,iR [de ns J,fr p,.lst<|cA cY]=Z d/\((d=.non/\Kp J cY p)\/∃R,d=.lst (cA R)/\RG J cY R/\p.1*sB J R<sT J R*p.2):=by
 obtain⟨U',vV,hM⟩:=RD J p J.length;obtain⟨d,h1,h2⟩:=QX (ns:=ns) (cY:=cY) (p:=p) oA g.m1 (by have:=g.m;lia) (by have:=g.nl;lia) g.ok (by lia) hz hM vV g.n;have i0:∀(a b:D),dM (.tup [a,b]) (.int 0)=Z a:=λ_ _=>rfl;have i1:∀(a b:D),dM (.tup [a,b]) (.int 1)=Z b:=λ_ _=>rfl;rcases h2 with⟨T,rfl,h3,_⟩|⟨R,x,rfl,r1,r2,r3,r4,r5⟩
 ·refine⟨.non,?_,.inl ⟨rfl,T,h3⟩⟩;have e1:gb Ã (.str "times") (.str "ring")=Z (.bl Ã):=by with_unfolding_all rfl
  generalize n9 mv p T=TM at *;clear h3 hM vV hz hp g;generalize fr p=F,de ns J=net,cA cY=nl at *;unfold iR;walk_at "mid"
 ·refine⟨.lst<|cA R,?_,.inr ⟨R,rfl,⟨r1,⟨x,r2⟩,r3,r4⟩,?_⟩⟩
  ·have e1:gb Ã (.str "ring") (.str "ring")=Z (.bl Â):=by with_unfolding_all rfl
   generalize cA R=rl at *;clear r1 r2 r3 r4 r5 hM vV hz hp g;generalize fr p=F,de ns J=net,cA cY=nl at *;unfold iR;walk_at "mid"
  ·rw[JR]at r5;unfold sT sB;rw[sk p.1];lia
theorem M2 (g:GN mv J cY rk mb)(h:RG J cY R):oU [de ns J,.lst<|cA R]=Z (fr<|Fq.mk (sT J R)<|sB J R):=by
 have hb:=h.bds g;have e1:((R.map λ(n:Nat)=>(n:Int)).map<|tI J)=R.map (tN J):=by rw[c7];exact gA λn _=>by simp[tI,tN]
 have S:((R.map λ(n:Nat)=>(n:Int)).map<|bI J)=R.map (bN J):=by rw[c7];exact gA λn _=>by simp[bI,bN]
 have en:(R.map λ(n:Nat)=>(n:Int)).map D.int=cA R:=by rw[c7];rfl
 have m:=œ (ns:=ns) (J:=J) (is:=R.map λ(n:Nat)=>(n:Int)) (by rw[ck];have:=h.len g;have:=g.m;lia) (λa ha=>(g.ok a ha).b) (λi hi=>by
  obtain⟨n,h1,rfl⟩:=cX.mp hi;have:=h.lt g n h1
  lia) (by rw[S];have:=hb.2.1;unfold sB at this;lia)
 rw[e1,S,en]at m;exact m
theorem Ϝ (hl:J.length<=120):∃mb:Nat,sU 4 "most_behind" eS (de ns J) []=dr mb/\1<=mb/\(∀a∈J,a.b<=mb)/\∀k:Nat,1<=k->(∀a∈J,a.b<=k)->mb<=k:=by
 have q:mj [Z<|de ns J]=dq ((J.map λa=>(a.b:Int)).map .int):=by rw[c7];refine yb (own:=1) (cap:=[]) (g:=gV 0) dD (λa=>D.int a.b) J (by rfl) (by lia) λa _=>⟨_,rfl,?_⟩;exact fb a
 have ad:d9 (.lst [.int 1]) (.lst<|(J.map λa=>(a.b:Int)).map .int)=dq ((1::J.map λa=>(a.b:Int)).map .int):=by rw[x6<|by simp;lia];rfl
 have mx:∃v:Int,E4 [.lst<|(1::J.map λa=>(a.b:Int)).map .int]=dr v/\v∈(1::J.map λa=>(a.b:Int))/\∀z∈(1::J.map λa=>(a.b:Int)),z<=v:=by refine⟨_,?_,Qw (ns:=1::J.map λa=>(a.b:Int)) rfl⟩;show(mT<|(1::J.map λa=>(a.b:Int)).map .int).bind _=_;rw[ju];rfl
 obtain⟨v,v1,v2,v3⟩:=mx;have Lk:=v3 1 b7;refine⟨v.toNat,?_,by lia,λa ha=>?_,λk hk UH=>?_⟩
 ·have e:((v.toNat:Nat):Int)=v:=by lia
  rw[e];show eS [de ns J]=_;generalize (1::J.map λa=>(a.b:Int)).map D.int=l1 at *;generalize (J.map λa=>(a.b:Int)).map D.int=l2,de ns J=net at *;clear hl v2 v3 Lk e;unfold eS;walk_at "mid"
 ·have:=v3 (a.b:Int)<|cj _<|cX.mpr ⟨a,ha,rfl⟩;lia
 ·rcases cu.mp v2 with h|h
  ·lia
  ·obtain⟨a,ha,e⟩:=cX.mp h;have:=UH a ha;lia
theorem Ł (oA:ns.length=mv)(yU:sU 4 "most_behind" eS (de ns J) []=dr mb)(h1:1<=(mv:Int)*mb)(h2:(mv:Int)*(mb:Int)<=160)(h3:mb<=4):nH [de ns J]=Z (fr<|Fq.mk 1<|(mv:Int)*mb*((mv:Int)*mb)):=by have ln:fC [.lst ns]=dr (mv:Int):=(yk _).trans (by rw[oA]);have f5:=QW ns J;have m1:e7 (.int mv) (.int mb)=dr (mv*mb):=ua (by lia) (by lia);have hD:0<(mv:Int)*mb*((mv:Int)*mb)/\(mv:Int)*(mb:Int)*((mv:Int)*mb)<=160*160:=⟨gr (by lia)<|by lia,gP h2 h2 (by lia)<|by decide⟩;generalize (mv:Int)*(mb:Int)=D0 at *;have m2:e7 (.int D0) (.int D0)=dr (D0*D0):=ua (by lia) (by lia);have ra:=qz (t:=1) (b:=D0*D0) (by lia) (vg (w:=25600) (by lia) (by lia)<|by decide);generalize fr (Fq.mk 1<|D0*D0)=F,de ns J=net at *;clear hD h1 h2 h3;unfold nH;walk_at "mid"
theorem Ŏ {p q:Int×Int}{a b c d:Int}(lp:Fq.Low p)(lq:Fq.Low q)(h1:p.1*b=a*p.2)(h2:q.1*d=c*q.2):(Fq.plus p q).1*(b*d)=(a*d+c*b)*(Fq.plus p q).2:=by
 have v:=Fq.plus_v p q;generalize Fq.plus p q=s at *;have pU:p.2*q.2≠0:=lp.mul_ne lq;obtain⟨p1,p2⟩:=p;obtain⟨q1,q2⟩:=q;obtain⟨s1,s2⟩:=s;dsimp only at *;apply nv pU;have e:(a*d+c*b)*s2*(p2*q2)=(a*p2*(d*q2)+c*q2*(b*p2))*s2:=by grind
 rw[e,←h1,←h2];have S:(p1*b*(d*q2)+q1*d*(b*p2))*s2=(p1*q2+q1*p2)*s2*(b*d):=by grind
 rw[S,←v]
 grind
def vY (p q:Int×Int):Int×Int:=Fq.mk (Fq.plus p q).1<|(Fq.plus p q).2*2
theorem ZP {p q:Int×Int}{n:Nat}(hn:n<=2000)(lp:Fq.Low p)(lq:Fq.Low q)(zp:Fz n p)(zq:Fz n q):rJ [fr p,fr q]=Z (fr<|vY p q):=by have pl:=SR hn lp lq zp zq;have zz:=RC lp lq zp zq;have ll:=Fq.plus_low lp lq;unfold vY;generalize Fq.plus p q=s at *;have f0:=Bd s;have f1:=uJ s;have m1:e7 (.int s.2) (.int 2)=dr (s.2*2):=ua (by decide) (by decide);have two:Sz 2 (2:Int):=vg (w:=2) (by decide) (by decide) (by decide);have ra:=qz (t:=s.1) (b:=s.2*2) (by have:=ll.gt;lia) ((zz.2.mul two).mono<|by lia);generalize fr (Fq.mk s.1<|s.2*2)=F,fr s=K',fr p=Fp,fr q=Fq' at *;clear zz ll lp lq zp zq two hn;unfold rJ;walk_at "mid"
theorem ō {p q:Int×Int}{a b c d:Int}(lp:Fq.Low p)(lq:Fq.Low q)(h1:p.1*b=a*p.2)(h2:q.1*d=c*q.2):(vY p q).1*(2*b*d)=(a*d+c*b)*(vY p q).2:=by
 have v:=Ŏ lp lq h1 h2;have m:=Fq.mk_cross (Fq.plus p q).1<|(Fq.plus p q).2*2;have g:=(Fq.plus_low lp lq).gt;unfold vY;generalize Fq.mk (Fq.plus p q).1 ((Fq.plus p q).2*2)=m' at *;generalize Fq.plus p q=s at *;obtain⟨m1,m2⟩:=m';obtain⟨s1,s2⟩:=s;dsimp only at *;apply nv (show s2≠0 by lia);have e1:m1*(2*b*d)*s2=m1*(s2*2)*(b*d):=by grind
 have S:(a*d+c*b)*m2*s2=(a*d+c*b)*s2*m2:=by grind
 rw[e1,S,←v,m]
 grind
theorem Q4 {p q:Int×Int}(lp:Fq.Low p)(lq:Fq.Low q):Fq.Low (vY p q):=Fq.mk_low (by have:=(Fq.plus_low lp lq).gt;lia)
theorem ϛ {p q:Int×Int}(lp:Fq.Low p)(lq:Fq.Low q):(vY p q).2<=p.2*q.2*2:=by have h1:=Fq.mk_le_two (t:=(Fq.plus p q).1) (b:=(Fq.plus p q).2*2) (by have:=(Fq.plus_low lp lq).gt;lia);have h2:=Fq.mk_le_two (t:=p.1*q.2+q.1*p.2) (b:=p.2*q.2)<|lp.mul_ne lq;have g1:=(Fq.plus_low lp lq).gt;have g2:=(Q4 lp lq).gt;have g3:=gr lp.gt lq.gt;have e:(Fq.mk (p.1*q.2+q.1*p.2)<|p.2*q.2)=Fq.plus p q:=rfl;rw[e]at h2;have S:Fq.mk (Fq.plus p q).1 ((Fq.plus p q).2*2)=vY p q:=rfl;rw[S]at h1;lia
theorem q0 {c:BF}{b:SF}(N:Nat)(I:Nat->L3.Env->Prop)(st:∀i Y,I i Y->∃t,c Y=Z t/\(t=Â->i<N/\∃ρ',b Y=Z (.nx ρ')/\I (i+1) ρ')) :
  ∀(k i:Nat) (Y:L3.Env),I i Y->i<=N->N<i+k->∃i' ρ',lE c b k Y=Z (.nx ρ')/\I i' ρ'/\c ρ'=Z Ã
 |0,i,Y,_,h1,h2=>absurd h2 (by lia)
 |k+1,i,Y,hI,hi,h=>by
  obtain⟨t,h1,h2⟩:=st i Y hI;cases t with
  |false=>exact⟨i,Y,by show(c Y).bind _=_;rw[h1];rfl,hI,h1⟩
  |true=>obtain⟨CA,ρ',h3,h4⟩:=h2 rfl;obtain⟨i',ρ2,h6,h7,h8⟩:=q0 N I st k (i+1) ρ' h4 (by lia) (by lia);refine⟨i',ρ2,?_,h7,h8⟩;show(c Y).bind _=_;rw[h1];show(b Y).bind _=_;rw[h3];exact h6
def cG:BF:=Ú<|tb<|cl pX<|Ä (cl pW<|Ä (L 3)<|Ä (cl oU<|Ä (L 0)<|Ä (L 2) Å) Å)<|Ä (L 4) Å
structure GI (J:List gR)(cY:List Nat)(i:Nat)(R:List Nat)(c:Int×Int):Prop where
 r:RG J cY R
 low:Fq.Low c
 up:∀R',RG J cY R'->sT J R' * c.2<=c.1*sB J R'
 le:c.1<=sT J cY*c.2
 sz:c.2<=((320 ^ i:Nat):Int)
 d:(c.1*sB J R-sT J R*c.2)*((2 ^ i:Nat):Int)<=sT J cY*c.2*sB J R
theorem GI.pos {i:Nat}{c:Int×Int}(h:GI J cY i R c)(g:GN mv J cY rk mb):0<=c.1:=by have hb:=h.r.bds g;have h1:=h.up R h.r;have h2:0<=sT J R*c.2:=jQ hb.1.1 (by have:=h.low.gt;lia);exact l9 (b:=sB J R) (by lia) (by lia)
theorem BY {i:Nat}(h:i<=60):((320 ^ i:Nat):Int)<=((320 ^ 60:Nat):Int):=by have:=gu (n:=320) (by decide) h;exact Int.ofNat_le.mpr this
theorem Ah:120000000000*((320 ^ 60:Nat):Int)<2 ^ 700:=by decide +kernel
theorem GI.fz {i:Nat}{c:Int×Int}(h:GI J cY i R c)(g:GN mv J cY rk mb)(hi:i<=60):Fz 700 c:=by have h0:=h.pos g;have h1:=h.low.gt;have h2:=h.sz;have h3:=BY hi;have h4:=Ah;have h5:=h.le;have h6:sT J cY*c.2<=120000000000*((320 ^ 60:Nat):Int):=gP g.st.2 (by lia) (by lia) (by decide);generalize ((320 ^ 60:Nat):Int)=K at *;exact⟨vg (w:=120000000000*K) (by lia) (by lia) h4,vg (w:=120000000000*K) (by lia) (by lia) h4⟩
theorem JT (h:RG J cY R)(g:GN mv J cY rk mb):Fq.Low (Fq.mk (sT J R)<|sB J R)/\Fz 700 (Fq.mk (sT J R)<|sB J R)/\(Fq.mk (sT J R)<|sB J R).2<=160/\(0<=(Fq.mk (sT J R)<|sB J R).1/\(Fq.mk (sT J R)<|sB J R).1<=120000000000):=by
 obtain⟨⟨t1,t2⟩,b1,b2⟩:=h.bds g;have hD:=g.Dd;have hS:=g.st;have l:=Fq.mk_low (t:=sT J R) (b:=sB J R) (by lia);have k1:=Fq.mk_le_one (t:=sT J R) (b:=sB J R) (by lia);have k2:=Fq.mk_le_two (t:=sT J R) (b:=sB J R) (by lia);have c:=Fq.mk_cross (sT J R)<|sB J R;have gg:=l.gt;have n0:0<=(Fq.mk (sT J R)<|sB J R).1:=by refine l9 (b:=sB J R) ?_ (by lia);rw[c];exact jQ t1 (by lia)
 exact⟨l,Ka (by lia) (vg (w:=120000000000) (by lia) (by lia)<|by decide)<|vg (w:=160) (by lia) (by lia)<|by decide,by lia,n0,by lia⟩
theorem Ō {T D0:Int}{c:Int×Int}(lc:Fq.Low c)(hB:0<B)(hD:0<D0):Fq.under (Fq.minus c<|Fq.mk T B) (Fq.mk 1<|D0*D0)=decide ((c.1*B-T*c.2)*(D0*D0)<c.2*B):=by
 have lm:=Fq.mk_low (t:=T) (b:=B) (by lia);have EH:0<D0*D0:=gr hD hD;have lg:=Fq.mk_low (t:=1) (b:=D0*D0) (by lia);have cm:=Fq.mk_cross T B;have cg:=Fq.mk_cross 1<|D0*D0;have v:=Fq.minus_v (p:=c) (q:=Fq.mk T B) lm;have ll:=Fq.minus_low lc lm;generalize Fq.mk T B=m,Fq.mk 1 (D0*D0)=gp at *;generalize Fq.minus c m=d at *;have hm:=lm.gt;have hc:=lc.gt;have v2:d.1*(c.2*B)=(c.1*B-T*c.2)*d.2:=by
  obtain⟨d1,d2⟩:=d;obtain⟨m1,m2⟩:=m;obtain⟨c1,c2⟩:=c;dsimp only at *;apply nv (show m2≠0 by lia);have e1:d1*(c2*B)*m2=d1*(c2*m2)*B:=by grind
  have S:(c1*B-T*c2)*d2*m2=(c1*m2*B-T*m2*c2)*d2:=by grind
  rw[e1,v,S,←cm]
  grind
 have e:=Fq.lt_congr (n:=d.1) (d:=d.2) (m:=c.1*B-T*c.2) (e:=c.2*B) (n':=gp.1) (d':=gp.2) (m':=1) (e':=D0*D0) ll.gt (gr hc hB) lg.gt EH v2 cg;unfold Fq.under;refine decide_eq_decide.mpr<|e.trans ?_;rw[tJ]
theorem Ϛ (g:GN mv J cY rk mb)(oA:ns.length=mv)(yU:sU 4 "most_behind" eS (de ns J) []=dr mb) :
  ∃d,iW [de ns J,.lst<|cA cY]=Z d/\((d=.non/\∀R,¬RG J cY R)\/∃R,d=.lst (cA R)/\RG J cY R/\∀R',RG J cY R'->sT J R' * sB J R<=sT J R*sB J R'):=by
 obtain⟨d0,a1,a2⟩:=RE (ns:=ns) (p:=(-1,1)) g oA (by decide) (vg (w:=1) (by decide) (by decide)<|by decide);replace a1:iR [de ns J,.tup [.int<|-1,.int 1],.lst<|cA cY]=Z d0:=a1;have hD:=g.Dd;have hS:=g.st;rcases a2 with⟨rfl,hK⟩|⟨R0,rfl,FI,_⟩
 ·refine⟨.non,?_,.inl ⟨rfl,λR hR=>?_⟩⟩
  ·generalize de ns J=net at *;generalize cA cY=nl at *;clear g hK hD hS oA yU;unfold iW;walk_at "mid"
  ·have h1:=hK.le hR;have h2:=hR.bds g;dsimp only at h1;lia
 ·have gp:=Ł (J:=J) oA yU hD.1 hD.2 g.b4;obtain⟨D0,GH⟩:∃D0:Int,D0=(mv:Int)*mb:=⟨_,rfl⟩;rw[←GH]at gp hD;have EH:0<D0*D0/\D0*D0<=160*160:=⟨gr (by lia)<|by lia,gP hD.2 hD.2 (by lia)<|by decide⟩;have zg:Fz 700 (Fq.mk 1<|D0*D0):=Ka (by lia) (vg (w:=1) (by decide) (by decide)<|by decide) (vg (w:=25600) (by lia) (by lia)<|by decide);have Cv:∀(i:Nat) (R:List Nat) (c:Int×Int) (y1 y5 y6:Option D),GI J cY i R c->i<=60->cG [Z<|de ns J,y1,dq<|cA R,Z<|fr c,Z<|fr<|Fq.mk 1<|D0*D0,y5,y6]=Z (!decide ((c.1*sB J R-sT J R*c.2)*(D0*D0)<c.2*sB J R)):=by intro i R c y1 y5 y6 h hi;have hb:=h.r.bds g;obtain⟨lm,zm,_⟩:=JT h.r g;have me:=M2 (ns:=ns) g h.r;have zc:=h.fz g hi;have mi:=ϡ (n:=700) (by decide) h.low lm zc zm;have RK:=ZM h.low lm zc zm;have un:=Ϣ (p:=Fq.minus c<|Fq.mk (sT J R)<|sB J R) (q:=Fq.mk 1<|D0*D0) (RK.mono<|by decide) (zg.mono<|by decide);rw[Ō h.low (by lia)<|by lia]at un;generalize decide ((c.1*sB J R-sT J R*c.2)*(D0*D0)<c.2*sB J R)=bb,fr (Fq.minus c<|Fq.mk (sT J R)<|sB J R)=F1,fr (Fq.mk (sT J R)<|sB J R)=F2,fr (Fq.mk 1<|D0*D0)=F3,fr c=F4,cA R=rl,de ns J=net at *;clear RK zc zm lm hb h hi gp zg EH hD GH FI a1 hS g yU oA;unfold cG;walk_at "mid"
  have lp:=q0 (c:=cG) (b:=i6) 55
   (λi Y=>i<=55/\∃(R:List Nat) (c:Int×Int) (y5 y6:Option D),Y=[Z<|de ns J,dq<|cA cY,dq<|cA R,Z<|fr c,Z<|fr<|Fq.mk 1<|D0*D0,y5,y6]/\GI J cY i R c) (by
    rintro i Y ⟨hi,R,c,y5,y6,rfl,h⟩;refine⟨_,Cv i R c _ y5 y6 h<|by lia,λht=>?_⟩;obtain⟨⟨t1,t2⟩,b1,b2⟩:=h.r.bds g;have hc:=h.low.gt;have OG:¬(c.1*sB J R-sT J R*c.2)*(D0*D0)<c.2*sB J R:=by simpa using ht
    have stop:=ϝ (D:=D0) (P:=((2 ^ i:Nat):Int)) (by lia) hc (by lia) hS.1 (by have:=Nat.pow_pos (n:=i) (show 0<2 by decide);lia) h.d;have CA:i<55:=by
     apply Nat.not_le.mp;intro z;have h1:=gu (n:=2) (by decide) z;have h2:sT J cY*(D0*D0)<=120000000000*(160*160):=gP hS.2 EH.2 (by lia) (by decide);have h3:(2:Nat) ^ 55=36028797018963968:=by decide
     lia
    refine⟨CA,?_⟩;obtain⟨lm,zm,yW,_⟩:=JT h.r g;have me:=M2 (ns:=ns) g h.r;have zc:=h.fz g (by lia);have md:=ZP (n:=700) (by decide) lm h.low zm zc;have cm:=Fq.mk_cross (sT J R)<|sB J R;have v:=ō (a:=sT J R) (b:=sB J R) (c:=c.1) (d:=c.2) lm h.low cm rfl;have lw:=Q4 lm h.low;have OY:=ϛ lm h.low;have Ox:=lm.gt;generalize Fq.mk (sT J R) (sB J R)=m at *;generalize vY m c=w at *;have hw:=lw.gt;have Fk:w.2<=((320 ^ (i+1):Nat):Int):=by
     have e1:m.2*c.2*2<=160*c.2*2:=by have:=cZ yW<|eY hc;lia
     have S:=h.sz;rw[pD];lia
    have EG:c.2<=((320 ^ (i+1):Nat):Int):=by have S:=h.sz;rw[pD];lia
    have p2:((2 ^ (i+1):Nat):Int)=2*((2 ^ i:Nat):Int):=by rw[pD];lia
    have Ll:Sz 8000 w.2:=by have h3:=BY (i:=i+1) (by lia);have h4:=Ah;generalize ((320 ^ 60:Nat):Int)=K at *;exact(vg (n:=700) (w:=120000000000*K) (by lia) (by lia) h4).mono (by decide)
    obtain⟨d,ab,CY⟩:=RE (ns:=ns) (p:=w) g oA hw Ll;rcases CY with⟨rfl,hK⟩|⟨R2,rfl,KJ,Bz⟩
    ·refine⟨[Z<|de ns J,dq<|cA cY,dq<|cA R,Z<|fr w,Z<|fr<|Fq.mk 1<|D0*D0,Z<|fr w,Z .non],?_,by lia,R,w,_,_,rfl,⟨h.r,lw,λR' DY=>hK.le DY,?_,Fk,?_⟩⟩
     ·generalize fr (Fq.mk 1<|D0*D0)=F3 at *;generalize fr c=F4,fr w=F5,fr m=F6,cA R=rl,cA cY=nl,de ns J=net at *;clear Ll p2 EG Fk hw OY lw v cm Ox zc yW zm lm CA stop OG hc t1 t2 b1 b2 ht h hi Cv zg EH GH gp FI a1 hS g yU oA hD hK;unfold i6;walk_at "mid"
     ·refine Ő (T:=sT J R) (B:=sB J R) hc (by lia) hw ?_ h.le v;have:sT J cY*1<=sT J cY*sB J R:=eF (by lia) hS.1;lia
     ·rw[p2];exact Ϟ hc hw v h.d
    ·refine⟨[Z<|de ns J,dq<|cA cY,dq<|cA R2,Z<|fr c,Z<|fr<|Fq.mk 1<|D0*D0,Z<|fr w,dq<|cA R2],?_,by lia,R2,c,_,_,rfl,⟨KJ,h.low,h.up,h.le,EG,?_⟩⟩
     ·generalize fr (Fq.mk 1<|D0*D0)=F3 at *;generalize fr c=F4,fr w=F5,fr m=F6,cA R=rl at *;generalize cA R2=rl2,cA cY=nl,de ns J=net at *;clear Ll p2 EG Fk hw OY lw v cm Ox zc yW zm lm CA stop OG hc t1 t2 b1 b2 ht h hi Cv zg EH GH gp FI a1 hS g yU oA hD Bz KJ;unfold i6;walk_at "mid"
     ·rw[p2];have IX:=KJ.bds g;exact ł hc hw (by lia) (by lia) (by have:=Nat.pow_pos (n:=i) (show 0<2 by decide);lia) v Bz h.d) p6 0 [Z<|de ns J,dq<|cA cY,dq<|cA R0,Z<|fr (sT J cY,1),Z<|fr<|Fq.mk 1<|D0*D0,C,C]
   ⟨by lia,R0,(sT J cY,1),C,C,rfl,⟨FI,Ϡ _,λR' DY=>by
    have hb:=DY.bds g;have:sT J cY*1<=sT J cY*sB J R':=eF (by lia) hS.1;dsimp only
    lia,by dsimp only;lia,by simp,by
    have hb:=FI.bds g;dsimp only;simp
    lia⟩⟩ (by lia) (by have:=MV (n:=60) (by lia);lia)
  obtain⟨i,ρ',l1,⟨hi,R,c,y5,y6,rfl,h⟩,hc⟩:=lp;rw[Cv i R c _ y5 y6 h<|by lia]at hc;have lt:(c.1*sB J R-sT J R*c.2)*(D0*D0)<c.2*sB J R:=by simpa using hc
  have hb:=h.r.bds g;refine⟨.lst<|cA R,?_,.inr ⟨R,rfl,h.r,λR' DY=>?_⟩⟩
  ·have sm:=IA<|cY.map<|tN J;have en:(cY.map λ(n:Nat)=>(n:Int)).map D.int=cA cY:=by rw[c7];rfl
   have e1:((cY.map λ(n:Nat)=>(n:Int)).map λi=>(aN J i.toNat).t)=cY.map (tN J):=by rw[c7];exact gA λn _=>by simp[tN]
   have q1:=Nv (ns:=ns) (J:=J) (is:=cY.map λ(n:Nat)=>(n:Int)) (fld:="time") (f:=λa=>a.t) (q:=nK) rfl ft (by rw[ck];have:=g.nl;lia) (λi hi=>by
    obtain⟨n,h1,rfl⟩:=cX.mp hi;have:=g.n n h1
    lia) [Z<|de ns J,dq<|cA cY,dq<|cA R0,C,C,C,C] rfl (by rw[en];rfl)
   rw[e1]at q1;have es:(cY.map<|tN J).sum=sT J cY:=rfl;rw[es]at sm;have ef:fr (sT J cY,1)=.tup [.int<|sT J cY,.int 1]:=rfl;rw[ef]at l1;unfold cG at l1;clear e1 en es ef hb lt hc h hi Cv zg EH GH FI hS g yU oA hD;generalize fr (Fq.mk 1<|D0*D0)=F3,fr c=F4,sT J cY=K',(cY.map<|tN J).map D.int=tl,cA R=rl at *;generalize cA R0=rl0,cA cY=nl,de ns J=net at *;unfold iW kA;generalize (Ú<|tb<|λY=>((Ä (λY=>((Ä (L 3)<|Ä (λY=>((Ä (L 0)<|Ä (L 2) Å) Y).bind λO=>oU<|O++[]) Å) Y).bind λO=>pW<|O++[])<|Ä (L 4) Å) Y).bind λO=>pX<|O++[])=cc at *;walk_at "mid"
  ·have hb':=DY.bds g;exact ő (D:=D0) h.low.gt (by lia) (by lia) (by lia) (by lia) lt<|h.up R' DY
theorem RF (g:GN mv J cY rk mb)(oA:ns.length=mv)(yU:sU 4 "most_behind" eS (de ns J) []=dr mb) :
  ∃d,iu [de ns J,.lst<|cA cY]=Z d/\((d=.non/\∀R,¬RG J cY R)\/∃(R:List Nat) (q:Int×Int) (T:Nat->Int),d=.tup [fr q,.lst<|cA R,n9 mv q T]/\RG J cY R/\q=Fq.mk (sT J R) (sB J R)/\(∀R',RG J cY R'->sT J R' * q.2<=q.1*sB J R')/\(∀n∈cY,T (aS J n)+gD J q n<=T (aG J n))/\∀x,0<=T x/\T x<=1000000000000000):=by
 obtain⟨d0,a1,a2⟩:=Ϛ g oA yU;rcases a2 with⟨rfl,hN⟩|⟨R,rfl,hR,GY⟩
 ·refine⟨.non,?_,.inl ⟨rfl,hN⟩⟩;generalize de ns J=net,cA cY=nl at *;clear g hN oA yU;unfold iu;walk_at "mid"
 ·have me:=M2 (ns:=ns) g hR;obtain⟨lm,zm,yW,n0,n1⟩:=JT hR g;have cm:=Fq.mk_cross (sT J R)<|sB J R;have hb:=hR.bds g;obtain⟨q,hq⟩:∃q,q=Fq.mk (sT J R) (sB J R):=⟨_,rfl⟩;rw[←hq]at me lm zm yW n0 n1 cm;have lg:=lm.gt;have hM:∀n,n<J.length->gD J q n<=160000000000:=λn hn=>by have o:=g.ok _<|wn hn;unfold gD;have g1:(aN J n).t*q.2<=1000000000*160:=gP o.t1 yW (by lia) (by decide);have g2:0<=((aN J n).b:Int)*q.1:=jQ (by lia) n0;lia
  obtain⟨d,t1,t2⟩:=QX (ns:=ns) (cY:=cY) (p:=q) oA g.m1 (by have:=g.m;lia) (by have:=g.nl;lia) g.ok (by lia) (zm.2.mono<|by decide) hM (by decide) g.n;have rG:∀R',RG J cY R'->sT J R' * q.2<=q.1*sB J R':=λR' DY=>ŏ (by lia) lg cm<|GY R' DY;rcases t2 with⟨T,rfl,k1,k2⟩|⟨R2,x,rfl,r1,r2,r3,r4,r5⟩
  ·refine⟨.tup [fr q,.lst<|cA R,n9 mv q T],?_,.inr ⟨R,q,T,rfl,hR,hq,rG,k1,λx=>⟨(k2 x).1,?_⟩⟩⟩
   ·have i1:∀(a b:D),dM (.tup [a,b]) (.int 1)=Z b:=λ_ _=>rfl;generalize n9 mv q T=TM,fr q=F,cA R=rl,cA cY=nl,de ns J=net at *;clear k1 k2 rG hM lg hb cm n0 n1 yW zm lm GY hR hq g yU oA;unfold iu;walk_at "mid"
   ·have:=(k2 x).2;have b1:(cY.length:Int)*160000000000<=120*160000000000:=by have:=g.nl;lia
    have b2:(mv:Int)*((cY.length:Int)*160000000000)<=40*(120*160000000000):=gP (by have:=g.m;lia) b1 (by lia) (by decide);lia
  ·exfalso;rw[JR]at r5
   have:=rG R2 ⟨r1,⟨x,r2⟩,r3,r4⟩;unfold sT sB at this;rw[sk q.1]at this;lia
theorem ϙ (g:GN mv J (cE J.length) rk mb)(oA:ns.length=mv){d:D}(h:iu [de ns J,.lst<|cA<|cE J.length]=Z d):iZ [de ns J]=Z d:=by
 have la:fC [.lst<|J.map dD]=dr (J.length:Int):=(yk _).trans (by rw[ck]);have IP:=uj ns J;have lr:tW [.int J.length]=dq (cA<|cE J.length):=by show(if 0<=(J.length:Int)/\(J.length:Int)<=16777216 then Z (D.lst<|l7 0 (J.length:Int).toNat)else C)=_;rw[if_pos ⟨by lia,by have:=g.al;lia⟩];unfold l7 cA;simp
 generalize J.map dD=al,de ns J=net,cA (cE J.length)=nl at *;clear g;unfold iZ;walk_at "mid"
theorem ux (neg:Bool)(n:Nat)(out:List Nat):é neg (.int n) (.lst<|cA out)=Z (.bl<|if neg then !decide (n∈out)else decide (n∈out)):=by
 have hs:(cA out).all D.sc=Â:=by unfold cA;rw[mJ];exact ej.mpr λx _=>rfl
 have hi:Ac (.int n) (cA out)=decide (n∈out):=by
  unfold Ac cA;rw[rT];clear hs;induction out with
  |nil=>rfl
  |cons x out ih=>
   rw[ga,ih];show(((x:Int)==(n:Int)) || decide (n∈out))=_;by_cases h:x=n
   ·subst h;simp
   ·have h':¬(x:Int)=n:=by lia
    have h2:¬n=x:=λz=>h z.symm;simp[h',h2]
 show(if _ then _ else _)=_;rw[if_pos ⟨rfl,hs⟩,hi]
noncomputable def î (J:List gR)(g:Nat):List Nat:=(J.zipIdx.filter λp=>decide<|p.1.g=g).map (·.2)
theorem ŋ (hl:J.length<=1000)(g:Nat):lD [de ns J,.int g]=dq (cA<|î J g):=by
 have q:∀r:L3.Env,r[0]?.join=Z (de ns J)->r[1]?.join=dr g->oV r=dq (cA<|î J g):=λr hr Li=>by
  have e:(λY=>((Ä (e1 (dX [4] "arrows")<|L 0) Å) Y).bind λO=>match O with|[.lst xs]=>Z (iM 0 xs)|_=>C) r=Z (J.zipIdx.map λp=>D.tup [.int p.2,dD p.1]):=by
   have:L 0 r=Z (de ns J):=hr;have S:e1 (dX [4] "arrows") (L 0) r=dq (J.map dD):=by unfold e1;rw[this];rfl
   show((Ä (e1 (dX [4] "arrows")<|L 0) Å) r).bind _=_;unfold Ä;rw[S];show Z (iM 0<|J.map dD)=_;rw[JE dD]
  have hc:jA r [1]=[dr g]:=by unfold jA;simp[Li]
  have:=uh (own:=2) (cap:=[1]) (fi:=λY=>((Ä (e1 (dX [4] "arrows")<|L 0) Å) Y).bind λO=>match O with|[.lst xs]=>Z (iM 0 xs)|_=>C) (g:=gT<|Ç (gV 0)<|Ç (gV 1) Ð) (p:=tb<|S (gb Ã) (e1 (dX [0,1,2,3] "goal")<|L 1)<|L 2) (f:=L 0) (λp:gR×Nat=>D.tup [.int p.2,dD p.1]) (λp=>decide<|p.1.g=g) (λp=>D.int p.2) J.zipIdx e (by simp;lia) (λp _=>by
    refine⟨_,rfl,?_,λ_=>rfl⟩;rw[hc];have:=fg p.1;have hd:decide ((p.1.g:Int)=g)=decide (p.1.g=g):=by
     by_cases h:p.1.g=g
     ·simp[h]
     ·have:¬(p.1.g:Int)=g:=by lia
      simp[h,this]
    rw[←hd];walk_at "mid")
  rw[show oV r=_ from this];unfold î cA;rw[c7];rfl
 unfold lD;clear hl;walk_at "mid"
theorem ZQ {F:List Nat}(h:F.length<64):∃L':List Nat,B6 [.lst<|cA F]=Z (.lst<|cA L'):=by
 refine⟨(vL<|F.map λ(x:Nat)=>(x:Int)).map Int.toNat,?_⟩;have e:cA F=(F.map λ(x:Nat)=>(x:Int)).map D.int:=by unfold cA;rw[c7];rfl
 show(mT<|cA F).bind _=_;rw[e,ju,d8,if_pos<|by rw[ck];exact h];congr 2;unfold cA;rw[c7];refine gA λz hz=>?_;obtain⟨x,_,rfl⟩:=cX.mp<|(qm _).mem_iff.mp hz;rfl
theorem ϻ {g n:Nat}(h:n∈î J g):n<J.length:=by obtain⟨p,hp,rfl⟩:=cX.mp h;have:=ml.mp (dU.mp hp).1;exact(cU.mp this).1
theorem Ŋ {g:Nat}(hm:mv<=40)(hl:J.length<=120)(hs:∀a∈J,a.s<mv)(hg:g<mv):∃L':List Nat,mW [de ns J,.int g]=dq (cA L'):=by
 have bd:∀F:List Nat,F.Nodup->(∀x∈F,x<mv)->F.length<=mv:=λF nd lt=>by have:=nd.length_le_of_subset (l₂:=cE mv) λx hx=>dm.mpr<|lt x hx;rwa[fk]at this
 have len:∀F:List Nat,fC [.lst<|cA F]=dr (F.length:Int):=λF=>(yk _).trans (by unfold cA;rw[ck]);obtain⟨i',ρ',w1,⟨F,y4,y5,rfl,nd,lt⟩,_⟩:=q0 (c:=tb<|S tX (L 3)<|eN fC<|Ä (L 2) Å) (b:=mr) mv
  (λi Y=>∃F y4 y5,Y=[Z<|de ns J,dr g,dq<|cA F,dr i,y4,y5]/\F.Nodup/\∀x∈F,x<mv) (by
   rintro i Y ⟨F,y4,y5,rfl,nd,lt⟩;have lf:=bd F nd lt;refine⟨decide<|i<F.length,?_,λht=>?_⟩
   ·have l1:=len F;have e:decide ((i:Int)<F.length)=decide (i<F.length):=by simp
    rw[←e];generalize cA F=nf,de ns J=nt at *;clear e lf nd lt len bd;walk_at "mid"
   ·have hi:=of_decide_eq_true ht;refine⟨by lia,?_⟩;have x1:dM (.lst<|cA F) (.int i)=dr (F[i]:Int):=ya (by unfold cA;rw[cP,cC hi];rfl);have ti:=ŋ (ns:=ns) (J:=J) (by lia) F[i];generalize F[i]=h at *;have mt:sU 4 "into" lD (de ns J) [.int h]=dq (cA<|î J h):=by show(if 4=4/\(["names","arrows"]:List Str).contains "into"=Ã then lD [de ns J,.int h]else C)=_;rw[if_pos ⟨rfl,by decide +kernel⟩,ti]
    obtain⟨ρ2,f1,F2,z5,rfl,D8,FW⟩:=jr (g:=gV 5) (b:=mq) (O:=cA<|î J h) (Y:=[Z<|de ns J,dr g,dq<|cA F,dr i,dr h,y5])
     (λ_ Y=>∃F y5,Y=[Z<|de ns J,dr g,dq<|cA F,dr i,dr h,y5]/\F.Nodup/\∀x∈F,x<mv) ⟨F,y5,rfl,nd,lt⟩ (by
      rintro pre d post Y he ⟨F,y5,rfl,nd,lt⟩;obtain⟨n,hn,rfl⟩:=cX.mp (show d∈cA (î J h)by rw[he];simp);have hn:=ϻ hn;have EN:=wn hn;have i1:dM (.lst<|J.map dD) (.int n)=Z (dD<|aN J n):=ya (by rw[cP,DC hn];rfl);have f1:=fs<|aN J n;have f2:=uj ns J;have q:=ux Â (aN J n).s F;rw[if_pos rfl]at q;have lf:=bd F nd lt;have hz:(cA F).length<16777216:=by unfold cA;rw[ck];lia
      have qH:=hs _ EN;refine⟨[Z<|de ns J,dr g,dq<|cA F,dr i,dr h,dr n],?_⟩;by_cases hc:(aN J n).s∈F
      ·refine⟨_,rfl,.inl ?_,F,dr n,rfl,nd,lt⟩;rw[decide_eq_true hc]at q;generalize cA F=nf,de ns J=nt,J.map dD=al at *;clear nd lt hc qH EN hn he lf;unfold mq;walk_at "mid"
      ·refine⟨_,rfl,.inl ?_,F++[(aN J n).s],dr n,rfl,dh.mpr ⟨nd,by simp,λa ha b hb e=>hc<|by rw[cw]at hb;rw[←hb,←e];exact ha⟩,λx hx=>?_⟩
       ·rw[decide_eq_false hc]at q;have ea:cA (F++[(aN J n).s])=cA F++[.int ((aN J n).s:Int)]:=by unfold cA;rw[dI];rfl
        rw[ea];generalize cA F=nf,de ns J=nt,J.map dD=al at *;clear nd lt hc qH EN hn he lf ea;unfold mq;walk_at "mid"
       ·rcases cH.mp hx with hx|hx
        ·exact lt x hx
        ·rw[cw]at hx;rw[hx];exact qH)
    refine⟨[Z<|de ns J,dr g,dq<|cA F2,dr ((i+1:Nat):Int),dr h,z5],?_,F2,_,_,rfl,D8,FW⟩;rw[show((i+1:Nat):Int)=(i:Int)+1 by lia];generalize cA F=nf at *;generalize cA F2=OE,cA (î J h)=ni,de ns J=nt at *;clear nd lt D8 FW ti ht lf;have sa:B5 3 (i2 λi j=>.int<|i+j) (eC<|.int 1) [Z nt,dr g,dq OE,dr i,dr h,z5]=Z (.nx [Z nt,dr g,dq OE,dr<|i+1,dr h,z5]):=rfl;unfold mr;walk_at "mid") p6 0 [Z<|de ns J,dr g,dq<|cA [g],dr 0,C,C] ⟨[g],_,_,rfl,by simp,λx hx=>by rw[cw]at hx;rw[hx];exact hg⟩ (by lia) (by
   have:40<p6:=by unfold p6;exact dg (by decide:40<2 ^ 10) (gu (by decide)<|by decide)
   lia)
 obtain⟨L',so⟩:=ZQ (F:=F) (by have:=bd F nd lt;lia);refine⟨L',?_⟩
 ·unfold mW kA;generalize (tb<|S tX (L 3)<|eN fC<|Ä (L 2) Å)=cc,de ns J=nt at *;generalize hF:cA F=nf at *;clear nd lt hs hF bd len;have w1:lE cc mr p6 [Z nt,dr g,Z<|.lst [.int g],dr 0,C,C]=_:=w1;walk_at "mid"
variable {L':List Nat}
def CU:Option (Int×Int)->D
 |none=>.non
 |some q=>fr q
def LG:Option (Int×Int)->df
 |none=>.none
 |some q=>.tuple [.int q.1,.int q.2]
def Ke:pv (Option<|Int×Int):=⟨CU,LG,1,λx=>by cases x<;>simp[CU,LG,fr,D.py,D.pys],λx=>by cases x<;>rfl,λx=>by cases x<;>simp[LG,df.depth,df.depthAll],λx y=>by
 cases x with
 |none=>cases y<;>rfl
 |some a=>
  cases y with
  |none=>rfl
  |some b=>have:=(E2 Ei Ei).eqv a b;show df.eqv (.tuple [.int a.1,.int a.2]) (.tuple [.int b.1,.int b.2])=_;exact this.trans (decide_eq_decide.mpr<|by simp)⟩
def qL (L':List<|Option<|Int×Int):D:=.lst<|L'.map CU
def Gp (mv:Nat)(P:List Nat)(tp:Nat->Int)(W:Int):List (Option<|Int×Int):=(cE mv).map λg=>if g∈P then Z (Fq.mk (tp g) W)else C
noncomputable def nJ (J:List gR)(L':List Nat):List Nat:=(J.zipIdx.filter λp=>decide<|p.1.g∈L').map (·.2)
theorem Qn {n:Nat}:n∈nJ J L'↔n<J.length/\aG J n∈L':=by
 unfold nJ;rw[cX];constructor
 ·rintro⟨p,hp,rfl⟩;obtain⟨h1,h2⟩:=dU.mp hp;have h3:=Ż h1;have h4:=(cU.mp h3).1;refine⟨h4,?_⟩;have e:aN J p.2=p.1:=by unfold aN;rw[h3];rfl
  unfold aG;rw[e];exact of_decide_eq_true h2
 ·rintro⟨h1,h2⟩;refine⟨(aN J n,n),dU.mpr ⟨ml.mpr<|DC h1,decide_eq_true h2⟩,rfl⟩
theorem Yz (J:List gR)(L':List Nat):(nJ J L').length<=J.length:=by unfold nJ;rw[ck];have:=xR (λp:gR×Nat=>decide<|p.1.g∈L') J.zipIdx;rw[List.length_zipIdx]at this;exact this
theorem GN.along {Ag:List Nat}(g:GN mv J cY rk mb)(h1:∀n∈Ag,n<J.length)(h2:Ag.length<=120):GN mv J Ag rk mb:=⟨g.m1,g.m,g.al,g.ok,h1,h2,g.r,g.b1,g.b4,g.b⟩
theorem ŉ (hl:J.length<=1000)(r:L3.Env)(hr:r[0]?.join=Z (de ns J))(FQ:r[2]?.join=dq (cA L')):t6 r=dq (cA<|nJ J L'):=by
 have e:(λY=>((Ä (e1 (dX [4] "arrows")<|L 0) Å) Y).bind λO=>match O with|[.lst xs]=>Z (iM 0 xs)|_=>C) r=Z (J.zipIdx.map λp=>D.tup [.int p.2,dD p.1]):=by
  have:L 0 r=Z (de ns J):=hr;have S:e1 (dX [4] "arrows") (L 0) r=dq (J.map dD):=by unfold e1;rw[this];rfl
  show((Ä (e1 (dX [4] "arrows")<|L 0) Å) r).bind _=_;unfold Ä;rw[S];show Z (iM 0<|J.map dD)=_;rw[JE dD]
 have hc:jA r [2]=[dq<|cA L']:=by unfold jA;simp[FQ]
 have:=uh (own:=2) (cap:=[2]) (fi:=λY=>((Ä (e1 (dX [4] "arrows")<|L 0) Å) Y).bind λO=>match O with|[.lst xs]=>Z (iM 0 xs)|_=>C) (g:=gT<|Ç (gV 0)<|Ç (gV 1) Ð) (p:=tb<|S (é Ã) (e1 (dX [0,1,2,3] "goal")<|L 1)<|L 2) (f:=L 0) (λp:gR×Nat=>D.tup [.int p.2,dD p.1]) (λp=>decide<|p.1.g∈L') (λp=>D.int p.2) J.zipIdx e (by simp;lia) (λp _=>by refine⟨_,rfl,?_,λ_=>rfl⟩;rw[hc];have f1:=fg p.1;have q:=ux Ã p.1.g L';rw[if_neg<|by decide]at q;generalize decide (p.1.g∈L')=bb,dD p.1=ea,cA L'=nl at *;clear hc e hr FQ hl;walk_at "mid");rw[show t6 r=_ from this];unfold nJ cA;rw[c7];rfl
theorem Ϻ {q:Int×Int}{x y:D}(hm:mv<=1000)(r:L3.Env)(FQ:r[2]?.join=dq (cA L'))(Lj:r[3]?.join=Z (.tup [x,y,n9 mv q T])):t5 r=Z (qL<|Gp mv L' T q.2):=by
 have e:(λY=>((Ä (S dM (L 3)<|eC<|.int 2) Å) Y).bind λO=>match O with|[.lst xs]=>Z (iM 0 xs)|_=>C) r=Z ((cE mv).zipIdx.map λp=>D.tup [.int p.2,fr<|Fq.mk (T p.1) q.2]):=by
  have:L 3 r=Z (.tup [x,y,n9 mv q T]):=Lj;have Cw:S dM (L 3) (eC<|.int 2) r=Z (n9 mv q T):=by unfold S;rw[this];rfl
  show((Ä (S dM (L 3)<|eC<|.int 2) Å) r).bind _=_;unfold Ä;rw[Cw];show Z (iM 0<|(cE mv).map λg=>fr<|Fq.mk (T g) q.2)=_;rw[JE<|λg=>fr<|Fq.mk (T g) q.2]
 have hc:jA r [2]=[dq<|cA L']:=by unfold jA;simp[FQ]
 have:=yb (own:=2) (cap:=[2]) (fi:=λY=>((Ä (S dM (L 3)<|eC<|.int 2) Å) Y).bind λO=>match O with|[.lst xs]=>Z (iM 0 xs)|_=>C) (g:=gT<|Ç (gV 0)<|Ç (gV 1) Ð) (f:=ù (tb<|S (é Ã) (L 0)<|L 2) (L 1)<|eC .non) (λp:Nat×Nat=>D.tup [.int p.2,fr<|Fq.mk (T p.1) q.2]) (λp=>CU<|if p.2∈L' then Z (Fq.mk (T p.1) q.2)else C) (cE mv).zipIdx e (by simp;lia) (λp _=>by
   refine⟨_,rfl,?_⟩;rw[hc];have qq:=ux Ã p.2 L';rw[if_neg<|by decide]at qq;by_cases h:p.2∈L'
   ·rw[if_pos h];rw[decide_eq_true h]at qq;show _=Z (fr<|Fq.mk (T p.1) q.2);generalize fr (Fq.mk (T p.1) q.2)=F,cA L'=nl at *;clear hc e FQ Lj hm h;walk_at "mid"
   ·rw[if_neg h];rw[decide_eq_false h]at qq;show _=Z D.non;generalize fr (Fq.mk (T p.1) q.2)=F,cA L'=nl at *;clear hc e FQ Lj hm h;walk_at "mid")
 rw[show t5 r=_ from this];unfold qL Gp;refine congrArg (λx=>Z<|D.lst x)<|oK ?_ ?_
 ·simp
 ·intro i h1 h2;simp
theorem ň {g:Nat}(gn:GN mv J (cE J.length) rk mb)(oA:ns.length=mv)(yU:sU 4 "most_behind" eS (de ns J) []=dr mb)(Ob:mW [de ns J,.int g]=dq (cA L')) :
  ∃d,rZ [de ns J,.int g]=Z d/\((d=.non/\∀R,¬RG J (nJ J L') R)\/∃(R:List Nat) (q:Int×Int) (T:Nat->Int),d=.tup [fr q,.lst<|cA R,qL<|Gp mv L' T q.2]/\RG J (nJ J L') R/\q=Fq.mk (sT J R) (sB J R)/\(∀R',RG J (nJ J L') R'->sT J R' * q.2<=q.1*sB J R')/\(∀n∈nJ J L',T (aS J n)+gD J q n<=T (aG J n))/\∀x,0<=T x/\T x<=1000000000000000):=by
 have g2:=gn.along (Ag:=nJ J L') (λn hn=>(Qn.mp hn).1) (by have:=Yz J L';have:=gn.al;lia);obtain⟨d,h1,h2⟩:=RF g2 oA yU;have qn:=ŉ (ns:=ns) (J:=J) (L':=L') (by have:=gn.al;lia) [Z<|de ns J,dr g,dq<|cA L',C,C] rfl rfl;rcases h2 with⟨rfl,hN⟩|⟨R,q,T,rfl,hR⟩
 ·refine⟨.non,?_,.inl ⟨rfl,hN⟩⟩;generalize cA (nJ J L')=nn,cA L'=nl,de ns J=net at *;clear hN g2 gn yU oA;unfold rZ;walk_at "mid"
 ·refine⟨.tup [fr q,.lst<|cA R,qL<|Gp mv L' T q.2],?_,.inr ⟨R,q,T,rfl,hR⟩⟩;have qt:=Ϻ (mv:=mv) (L':=L') (q:=q) (T:=T) (x:=fr q) (y:=.lst<|cA R) (by have:=gn.m;lia) [Z<|de ns J,dr g,dq<|cA L',Z<|.tup [fr q,.lst<|cA R,n9 mv q T],C] rfl rfl;have i0:∀a b c:D,dM (.tup [a,b,c]) (.int 0)=Z a:=λ_ _ _=>rfl;have i1:∀a b c:D,dM (.tup [a,b,c]) (.int 1)=Z b:=λ_ _ _=>rfl;generalize cA (nJ J L')=nn,cA L'=nl,cA R=rl,de ns J=net,qL (Gp mv L' T q.2)=ol,n9 mv q T=tm,fr q=F at *;clear hR g2 gn yU oA;unfold rZ;walk_at "mid"
def wd (q:Int×Int):Str:=if q.2=1 then ed q.1 else(ed q.1) ++ "/"++(ed q.2)
theorem Nn {q:Int×Int}(h:Fz 1900 q):gW [fr q]=Z (.str<|wd q):=by
 have f0:=Bd;have f1:=uJ;have s1:=MB h.1;have s2:=MB h.2;have l1:=Ik h.1;have l2:=Ik h.2;have ls:("/":Str).length=1:=by with_unfolding_all rfl
 have a1:d9 (.str<|ed q.1) (.str "/")=Z (.str<|(ed q.1) ++ "/"):=ym (by lia);have a2:d9 (.str<|(ed q.1) ++ "/") (.str<|ed q.2)=Z (.str<|(ed q.1) ++ "/"++(ed q.2)):=ym (by rw[yh];lia);clear l1 l2;unfold gW wd;by_cases hq:q.2=1
 ·walk_at "mid"
 ·walk_at "mid"
theorem SV {q:Int×Int}(h:Fz 1900 q):(wd q).length<=4000:=by
 have l1:=Ik h.1;have l2:=Ik h.2;have ls:("/":Str).length=1:=by with_unfolding_all rfl
 unfold wd;split
 ·lia
 ·rw[yh,yh];lia
theorem Ň {zs:List Int}(hz:∀z∈zs,Sz 1900 z)(hl:zs.length<=1000):kT [.lst<|zs.map .int]=Z (cN<|zs.map ed):=by
 have q:oB [dq<|zs.map .int]=Z (cN<|zs.map ed):=by unfold cN;rw[c7];refine yb (λ(z:Int)=>D.int z) (λz=>D.str<|ed z) zs rfl (by lia) λz Jk=>⟨[dr z],rfl,?_⟩;have:=MB<|hz z Jk;clear hz hl Jk;walk_at "mid"
 unfold kT;clear hz hl;walk_at "mid"
def pV (q:Int×Int)(rs:List Nat)(ts:List<|Int×Int):List Str:=[wd q,"ring"]++(rs.map λ(n:Nat)=>(n:Int)).map ed++(["times"]:List Str)++ts.map wd
theorem ZR {W:D}{n:Int}{q:Int×Int}{rs:List Nat}{ts:List (Int×Int)}(h:iZ [nt]=Z (.tup [fr q,.lst<|cA rs,.lst<|ts.map fr]))(hq:Fz 1900 q)(hr:∀x∈rs,x<=1000)(Je:rs.length<=500)(ht:∀x∈ts,Fz 1900 x)(Jg:ts.length<=500) :
  lN [dk nt tbl pt n,W]=Z (.tup [.str<|Str.join (eP 32)<|pV q rs ts,dk nt tbl pt n]):=by
 have f2:dX [5,6] "net" (dk nt tbl pt n)=Z nt:=rfl;have w1:=Nn hq;have w2:=Ň (zs:=rs.map λ(n:Nat)=>(n:Int)) (λz hz=>by obtain⟨x,hx,rfl⟩:=cX.mp hz;have:=hr x hx;exact vg (w:=1000) (by lia) (by lia) (by decide)) (by rw[ck];lia);have e0:(rs.map λ(n:Nat)=>(n:Int)).map D.int=cA rs:=by rw[c7];rfl
 rw[e0]at w2;have i0:dM (.tup [fr q,.lst<|cA rs,.lst<|ts.map fr]) (.int 0)=Z (fr q):=rfl;have i1:dM (.tup [fr q,.lst<|cA rs,.lst<|ts.map fr]) (.int 1)=dq (cA rs):=rfl;have i2:dM (.tup [fr q,.lst<|cA rs,.lst<|ts.map fr]) (.int 2)=dq (ts.map fr):=rfl;have isn:pN Ã (.tup [fr q,.lst<|cA rs,.lst<|ts.map fr]) .non=Z (.bl Ã):=rfl;have q1:nS [Z<|dk nt tbl pt n,Z W,Z<|.tup [fr q,.lst<|cA rs,.lst<|ts.map fr],C]=Z (cN<|ts.map wd):=by
  unfold cN;rw[c7];refine yb fr (λx=>D.str<|wd x) ts ?_ (by lia) λx hx=>⟨[Z<|fr x],rfl,?_⟩
  ·generalize D.tup [fr q,.lst<|cA rs,.lst<|ts.map fr]=P at *;generalize dk nt tbl pt n=dd at *;clear hq hr Je ht Jg w1 w2 h;walk_at "mid"
  ·have:=Nn<|ht x hx;clear hq hr Je ht Jg w1 w2 h;walk_at "mid"
 have j1:d9 (.lst [.str<|wd q,.str "ring"]) (cN<|(rs.map λ(n:Nat)=>(n:Int)).map ed)=Z (cN<|[wd q,"ring"]++(rs.map λ(n:Nat)=>(n:Int)).map ed):=(x6<|by simp;lia).trans (by unfold cN;rw[dI];rfl);have j2:d9 (cN<|[wd q,"ring"]++(rs.map λ(n:Nat)=>(n:Int)).map ed) (.lst [.str "times"])=Z (cN<|[wd q,"ring"]++(rs.map λ(n:Nat)=>(n:Int)).map ed++(["times"]:List Str)):=(x6<|by simp;lia).trans (by unfold cN;rw[dI (l₂:=(["times"]:List Str))];rfl);have j3:d9 (cN<|[wd q,"ring"]++(rs.map λ(n:Nat)=>(n:Int)).map ed++(["times"]:List Str)) (cN<|ts.map wd)=Z (cN<|pV q rs ts):=(x6<|by simp;lia).trans (by unfold pV cN;rw[dI (l₂:=ts.map wd)]);have ll:(pV q rs ts).length=3+rs.length+ts.length:=by unfold pV;simp;lia
 have j4:qI (.str " ") (cN<|pV q rs ts)=Z (.str<|Str.join (eP 32)<|pV q rs ts):=by
  rw[IF];refine Nq (b:=4000) (λy hy=>?_) (by have:(eP 32).length=1:=rfl;rw[ll,this];lia);unfold pV at hy;rcases cH.mp hy with hy|hy
  ·rcases cH.mp hy with hy|hy
   ·rcases cH.mp hy with hy|hy
    ·rcases cu.mp hy with rfl|hy
     ·exact SV hq
     ·rw[cw]at hy;subst hy;decide
    ·obtain⟨z,hz,rfl⟩:=cX.mp hy;obtain⟨x,hx,rfl⟩:=cX.mp hz;have:=Ik (i:=(x:Int)) (vg (w:=1000) (by lia) (by have:=hr x hx;lia)<|by decide);lia
   ·rw[cw]at hy;subst hy;decide
  ·obtain⟨x,hx,rfl⟩:=cX.mp hy;exact SV<|ht x hx
 have main:ij [dk nt tbl pt n,W]=Z (.str<|Str.join (eP 32)<|pV q rs ts):=by unfold ij;generalize D.tup [fr q,.lst<|cA rs,.lst<|ts.map fr]=P,cN ([wd q,"ring"]++(rs.map λ(n:Nat)=>(n:Int)).map ed++(["times"]:List Str))=L3 at *;generalize cN ([wd q,"ring"]++(rs.map λ(n:Nat)=>(n:Int)).map ed)=L2,cN ((rs.map λ(n:Nat)=>(n:Int)).map ed)=L1,dk nt tbl pt n=dd,cA rs=RR,cN (ts.map wd)=L4,cN (pV q rs ts)=L5 at *;clear hq hr Je ht Jg ll e0;generalize nS=Q1 at *;walk_at "mie"
 show(ij [dk nt tbl pt n,W]).bind _=_;rw[main];rfl
theorem YA {W:D}{n:Int}(h:iZ [nt]=Z .non):lN [dk nt tbl pt n,W]=Z (.tup [.str "none",dk nt tbl pt n]):=by
 have f2:dX [5,6] "net" (dk nt tbl pt n)=Z nt:=rfl;have isn:pN Ã .non .non=Z (.bl Â):=rfl;have main:ij [dk nt tbl pt n,W]=Z (.str "none"):=by unfold ij;generalize dk nt tbl pt n=dd at *;walk_at "mid"
 show(ij [dk nt tbl pt n,W]).bind _=_;rw[main];rfl
section
variable {n:Int}{g:Nat}
theorem ZS (nd:mo.Nodup)(hg:g<mo.length):kR [dk (de (mo.map .str) J) tbl pt n,.str<|dB mo g]=dr (g:Int):=by have f2:dX [5,6] "net" (dk (de (mo.map .str) J) tbl pt n)=Z (de (mo.map .str) J):=rfl;have f3:dX [4] "names" (de (mo.map .str) J)=Z (cN mo):=rfl;have ix:=JG nd hg;generalize de (mo.map .str) J=n1 at *;generalize dk n1 tbl pt n=dd,cN mo=NN at *;clear nd hg;unfold kR;walk_at "mid"
theorem Ϲ {d:D}(nd:mo.Nodup)(hg:g<mo.length)(h:rZ [de (mo.map .str) J,.int g]=Z d){w:Str}(hd:d=.non/\w = "none"\/∃q x y,d=.tup [fr q,x,y]/\Fz 1900 q/\w=wd q) :
  qV [dk (de (mo.map .str) J) tbl pt n,cN [w0,dB mo g]]=Z (.tup [.str w,dk (de (mo.map .str) J) tbl pt n]):=by
 have f2:dX [5,6] "net" (dk (de (mo.map .str) J) tbl pt n)=Z (de (mo.map .str) J):=rfl;have gc:=ZS (J:=J) (tbl:=tbl) (pt:=pt) (n:=n) nd hg;have x1:dM (cN [w0,dB mo g]) (.int 1)=Z (.str<|dB mo g):=rfl;have main:lR [dk (de (mo.map .str) J) tbl pt n,cN [w0,dB mo g]]=Z (.str w):=by
  unfold lR;generalize de (mo.map .str) J=n1 at *;generalize dk n1 tbl pt n=dd,cN [w0,dB mo g]=NN at *;rcases hd with⟨rfl,rfl⟩|⟨q,x,y,rfl,hq,rfl⟩
  ·have isn:pN Ã .non .non=Z (.bl Â):=rfl;clear nd hg;walk_at "mid"
  ·have isn:pN Ã (.tup [fr q,x,y]) .non=Z (.bl Ã):=rfl;have i0:dM (.tup [fr q,x,y]) (.int 0)=Z (fr q):=rfl;have w1:=Nn hq;generalize D.tup [fr q,x,y]=P at *;clear nd hg hq;walk_at "mie"
 show(lR [dk (de (mo.map .str) J) tbl pt n,cN [w0,dB mo g]]).bind _=_;rw[main];rfl
end
theorem ZT {x:Nat}(h:48<=x/\x<=57):Txt.contains "0123456789" (eP x)=Â:=by
 have:∀j,j<10->Txt.contains "0123456789" (eP<|48+j)=Â:=by decide +kernel
 have:=this (x-48) (by lia);rwa[show 48+(x-48)=x by lia]at this
theorem Fc {w:Str}{c:Nat}{r:List Nat}(hw:w.cps.toList=c::r)(hl:w.length<=100):t8 (.str w) C (Z 1)=Z (.str<|eP c):=by
 show(if w.length<=16777216 then Z (D.str<|Txt.slice w C<|Z 1)else C)=_;rw[if_pos<|by lia];congr 2;apply vx;have h1:1<=w.length:=by rw[←xt,hw];simp
 show(StrLaws.sliceText w C<|Z 1).cps.toList=_;rw[StrLaws.sliceText_to (j:=1) ⟨by lia,by rw[xt];lia⟩];show((w.cps.toList.drop 0).take _)=_;rw[hw];rfl
theorem Td {x y:Nat}:eP x=eP y↔x=y:=by unfold eP;simp
theorem Te {x:Nat}(h:x<=57):df.strOk (eP x)=Â:=by unfold df.strOk eP;simp;lia
theorem Ga {n:Nat}(h:n<=1000000000000000):(ed n).length<=16:=by rw[←xt,vz,ck];exact(uZ (by decide)<|by decide).mpr (by lia)
theorem Np {n:Nat}(h:n<=1000000000000000):hV [.str<|ed n]=dr (n:Int):=by
 have hl:=Ga h;obtain⟨c,r,hw,hc⟩:∃c r,(ed n).cps.toList=c::r/\(c=48->ed n = "0"):=by
  by_cases h0:n=0
  ·subst h0;exact⟨48,[],by rw[MH];decide +kernel,λ_=>MH⟩
  ·obtain⟨c,r,e,hc⟩:=QP n (by lia);exact⟨c.toNat,r.map Char.toNat,by rw[vz,e];rfl,λz=>absurd (show c = '0' from Char.ext (UInt32.toNat_inj.mp z)) hc⟩
 have hd:∀x∈(ed n).cps.toList,48<=x/\x<=57:=λx hx=>ui hx;have c0:=hd c (by rw[hw];exact b7);have ne:(ed n).cps.toList≠[]:=by rw[hw];simp
 have it:tS [.str<|ed n]=dr (n:Int):=by show(if(ed n).length<=640 then(PySem.intText? (ed n)).bind λi=>Z (D.int i)else C)=_;rw[if_pos<|by lia,PySem.intText_digits hd ne<|by lia];show Z (D.int (PySem.NumText.digitsVal (ed n).cps.toList:Int))=_;rw[vz,PySem.W.KIN.val_back]
 have s1:=Fc hw (by lia);have x0:=tU hw (by lia);have e0:gb Ã (.str<|eP c) (.str "-")=Z (.bl Ã):=by rw[yn (Te c0.2)<|zy _,show("-":Str)=eP 45 by decide +kernel,decide_eq_false<|λz=>by have:=Td.mp z;lia];rfl
 have e1:gb Ã (.str<|ed n) (.str "")=Z (.bl Ã):=by rw[yn (Er _)<|zy _,decide_eq_false λe=>ne (by rw[e];rfl)];rfl
 have S:gb Ã (.str<|eP c) (.str "0")=Z (.bl<|decide<|c=48):=by rw[yn (Te c0.2)<|zy _,show("0":Str)=eP 48 by decide +kernel];simp[Td]
 have e3:c=48->gb Â (.str<|ed n) (.str "0")=Z (.bl Ã):=λz=>by rw[yn (Er _)<|zy _,decide_eq_true<|hc z];rfl
 have a1:eN lB (Ä kX Å) [Z<|.str<|ed n,Z<|.str<|ed n]=Z (.bl Â):=by
  have:kX [Z<|.str<|ed n,Z<|.str<|ed n]=dq ((ed n).cps.toList.map λ_=>D.bl Â):=by refine yb (λc=>D.str<|eP c) (λ_=>D.bl Â) _ rfl (by rw[xt];lia) λx hx=>⟨_,rfl,?_⟩;have k2:BH (.str<|eP x) (.str "0123456789")=Z (.bl Â):=congrArg (λb=>Z<|D.bl b)<|ZT<|hd x hx;clear hx it e1 S hd e0 e3 hc s1 x0;walk_at "mid"
  unfold eN Ä;rw[this];show lB [.lst<|(ed n).cps.toList.map λ_=>D.bl Â]=_;rw[á];simp
 generalize ed n=w at *;unfold hV;generalize eN lB (Ä kX Å)=AA at *;clear hd hl ne hw c0 h;by_cases GG:c=48
 ·have e3:=e3 GG;rw[decide_eq_true GG]at S;clear GG hc;walk_at "mid"
 ·rw[decide_eq_false GG]at S;clear e3 GG hc;walk_at "mid"
def Qs (q:Int×Int):Prop:=∃a b:Nat,q=((a:Int),(b:Int))/\a<=1000000000000000/\1<=b/\b<=1000
theorem Qs.fz {q:Int×Int}(h:Qs q):Fz 1900 q:=by obtain⟨a,b,rfl,h1,h2,h3⟩:=h;exact⟨vg (w:=1000000000000000) (by show -1000000000000000<=(a:Int);lia) (by show(a:Int)<=_;lia)<|by decide,vg (w:=1000) (by show -1000<=(b:Int);lia) (by show(b:Int)<=_;lia)<|by decide⟩
theorem ϸ {w:Str}(h:tE 47 w)(hl:w.length<=1000):xC (.str w) (.str "/")=Z (.tup [.str w,.str "",.str ""]):=by
 show(if _/\_ then Z (D.tup [.str (Txt.partition w "/").1,.str (Txt.partition w "/").2.1,.str (Txt.partition w "/").2.2])else C)=_;rw[if_pos ⟨by decide +kernel,by lia⟩,show("/":Str)=eP 47 by decide +kernel];rcases qO w (eP 47)with⟨e,_⟩|⟨i,_,hi,_⟩
 ·rw[e,show Str.empty=("":Str)by decide +kernel]
 ·exact absurd ((PyProof.Rows.mem_iff_at w 47).mpr ⟨i,hi⟩) h
theorem Ϸ {u v:Str}(h:tE 47 u)(hl:u.length+v.length<=1000):xC (.str<|u ++ "/"++v) (.str "/")=Z (.tup [.str u,.str "/",.str v]):=by
 have e1:("/":Str)=eP 47:=by decide +kernel
 have xl:(u ++ "/"++v).cps.toList=u.cps.toList++47::v.cps.toList:=by rw[yx,yx,e1,dN];rfl
 have xn:(u ++ "/"++v).length=u.length+1+v.length:=by rw[yh,yh,e1,Jt]
 have hu:u.cps.toList.length=u.length:=xt u;have hv:v.cps.toList.length=v.length:=xt v;show(if _/\_ then Z (D.tup [.str (Txt.partition (u ++ "/"++v) "/").1,.str (Txt.partition (u ++ "/"++v) "/").2.1,.str (Txt.partition (u ++ "/"++v) "/").2.2])else C)=_;rw[if_pos ⟨by decide +kernel,by lia⟩];have at_:∀i,PySem.StrLaws.At (u ++ "/"++v) (eP 47) (u ++ "/"++v).length i↔(u.cps.toList++47::v.cps.toList)[i]?=Z 47:=λi=>by rw[←xl];exact PySem.StrLaws.subAt_one _ 47 i
 generalize u ++ "/"++v=x at *;rw[e1];rcases qO x (eP 47)with⟨_,hn⟩|⟨i,e,hi,hn⟩
 ·exact absurd ((at_ u.length).mpr<|by rw[fS<|by lia,hu];simp)<|hn u.length
 ·have S:i=u.length:=by
   rcases Nat.lt_trichotomy i u.length with q|q|q
   ·have:=(at_ i).mp hi;rw[fV<|by lia]at this;exact absurd (yH this) h
   ·exact q
   ·exact absurd ((at_ u.length).mpr<|by rw[fS<|by lia,hu];simp)<|hn _ q
  subst S;have a1:Builtin.Str.strSub x 0 u.length=u:=vx (by rw[PySem.StrLaws.strSub_toList,xl,List.drop_zero,Nat.sub_zero,←hu,uN]);have a2:Builtin.Str.strSub x (u.length+(eP 47).length) x.length=v:=vx (by rw[PySem.StrLaws.strSub_toList,xl,Jt,xn,←hu,←CL,uL];show v.cps.toList.take _=_;exact iT (by lia));rw[e,a1,a2]
theorem Ť {a b:Int}(hz:Sz 8000 b)(hg:iz a b=1)(y0 y1 y2 y3 y4:Option D):∃z:Int,lE (tb<|S (gb Â) (L 6)<|eC<|D.int 0) jK p6 [y0,y1,y2,y3,y4,dr a,dr b]=Z (.nx [y0,y1,y2,y3,y4,dr z,dr 0])/\Bv [.int z]=dr 1:=by
 obtain⟨s',h1,h2,h3,_⟩:=jd (c:=tb<|S (gb Â) (L 6)<|eC<|D.int 0) (b:=jK) (λs:Int×Int=>[y0,y1,y2,y3,y4,dr s.1,dr s.2]) (λs=>!decide (s.2=0)) (λs=>(s.2,s.1.fmod s.2)) (λs=>s.2.natAbs) (λs=>iz s.1 s.2=iz a b)
  (λs hp=>by walk_at "mid") (λs hp ht=>by
   have hs:s.2≠0:=by simpa using ht
   refine⟨.inl ?_,(Fq.gcd_step s.1 s.2).trans hp,Fq.fmod_less s.1 hs⟩;unfold jK;have:=Ro (i:=s.1) hs;walk_at "mid") p6 (a,b) rfl (MU hz<|by decide)
 have h3:s'.2=0:=by simpa using h3
 have h4:=Fq.gcd_end s'.1;rw[h3]at h2;rw[h2,hg]at h4;refine⟨s'.1,?_,?_⟩
 ·rw[h3]at h1;exact h1
 ·rw[Ċ];exact congrArg (λx=>Z<|D.int x) h4
theorem M3 {q:Int×Int}(hq:Fq.Low q)(h:Qs q):gh [.str<|wd q]=Z (fr q):=by
 obtain⟨a,b,rfl,ha,hb,IX⟩:=h;have n1:=Np ha;have n2:=Np (n:=b) (by lia);have l1:=Ga ha;have l2:=Ga (n:=b) (by lia);have lp:=Ť (a:=(a:Int)) (b:=(b:Int)) (vg (w:=1000) (by lia) (by lia)<|by decide) hq.cop;have es:gb Ã (.str "/") (.str "/")=Z (.bl Â):=(yn (zy _)<|zy _).trans (by simp);have e0:gb Ã (.str "") (.str "/")=Z (.bl Ã):=(yn (zy _)<|zy _).trans (by rw[if_neg<|by decide,decide_eq_false<|by decide +kernel]);have x0:∀y z:D,dM (.lst [y,z]) (.int 0)=Z y:=λ_ _=>rfl;have x1:∀y z:D,dM (.lst [y,z]) (.int 1)=Z z:=λ_ _=>rfl;have lt:¬(b:Int)<1:=by lia
 have g3:∀(x y z:D) (r:L3.Env),gT (Ç (gV 1)<|Ç (gV 2)<|Ç (gV 3) Ð) (.tup [x,y,z]) (Z (.str<|wd ((a:Int),(b:Int)))::C::C::C::r)=Z (Z (.str<|wd ((a:Int),(b:Int)))::Z x::Z y::Z z::r):=λ_ _ _ _=>rfl;have g2:∀(y0 y1 y2 y3 y4:Option D) (x y:D),gL (Ç (gV 5)<|Ç (gV 6) Ð) (.lst [x,y]) [y0,y1,y2,y3,y4,C,C]=Z [y0,y1,y2,y3,y4,Z x,Z y]:=λ_ _ _ _ _ _ _=>rfl;unfold fr;by_cases h1:b=1
 ·subst h1;have e:wd ((a:Int),((1:Nat):Int))=ed (a:Int):=if_pos rfl;rw[e]at g3 ⊢;show _=Z (D.tup [.int a,.int 1]);have p1:=ϸ (w:=ed a) (ji<|by decide) (by lia);obtain⟨z,w1,w2⟩:=lp (Z<|.str<|ed a) (Z<|.str<|ed a) (Z<|.str "") (Z<|.str "")<|Z<|.lst [.int a,.int 1];have w1:lE _ _ _ [_,_,_,_,_,_,dr 1]=_:=w1;unfold gh kA;generalize (gT<|Ç (gV 1)<|Ç (gV 2)<|Ç (gV 3) Ð)=G3,(gL<|Ç (gV 5)<|Ç (gV 6) Ð)=G2,(tb<|S (gb Â) (L 6)<|eC<|D.int 0)=cc,ed a=w at *;clear hq ha hb IX l1 l2 lp es n2 lt e;walk_at "mid"
 ·have e:wd ((a:Int),(b:Int))=ed a ++ "/"++ed (b:Int):=by unfold wd;rw[if_neg (by show¬(b:Int)=1;lia)]
  rw[e]at g3 ⊢;have p1:=Ϸ (u:=ed a) (v:=ed b) (ji<|by decide) (by lia);obtain⟨z,w1,w2⟩:=lp (Z<|.str<|ed a ++ "/"++ed b) (Z<|.str<|ed a) (Z<|.str "/") (Z<|.str<|ed b)<|Z<|.lst [.int a,.int b];have pt:qM 4 (eC<|.int 1) (cl hV<|Ä (L 3) Å) [Z<|.str<|ed a ++ "/"++ed b,Z<|.str<|ed a,Z<|.str "/",Z<|.str<|ed b,Z<|.lst [.int a,.int 1],C,C]=Z (.nx [Z<|.str<|ed a ++ "/"++ed b,Z<|.str<|ed a,Z<|.str "/",Z<|.str<|ed b,Z<|.lst [.int a,.int b],C,C]):=by unfold qM;show((hV [.str<|ed b]).bind _)=_;rw[n2];rfl
  have e1:gb Ã (.int b) (.int 1)=Z (.bl Ã):=(uc _ _).trans (by rw[if_neg<|by decide,decide_eq_false<|by lia]);unfold gh kA;generalize (gT<|Ç (gV 1)<|Ç (gV 2)<|Ç (gV 3) Ð)=G3,(gL<|Ç (gV 5)<|Ç (gV 6) Ð)=G2,(tb<|S (gb Â) (L 6)<|eC<|D.int 0)=cc,qM 4 (eC<|.int 1) _=PT,ed a ++ "/"++ed b=w at *;generalize ed a=wa,ed b=wb at *;clear hq ha hb IX l1 l2 lp h1;walk_at "mid"
theorem ţ {n:Nat}{x:Str}(h:∃c∈x.cps.toList,57<c):ed n≠x:=λe=>by obtain⟨c,hc,h⟩:=h;have:=ui (n:=n) (x:=c) (by rw[e];exact hc);lia
theorem S9 {q:Int×Int}(h:Qs q):∀x∈(wd q).cps.toList,47<=x/\x<=57:=by
 obtain⟨a,b,rfl,_⟩:=h;intro x hx;unfold wd at hx;split at hx
 ·have:=ui hx;lia
 ·rw[yx,yx]at hx;rcases cH.mp hx with hx|hx
  ·rcases cH.mp hx with hx|hx
   ·have:=ui hx;lia
   ·have:("/":Str).cps.toList=[47]:=by decide +kernel
    rw[this,cw]at hx;lia
  ·have:=ui hx;lia
theorem YB {rs:List Str}{x:Str}(h:x∉ws):rH (cN (ws++x::rs)) (.str x)=dr (ws.length:Int):=by
 have hf:((ws++x::rs).map D.str).findIdx? (λy=>Cy y<|.str x)=Z ws.length:=by
  rw[AV,kN];refine⟨by simp,?_,λj hj=>?_⟩
  ·show((ws++x::rs)[ws.length]'(by simp)==x)=Â;simp
  ·show¬((ws++x::rs)[j]'(by simp;lia)==x)=Â;rw[beq_iff_eq,List.getElem_append_left hj];exactλe=>h<|e▸sO hj
 show(if _ then _ else _)=_;rw[if_pos ⟨rfl,MZ _⟩,hf];rfl
theorem ϶ {q:Int×Int}{rs:List Nat}{ts:List (Int×Int)}(hq:Fq.Low q/\Qs q)(hr:∀x∈rs,x<=1000)(Li:rs≠[])(Je:rs.length<=500)(ht:∀x∈ts,Fq.Low x/\Qs x)(Jg:ts.length<=500) :
  mV [.str<|Str.join (eP 32)<|pV q rs ts]=Z (.tup [fr q,.lst<|cA rs,.lst<|ts.map fr]):=by
 obtain⟨L1,Bf⟩:∃L1:List Str,L1=[wd q,"ring"]++rs.map λ(n:Nat)=>ed (n:Int):=⟨_,rfl⟩;have l1:L1.length=2+rs.length:=by rw[Bf];simp;lia
 have r1:1<=rs.length:=by cases rs with|nil=>exact absurd rfl Li|cons _ _=>simp
 have e:pV q rs ts=L1++("times":Str)::ts.map wd:=by unfold pV;rw[Bf,c7,dN];rfl
 have sg:∀x:Str,(∃c∈x.cps.toList,57<c)->∀y,Qs y->wd y≠x:=λx ⟨c,hc,h⟩ y hy e=>by have:=(S9 hy c<|by rw[e];exact hc).2;lia
 have ti:∃c∈("times":Str).cps.toList,57<c:=⟨116,by decide +kernel,by decide⟩;have tn:("times":Str)∉L1:=by
  rw[Bf];intro hm;rcases cH.mp hm with hm|hm
  ·rcases cu.mp hm with hm|hm
   ·exact sg _ ti q hq.2 hm.symm
   ·rw[cw]at hm;exact absurd hm (by decide +kernel)
  ·obtain⟨n,_,e⟩:=cX.mp hm;exact ţ ti e
 have mem:∀w∈pV q rs ts,tE 32 w/\w.length<=40:=by
  have OW:∀y,Qs y->tE 32 (wd y)/\(wd y).length<=40:=λy hy=>⟨λz=>by have:=(S9 hy 32 z).1;lia,by
   obtain⟨a,b,rfl,h1,h2,h3⟩:=hy;have k1:=Ga h1;have k2:=Ga (n:=b) (by lia);have k3:("/":Str).length=1:=by decide +kernel
   unfold wd;split
   ·exact eD k1 (by decide)
   ·rw[yh,yh];show(ed a).length+_+(ed b).length<=_;lia⟩
  intro w hw;rw[e,Bf]at hw;rcases cH.mp hw with hw|hw
  ·rcases cH.mp hw with hw|hw
   ·rcases cu.mp hw with rfl|hw
    ·exact OW q hq.2
    ·rw[cw]at hw;subst hw;constructor<;>(try unfold tE)<;>decide +kernel
   ·obtain⟨n,hn,rfl⟩:=cX.mp hw;have:=Ga (n:=n) (by have:=hr n hn;lia);exact⟨ji<|by decide,by lia⟩
  ·rcases cu.mp hw with rfl|hw
   ·constructor<;>(try unfold tE)<;>decide +kernel
   ·obtain⟨y,hy,rfl⟩:=cX.mp hw;exact OW y (ht y hy).2
 have ll:(pV q rs ts).length=3+rs.length+ts.length:=by rw[e,cM,l1];simp;lia
 have sp:se (.str<|Str.join (eP 32)<|pV q rs ts) (.str " ")=Z (cN<|pV q rs ts):=by rw[IF];exact RJ (b:=40) (λz=>by rw[z]at ll;simp at ll;lia) (λw hw=>(mem w hw).1) (λw hw=>(mem w hw).2) (by rw[ll];lia)
 have le:fC [cN<|pV q rs ts]=Z (.int ((3+rs.length+ts.length:Nat):Int)):=(yk _).trans (by rw[ck,ll]);have x0:dM (cN<|pV q rs ts) (.int 0)=Z (.str<|wd q):=by rw[e,Bf];exact ya (j:=0) rfl
 have x1:dM (cN<|pV q rs ts) (.int 1)=Z (.str "ring"):=by rw[e,Bf];exact ya (j:=1) rfl
 have q1:gb Â (.str "ring") (.str "ring")=Z (.bl Ã):=(yn (zy _)<|zy _).trans (by simp);have i1:é Â (.str "times") (cN<|pV q rs ts)=Z (.bl Ã):=RL (by rw[e];simp);have ix:rH (cN<|pV q rs ts) (.str "times")=Z (.int ((2+rs.length:Nat):Int)):=by rw[e,YB tn,l1]
 have s1:gG (cN<|pV q rs ts) (Z 2) (Z ((2+rs.length:Nat):Int))=Z (.lst<|rs.map λ(n:Nat)=>D.str<|ed n):=by show Z (D.lst<|â _ (Z ((2:Nat):Int))<|Z ((2+rs.length:Nat):Int))=_;rw[JC,e,Bf,dN,show 2+rs.length-2=((rs.map λ(n:Nat)=>ed n).map D.str).length by simp];show Z (D.lst<|(List.map D.str ((rs.map λ(n:Nat)=>ed n)++("times":Str)::ts.map wd)).take _)=_;rw[dI,uN,c7];rfl
 have s2:gG (cN<|pV q rs ts) (Z<|((2+rs.length:Nat):Int)+1) C=Z (.lst<|ts.map λy=>D.str<|wd y):=by show Z (D.lst<|â _ (Z ((2+rs.length+1:Nat):Int)) C)=_;rw[vh,e,dI,show 2+rs.length+1=(L1.map D.str).length+1 by simp[l1],←CL,uL];show Z (D.lst<|List.map D.str<|ts.map wd)=_;rw[c7];rfl
 have fq:=M3 hq.1 hq.2;have n1:é Ã .non (.lst<|cA rs)=Z (.bl Ã):=by
  have hs:(cA rs).all D.sc=Â:=by unfold cA;rw[mJ];exact ej.mpr λx _=>rfl
  have hi:Ac .non (cA rs)=Ã:=by unfold Ac cA;rw[rT];exact AT.mpr λx _=>by show¬Cy (.int x) .non=Â;simp[Cy]
  show(if _/\_ then _ else _)=_;rw[if_pos ⟨rfl,hs⟩,hi];rfl
 have n2:inE Ã .non (.lst<|ts.map fr)=Z (.bl Ã):=by have:=pv.inE Ke (by decide) (neg:=false) C<|ts.map Z;rw[c7]at this;refine(show L3.inE Ã (Ke.enc C) (.lst<|ts.map<|Ke.enc ∘ Z)=_ from this).trans ?_;simp
 have k1:oX [Z<|.str<|Str.join (eP 32)<|pV q rs ts,Z<|cN<|pV q rs ts,Z<|.int ((2+rs.length:Nat):Int),Z<|fr q,C,C]=Z (.lst<|cA rs):=by
  refine yb (λ(n:Nat)=>D.str<|ed n) (λ(n:Nat)=>D.int n) rs ?_ (by lia) λx hx=>⟨[Z<|.str<|ed x],rfl,?_⟩
  ·generalize Str.join (eP 32) (pV q rs ts)=J' at *;generalize cN (pV q rs ts)=W,((2+rs.length:Nat):Int)=j2,fr q=F,(rs.map λ(n:Nat)=>D.str<|ed n)=RW at *;clear mem sg ti tn hq hr ht s2 n1 n2 ix e le x0 x1 Bf l1 ll;walk_at "mid"
  ·have:=Np (n:=x) (by have:=hr x hx;lia);clear mem sg ti tn hq hr ht s2 n1 n2 ix e le x0 x1 Bf l1 ll sp s1 i1 fq;walk_at "mid"
 have k2:oW [Z<|.str<|Str.join (eP 32)<|pV q rs ts,Z<|cN<|pV q rs ts,Z<|.int ((2+rs.length:Nat):Int),Z<|fr q,Z<|.lst<|cA rs,C]=Z (.lst<|ts.map fr):=by
  refine yb (λy=>D.str<|wd y) fr ts ?_ (by lia) λx hx=>⟨[Z<|.str<|wd x],rfl,?_⟩
  ·generalize Str.join (eP 32) (pV q rs ts)=J' at *;generalize cN (pV q rs ts)=W,((2+rs.length:Nat):Int)=j2,fr q=F,(ts.map λy=>D.str<|wd y)=RW at *;clear mem sg ti tn hq hr ht s1 n1 n2 ix e le x0 x1 Bf l1 ll k1;walk_at "mid"
  ·have:=M3 (ht x hx).1 (ht x hx).2;clear mem sg ti tn hq hr ht s2 n1 n2 ix e le x0 x1 Bf l1 ll sp s1 i1 fq k1;walk_at "mid"
 have fn:pN Ã (fr q) .non=Z (.bl Ã):=rfl;have c4:¬((3+rs.length+ts.length:Nat):Int)<4:=by lia
 unfold mV;generalize Str.join (eP 32) (pV q rs ts)=J',cN (pV q rs ts)=W,((2+rs.length:Nat):Int)=j2,((3+rs.length+ts.length:Nat):Int)=j3,fr q=F,D.lst (cA rs)=RR,D.lst (ts.map fr)=TT,oW=Q1,oX=Q2 at *;clear mem sg ti tn hq hr ht e Bf l1 ll s1 s2;walk_at "mie"
theorem ϵ (neg:Bool)(w:List Nat):gb neg (.lst<|cA w) (.lst [])=Z (.bl<|if neg then !decide (w=[])else decide (w=[])):=by
 have:=(El Ei).eq (by decide) (neg:=neg) (w.map λ(x:Nat)=>(x:Int)) [];have e:(El Ei).enc (w.map λ(x:Nat)=>(x:Int))=.lst (cA w):=by show D.lst ((w.map λ(x:Nat)=>(x:Int)).map D.int)=_;rw[c7];rfl
 rw[e]at this;have hd:decide ((w.map λ(x:Nat)=>(x:Int))=[])=decide (w=[]):=decide_eq_decide.mpr (by simp);rw[hd]at this;exact this
theorem RX {J:List gR}{mv:Nat}{left:List Nat}(qH:∀x∈left,x<mv)(EK:∀x∈left,∃n,n<J.length/\aG J n=x/\aS J n∈left)(v:Nat):∀(f:Nat) (ws:List Nat) (È:Nat),mv<ws.length+f->yA (aS J) (aG J) v ws È->(ws.map<|aG J).Nodup->(∀n∈ws,n<J.length/\aG J n∈left)->È∈left->∃(R:List Nat) (x:Nat),R≠[]/\vF (aS J) (aG J) x R x/\(R.map<|aG J).Nodup/\∀n∈R,n<J.length/\aG J n∈left
 |0,ws,È,hf,_,nd,hw,_=>by
  have:=Õ.len_le (mv:=mv) nd λx hx=>by obtain⟨n,h1,rfl⟩:=cX.mp hx;exact qH _ (hw n h1).2
  rw[ck]at this;lia
 |f+1,ws,È,hf,hc,nd,hw,hh=>by
  by_cases hm:È∈ws.map (aG J)
  ·have AH:=vO.mpr hm;have CB:(ws.map<|aG J)[(ws.map<|aG J).idxOf È]?=Z È:=by rw[cC AH,nk]
   generalize (ws.map<|aG J).idxOf È=j at *;rw[ck]at AH;rw[cP,cC AH]at CB;replace CB:aG J ws[j]=È:=by simpa using CB
   have wlk:yA (aS J) (aG J) È (ws.drop j) È:=by have:=hc.drop (j:=j) (n:=ws[j])<|cC AH;rw[CB]at this;exact this
   refine⟨(ws.drop j).reverse,È,?_,wlk.wlk,?_,λn hn=>hw n<|p4<|sP.mp hn⟩
   ·intro e;have:=congrArg nZ e;rw[fT,eM]at this;simp at this;lia
   ·rw[oP,lU];exact xS.mpr<|(og.sublist (AU _ _) nd).imp λh e=>h e.symm
  ·obtain⟨n,n1,n2,n3⟩:=EK È hh;refine RX qH EK v f (ws++[n]) (aS J n) (by rw[cM,eR];lia) (hc.snoc n2) ?_ (λk hk=>?_) n3
   ·rw[dI,rB,n2];exact dh.mpr ⟨nd,by simp,λa ha b hb e=>hm<|by rw[←cw.mp hb,←e];exact ha⟩
   ·rcases cH.mp hk with hk|hk
    ·exact hw k hk
    ·rw[cw.mp hk,n2];exact⟨n1,hh⟩
theorem Nw {K' W':Nat->Nat}:∀{w:List Nat} {a b:Nat},vF K' W' a w b->w.map K'++[b]=a::w.map W'
 |[],a,b,h=>by have h:a=b:=h;subst h;rfl
 |n::w,a,b,h=>by have ih:=Nw h.2;rw[cI,oJ,ih,h.1,cI]
theorem RG.starts (h:RG J cY R):∀n∈R,aS J n∈R.map (aG J):=by
 obtain⟨x,hx⟩:=h.w;have e:=Nw hx;have UW:x∈R.map (aG J):=by
  have pU:R.map (aG J)≠[]:=by simpa using h.ne
  have h2:=(tK pU).symm;rw[h2,←oJ]at e;obtain⟨_,h4⟩:=Bm e rfl;have h5:x=(R.map<|aG J).getLast pU:=by simpa using h4
  rw[h5];exact List.getLast_mem pU
 intro n hn;have:aS J n∈R.map (aS J)++[x]:=dF _<|cX.mpr ⟨n,hn,rfl⟩;rw[e]at this;rcases cu.mp this with h|h
 ·rw[h];exact UW
 ·exact h
noncomputable def yR (J:List gR)(left:List Nat):List Nat:=(J.filter λa=>decide<|a.s∈left).map (·.g)
def stay (J:List gR)(left:List Nat):List Nat:=left.filter λx=>decide<|x∈yR J left
theorem RY {left:List Nat}{x:Nat}:x∈yR J left↔∃n,n<J.length/\aG J n=x/\aS J n∈left:=by
 unfold yR;rw[cX];constructor
 ·rintro⟨a,ha,rfl⟩;obtain⟨h1,h2⟩:=dU.mp ha;obtain⟨n,hn⟩:=dJ.mp h1;have e:aN J n=a:=by unfold aN;rw[hn];rfl
  refine⟨n,(cU.mp hn).1,?_,?_⟩
  ·unfold aG;rw[e]
  ·unfold aS;rw[e];exact of_decide_eq_true h2
 ·rintro⟨n,hn,h1,h2⟩;exact⟨aN J n,dU.mpr ⟨wn hn,decide_eq_true h2⟩,h1⟩
theorem ZU (pK:J.length<=120)(hm:mv<=40)(K5:∀n,n<J.length->aG J n<mv):∃b:Bool,kc [.lst<|J.map eI,.int mv]=Z (.bl b)/\(b=Â↔∀R,¬RG J (cE J.length) R):=by
 have lp:=j7 (g:=gV 3) (b:=lZ) (n:=mv)
  (λk Y=>∃(left:List Nat) (y3 y4:Option D),Y=[dq<|J.map eI,dr mv,dq<|cA left,y3,y4]/\left.length<=40/\(∀x∈left,x<mv)/\(left.length+k<=mv\/stay J left=left)/\∀R,RG J (cE J.length) R->∀n∈R,aG J n∈left)
  (λ_=>False) (by
   rintro k Y hk ⟨left,y3,y4,rfl,GV,qH,iI,sL⟩;have q2:o6 [dq<|J.map eI,dr mv,dq<|cA left,dr k,y4]=dq (cA<|yR J left):=by
    have e:cA (yR J left)=(J.filter λa=>decide<|a.s∈left).map λa=>D.int (a.g:Int):=by unfold cA yR;rw[c7];rfl
    rw[e];refine uh (own:=1) (cap:=[2]) (g:=gV 0) eI (λa=>decide<|a.s∈left) (λa=>D.int a.g) J rfl (by lia) λa _=>⟨[Z<|eI a,dq<|cA left],rfl,?_,λ_=>rfl⟩;have q:=ux Ã a.s left;rw[if_neg<|by decide]at q;have i0:dM (eI a) (.int 0)=dr (a.s:Int):=rfl;generalize decide (a.s∈left)=bb,eI a=ea,cA left=nl at *;clear qH iI sL e GV;walk_at "mid"
   have q1:o4 [dq<|J.map eI,dr mv,dq<|cA left,dr k,dq<|cA<|yR J left]=dq (cA<|stay J left):=by refine uh (own:=1) (cap:=[4]) (g:=gV 0) (λ(x:Nat)=>D.int x) (λx=>decide<|x∈yR J left) (λ(x:Nat)=>D.int x) left rfl (by lia) λx _=>⟨[dr x,dq<|cA<|yR J left],rfl,?_,λ_=>rfl⟩;have q:=ux Ã x<|yR J left;rw[if_neg<|by decide]at q;generalize decide (x∈yR J left)=bb,cA (yR J left)=nl at *;clear qH iI sL q2 GV;walk_at "mid"
   have h3:(stay J left).length<=left.length:=xR (λx=>decide<|x∈yR J left) left;refine⟨[dq<|J.map eI,dr mv,dq<|cA left,dr k,y4],rfl,.inl ⟨[dq<|J.map eI,dr mv,dq<|cA<|stay J left,dr k,dq<|cA<|yR J left],?_,stay J left,_,_,rfl,by lia,λx hx=>qH x (dU.mp hx).1,?_,λR hR n hn=>?_⟩⟩
   ·generalize cA (stay J left)=ns at *;generalize cA (yR J left)=ng,cA left=nf,J.map eI=al at *;clear sL iI qH hk hm pK h3 GV;unfold lZ;walk_at "mid"
   ·by_cases he:stay J left=left
    ·exact .inr (by rw[he,he])
    ·have h2:(stay J left).length≠left.length:=λz=>he<|zQ.mpr<|List.length_filter_eq_length_iff.mp z;exact .inl (by have:=iI.resolve_right he;lia)
   ·refine dU.mpr ⟨sL R hR n hn,decide_eq_true<|RY.mpr ⟨n,dm.mp<|hR.m n hn,rfl,?_⟩⟩;obtain⟨m,Od,yB⟩:=cX.mp<|hR.starts n hn;rw[←yB];exact sL R hR m Od) mv 0 [dq<|J.map eI,dr mv,dq<|cA<|cE mv,C,C] (by lia) ⟨_,C,C,rfl,by simpa using hm,λx hx=>dm.mp hx,.inl<|by simp,λR hR n hn=>dm.mpr<|K5 n<|dm.mp<|hR.m n hn⟩
 rw[←pZ]at lp;have Oj:pA [.int mv]=Z ((cE mv).map λ(t:Nat)=>D.int t):=by rw[vq (by lia)<|by lia];unfold l7;simp
 have lr:tW [.int mv]=dq (cA<|cE mv):=by show(if 0<=(mv:Int)/\(mv:Int)<=16777216 then Z (D.lst<|l7 0 (mv:Int).toNat)else C)=_;rw[if_pos ⟨by lia,by lia⟩];unfold l7 cA;simp
 rcases lp with⟨ρ',l1,left,y3,y4,rfl,GV,qH,iI,sL⟩|⟨_,_,f⟩
 ·have Cw:=ϵ Ã left;rw[if_neg<|by decide]at Cw;refine⟨decide<|left=[],?_,?_⟩
  ·generalize decide (left=[])=bb at *;generalize (cE mv).map (λ(t:Nat)=>D.int t)=LM,cA left=nf,cA (cE mv)=nl,J.map eI=al at *;clear sL iI qH hm pK GV;unfold kc;walk_at "mid"
  ·rw[decide_eq_true_iff];constructor
   ·intro h R hR;obtain⟨n,hn⟩:∃n,n∈R:=uX _ hR.ne;have:=sL R hR n hn;rw[h]at this;cases this
   ·intro h;apply Classical.byContradiction;intro pU;have he:stay J left=left:=iI.resolve_left λz=>pU (sZ<|by lia);obtain⟨v,hv⟩:∃v,v∈left:=uX _ pU;obtain⟨R,x,r1,r2,r3,r4⟩:=RX (J:=J) (mv:=mv) (left:=left) qH (λx hx=>by rw[←he]at hx;exact RY.mp<|of_decide_eq_true (dU.mp hx).2) v (mv+1) [] v (by simp) rfl (by simp) (λn hn=>by cases hn) hv;exact h R ⟨r1,⟨x,r2⟩,r3,λn hn=>dm.mpr (r4 n hn).1⟩
 ·exact f.elim
theorem Hl {i:Int}(h0:0<=i)(h1:i<(J.length:Int)):dM (.lst<|J.map eI) (.int i)=Z (.tup [.int ((aN J i.toNat).s:Int),.int ((aN J i.toNat).g:Int),.int (aN J i.toNat).t,.int ((aN J i.toNat).b:Int)]):=by obtain⟨n,rfl⟩:∃n:Nat,i=(n:Int):=⟨i.toNat,by lia⟩;rw[i8];exact ya (by rw[cP,DC<|by lia];rfl)
theorem ϴ {w:List Nat}{x:Nat}(h:vF (aS J) (aG J) x w x)(hw:w≠[])(hn:∀n∈w,n<J.length)(nd:(w.map<|aG J).Nodup):EB (sI J) (gI J) J.length (w.map λ(n:Nat)=>(n:Int)):=by
 have e1:(w.map λ(n:Nat)=>(n:Int)).map (sI J)=w.map (aS J):=by rw[c7];exact gA λn _=>by simp[sI,aS]
 have S:(w.map λ(n:Nat)=>(n:Int)).map (gI J)=w.map (aG J):=by rw[c7];exact gA λn _=>by simp[gI,aG]
 refine⟨by simpa using hw,λi hi=>?_,?_,by rw[S];exact nd⟩
 ·obtain⟨n,h1,rfl⟩:=cX.mp hi;have:=hn n h1;lia
 ·rw[e1,S];have h1:=Nw h;have pU:w.map (aG J)≠[]:=by simpa using hw
  have h2:=(tK pU).symm;generalize (w.map<|aG J).dropLast=gi at h2;generalize (w.map<|aG J).getLast pU=gl at h2;rw[h2,←oJ]at h1;obtain⟨h3,h4⟩:=Bm h1 rfl;rw[h3,h2];unfold Dl;have h5:gl=x:=by simpa using h4.symm
  subst h5;have hl:(gi++[gl]).length-1=gi.length:=by simp
  rw[hl,uL,uN];rfl
theorem ϳ {is:List Int}(hl:is.length<=1000)(h:EB (sI J) (gI J) J.length is):kb [.lst<|J.map eI,.lst<|is.map .int]=Z (.bl Â):=by
 have la:fC [.lst<|J.map eI]=dr (J.length:Int):=(yk _).trans (by rw[ck]);have li:fC [.lst<|is.map .int]=dr (is.length:Int):=(yk _).trans (by rw[ck]);obtain⟨h1,h2⟩:=Ϥ.mp h;have Jo:∀k,k<is.length->dM (.lst<|is.map .int) (.int k)=dr (is.getD k 0):=λk hk=>ya (by rw[cP,yz hk];rfl);have Lu:=j7 (g:=gV 3) (b:=lY) (n:=is.length) (λk Y=>∃y3,Y=[dq<|J.map eI,dq<|is.map .int,dq<|cA<|(cE k).map λj=>sI J<|is.getD j 0,y3]) (λ_=>False) (by
  rintro k Y hk ⟨y3,rfl⟩;obtain⟨⟨c1,c2⟩,⟨c3,c4⟩,c5,c6⟩:=h2 k hk;have e3:cA ((cE<|k+1).map λj=>sI J<|is.getD j 0)=cA ((cE k).map λj=>sI J<|is.getD j 0)++[.int ((aN J (is.getD k 0).toNat).s:Int)]:=by unfold cA;rw[List.range_succ,dI,dI];rfl
  refine⟨_,rfl,.inl ⟨[dq<|J.map eI,dq<|is.map .int,dq<|cA<|(cE<|k+1).map λj=>sI J<|is.getD j 0,dr k],?_,_,rfl⟩⟩;have hz:(cA<|(cE k).map λj=>sI J<|is.getD j 0).length<16777216:=by unfold cA;rw[ck,ck,fk];lia
  have vX:(aN J (is.getD k 0).toNat).s∉(cE k).map λj=>sI J (is.getD j 0):=λz=>by obtain⟨i,hi,e⟩:=cX.mp z;exact c6 i (dm.mp hi) e
  have q2:=ux Ã (aN J (is.getD k 0).toNat).s<|(cE k).map λj=>sI J<|is.getD j 0;rw[if_neg<|by decide,decide_eq_false vX]at q2;rw[e3];clear e3 vX c6;generalize cA ((cE k).map λj=>sI J<|is.getD j 0)=gd at *;have i1:=Jo k hk;have hp:yC is.length k<is.length:=by unfold yC;split<;>lia
  have i2:dM (.lst<|is.map .int) (.int<|k-1)=dr (is.getD (yC is.length k) 0):=by
   by_cases h0:k=0
   ·subst h0;have e:yC is.length 0=is.length-1:=rfl;rw[e]at hp ⊢;show atI _ _=_;unfold atI;have:ò (is.map D.int).length (((0:Nat):Int)-1)=Z (is.length-1):=by rw[ck];unfold ò;rw[if_neg<|by lia,if_pos<|by lia];congr 1;lia
    rw[this];show(is.map D.int)[is.length-1]?=_;rw[cP,yz hp];rfl
   ·have e:yC is.length k=k-1:=by unfold yC;rw[if_neg h0]
    rw[e]at hp ⊢;rw[show(k:Int)-1=((k-1:Nat):Int)by lia];exact ya (by rw[cP,yz hp];rfl)
  have t1:=Hl (J:=J) c1 c2;have t2:=Hl (J:=J) c3 c4;have e0:∀(a b c d:D),dM (.tup [a,b,c,d]) (.int 0)=Z a:=λ_ _ _ _=>rfl;have e1:∀(a b c d:D),dM (.tup [a,b,c,d]) (.int 1)=Z b:=λ_ _ _ _=>rfl;generalize is.getD (yC is.length k) 0=u,is.getD k 0=v at *;have q:gb Â (.int ((aN J v.toNat).s:Int)) (.int ((aN J u.toNat).g:Int))=Z (.bl Ã):=(uc _ _).trans (by rw[if_pos rfl,decide_eq_true (by have:(aN J v.toNat).s=(aN J u.toNat).g:=c5;lia)];rfl);generalize J.map eI=al,is.map D.int=il at *;unfold lY;clear h h1 h2 hl hk Jo li la hp c1 c2 c3 c4 c5;walk_at "mid") is.length 0 [dq<|J.map eI,dq<|is.map .int,Z<|.lst [],C] (by lia) ⟨C,rfl⟩
 rw[←pZ]at Lu;have a1:eN lB (Ä km Å) [dq<|J.map eI,dq<|is.map .int,Z<|.lst [],C]=Z (.bl Â):=by
  have:km [dq<|J.map eI,dq<|is.map .int,Z<|.lst [],C]=dq (is.map λ_=>D.bl Â):=by
   refine yb (λ(z:Int)=>D.int z) (λ_=>D.bl Â) is rfl (by lia) λz hz=>⟨[dr z,dq<|J.map eI],rfl,?_⟩;obtain⟨k,hk,e⟩:=ir.mp hz;obtain⟨⟨c1,c2⟩,_⟩:=h2 k hk;have e:is.getD k 0=z:=by rw[fR,cC hk,e];rfl
   rw[e]at c1 c2;generalize J.map eI=al at *;clear h h1 h2 hl Jo li Lu hz e;walk_at "mid"
  unfold eN Ä;rw[this];show lB [.lst<|is.map λ_=>D.bl Â]=_;rw[á];simp
 rcases Lu with⟨ρ1,l1,y1,rfl⟩|⟨_,_,f⟩
 ·have q:=(El Ei).eq (by decide) (neg:=true) is [];replace q:gb Â (.lst<|is.map .int) (.lst [])=Z (.bl<|!decide (is=[])):=q;rw[decide_eq_false h1]at q;have Oj:pA [.int is.length]=Z ((cE is.length).map λ(t:Nat)=>D.int t):=by rw[vq (by lia)<|by lia];unfold l7;simp
  generalize cA ((cE is.length).map λj=>sI J<|is.getD j 0)=gd at *;clear h h1 h2 Jo la hl;generalize (cE is.length).map (λ(t:Nat)=>D.int t)=LM,J.map eI=al,is.map D.int=il at *;unfold kb;generalize eN lB (Ä km Å)=AA at *;walk_at "mid"
 ·exact f.elim
theorem RG.is (h:RG J (cE J.length) R)(hl:R.length<=1000):kb [.lst<|J.map eI,.lst<|cA R]=Z (.bl Â):=by obtain⟨x,hx⟩:=h.w;have:=ϳ (J:=J) (is:=R.map λ(n:Nat)=>(n:Int)) (by rw[ck];exact hl)<|ϴ hx h.ne (λn hn=>dm.mp<|h.m n hn) h.nd;rw[c7]at this;exact this
theorem Q5 {α:Type}{g:D->L3.Env->Option L3.Env}{b:SF}(enc:α->D)(f:α->Bool)(I:L3.Env->Prop)(w:D):∀(xs:List α) (Y:L3.Env),I Y->(∀x∈xs,∀Y,I Y->∃ρ1,g (enc x) Y=Z ρ1/\((f x=Â/\∃ρ2,b ρ1=Z (.nx ρ2)/\I ρ2)\/(f x=Ã/\b ρ1=Z (.rt w)))) ->
  (xs.all f=Â/\∃ρ',jV g b (xs.map enc) Y=Z (.nx ρ')/\I ρ')\/(xs.all f=Ã/\jV g b (xs.map enc) Y=Z (.rt w))
 |[],Y,h,_=>.inl ⟨rfl,Y,rfl,h⟩
 |x::xs,Y,h,st=>by
  obtain⟨ρ1,h1,h2⟩:=st x b7 Y h;have AN:jV g b ((x::xs).map enc) Y=(g (enc x) Y).bind λρ1=>(b ρ1).bind λo=>match o with
    |.nx ρ'=>jV g b (xs.map enc) ρ'
    |.ct ρ'=>jV g b (xs.map enc) ρ'
    |.bk ρ'=>Z<|.nx ρ'
    |.rt d=>Z (.rt d):=rfl
  rw[AN,h1,d8,f9];rcases h2 with⟨e,ρ2,h2,h3⟩|⟨e,h2⟩
  ·rw[h2,e];exact Q5 enc f I w xs ρ2 h3 λy hy=>st y<|cj _ hy
  ·rw[h2,e];exact .inr ⟨rfl,rfl⟩
theorem ϲ {x1 x2 y1 y2 P1 P2 t b Ts Tg:Int}(hx:0<x2)(hy:0<y2)(ex:x1*P2=Ts*x2)(ey:y1*P2=Tg*y2)(h:Ts+(t*P2-b*P1)<=Tg):(x1*P2+t*x2*P2-P1*b*x2)*y2<=y1*x2*P2:=by
 have e1:(x1*P2+t*x2*P2-P1*b*x2)*y2=(Ts+(t*P2-b*P1))*(x2*y2):=by rw[ex];grind
 have S:y1*x2*P2=Tg*(x2*y2):=by
  have:y1*x2*P2=(y1*P2)*x2:=by grind
  rw[this,ey];grind
 rw[e1,S];exact cZ h (jQ (by lia)<|by lia)
theorem Ţ {p:Int×Int}(pK:∀a∈J,Fx mv a)(hl:J.length<=1000)(hp:0<p.2)(FT:Sz 300 p.1)(uT:Sz 300 p.2)(hT:∀x,Sz 300<|T x)(hk:∀n∈cE J.length,T (aS J n)+gD J p n<=T (aG J n)):∃Y,jV (gT<|Ç (gV 8)<|Ç (gV 9)<|Ç (gV 10)<|Ç (gV 11) Ð) lI (J.map eI) [dq<|J.map eI,dr mv,Z<|.tup [fr p,.lst<|cA R,n9 mv p T],Z<|fr p,dq<|cA R,Z<|n9 mv p T,dr<|sT J R,dr<|sB J R,C,C,C,C,C,C,C]=Z (.nx Y):=by
 have lp:=Q5 (g:=gT<|Ç (gV 8)<|Ç (gV 9)<|Ç (gV 10)<|Ç (gV 11) Ð) (b:=lI) eI (λ_=>Â) (λY=>∃y3 y4 y5 y6 y7 y8 y9,Y=[dq<|J.map eI,dr mv,Z<|.tup [fr p,.lst<|cA R,n9 mv p T],Z<|fr p,dq<|cA R,Z<|n9 mv p T,dr<|sT J R,dr<|sB J R,y3,y4,y5,y6,y7,y8,y9]) (.bl Ã) J [dq<|J.map eI,dr mv,Z<|.tup [fr p,.lst<|cA R,n9 mv p T],Z<|fr p,dq<|cA R,Z<|n9 mv p T,dr<|sT J R,dr<|sB J R,C,C,C,C,C,C,C] ⟨_,_,_,_,_,_,_,rfl⟩ (by
  rintro a ha Y ⟨y3,y4,y5,y6,y7,y8,y9,rfl⟩;obtain⟨n,hn⟩:=dJ.mp ha;have D4:=(cU.mp hn).1;have ea:aN J n=a:=by unfold aN;rw[hn];rfl
  have hk:=hk n<|dm.mpr D4;unfold gD aS aG at hk;rw[ea]at hk;have ok:=pK a ha;have ix:∀g,g<mv->dM (n9 mv p T) (.int g)=Z (fr<|Fq.mk (T g) p.2):=λg hg=>ya (by rw[cP,zR hg];rfl);have i1:=ix a.s ok.s;have i2:=ix a.g ok.g;have xc:=Fq.mk_cross (T a.s) p.2;have yc:=Fq.mk_cross (T a.g) p.2;have xl:Fq.Low (Fq.mk (T a.s) p.2):=Fq.mk_low (by lia);have yl:Fq.Low (Fq.mk (T a.g) p.2):=Fq.mk_low (by lia);have Mi:=(hT a.s).le (Fq.mk_le_one (t:=T a.s) (b:=p.2)<|by lia);have Ml:=(hT a.g).le (Fq.mk_le_one (t:=T a.g) (b:=p.2)<|by lia);have Eo:=uT.le (Fq.mk_le_two (t:=T a.s) (b:=p.2)<|by lia);have O3:=uT.le (Fq.mk_le_two (t:=T a.g) (b:=p.2)<|by lia);generalize Fq.mk (T a.s) p.2=x,Fq.mk (T a.g) p.2=y at *;have tz:Sz 300 a.t:=vg (w:=1000000000) (by have:=ok.t0;lia) ok.t1 (by decide);have bz:Sz 300 (a.b:Int):=vg (w:=4) (by lia) (by have:=ok.b;lia) (by decide);have m1:e7 (.int x.1) (.int p.2)=dr (x.1*p.2):=xo Mi uT (by decide) (by decide);have m2:e7 (.int a.t) (.int x.2)=dr (a.t*x.2):=xo tz Eo (by decide) (by decide);have m3:e7 (.int<|a.t*x.2) (.int p.2)=dr (a.t*x.2*p.2):=xo (tz.mul Eo) uT (by decide) (by decide);have m4:e7 (.int p.1) (.int a.b)=dr (p.1*(a.b:Int)):=xo FT bz (by decide) (by decide);have m5:e7 (.int<|p.1*(a.b:Int)) (.int x.2)=dr (p.1*(a.b:Int)*x.2):=xo (FT.mul bz) Eo (by decide) (by decide);have m6:e7 (.int y.1) (.int x.2)=dr (y.1*x.2):=xo Ml Eo (by decide) (by decide);have m7:e7 (.int<|y.1*x.2) (.int p.2)=dr (y.1*x.2*p.2):=xo (Ml.mul Eo) uT (by decide) (by decide);have lz:Sz 902 (x.1*p.2+a.t*x.2*p.2-p.1*(a.b:Int)*x.2):=((((Mi.mul uT).mono (by decide:300+300<=900)).add<|(tz.mul Eo).mul uT).sub<|((FT.mul bz).mul Eo).mono<|by decide);have m8:e7 (.int<|x.1*p.2+a.t*x.2*p.2-p.1*(a.b:Int)*x.2) (.int y.2)=dr ((x.1*p.2+a.t*x.2*p.2-p.1*(a.b:Int)*x.2)*y.2):=xo lz O3 (by decide) (by decide);have Tv:=ϲ (P1:=p.1) (P2:=p.2) (t:=a.t) (b:=(a.b:Int)) xl.gt yl.gt xc yc hk;have lt:tX (.int<|y.1*x.2*p.2) (.int<|(x.1*p.2+a.t*x.2*p.2-p.1*(a.b:Int)*x.2)*y.2)=Z (.bl Ã):=(ub _ _).trans (by rw[decide_eq_false<|by lia]);refine⟨[dq<|J.map eI,dr mv,Z<|.tup [fr p,.lst<|cA R,n9 mv p T],Z<|fr p,dq<|cA R,Z<|n9 mv p T,dr<|sT J R,dr<|sB J R,dr a.s,dr a.g,dr a.t,dr a.b,y7,y8,y9],rfl,.inl ⟨rfl,[dq<|J.map eI,dr mv,Z<|.tup [fr p,.lst<|cA R,n9 mv p T],Z<|fr p,dq<|cA R,Z<|n9 mv p T,dr<|sT J R,dr<|sB J R,dr a.s,dr a.g,dr a.t,dr a.b,Z<|fr x,Z<|fr y,dr<|x.1*p.2+a.t*x.2*p.2-p.1*(a.b:Int)*x.2],?_,_,_,_,_,_,_,_,rfl⟩⟩;have a0:=Bd x;have a1:=uJ x;have b0:=Bd y;have b1:=uJ y;have p0:=Bd p;have p1:=uJ p;clear Tv lz xc yc xl yl Mi Ml Eo O3 tz bz hk ok ix ea D4 hn ha hT FT uT pK hl hp;generalize fr x=X,fr y=Y',fr p=F,sT J R=st,sB J R=sb,cA R=nr,n9 mv p T=TM,J.map eI=al,(x.1*p.2+a.t*x.2*p.2-p.1*(a.b:Int)*x.2)*y.2=w1 at *;generalize hw2:y.1*x.2*p.2=w2 at *;generalize y.1*x.2=w3,a.t*x.2*p.2=w4 at *;generalize a.t*x.2=w5,p.1*(a.b:Int)*x.2=w6 at *;generalize p.1*(a.b:Int)=w7,x.1*p.2=w8 at *;unfold lI;walk_at "mid")
 rcases lp with⟨_,ρ',lp,_⟩|⟨h1,_⟩
 ·exact⟨ρ',lp⟩
 ·have:J.all (λ_=>Â)=Â:=by simp
  rw[this]at h1;cases h1
structure An (mv:Nat)(J:List gR)(R:List Nat)(q:Int×Int)(T:Nat->Int):Prop where
 r:RG J (cE J.length) R
 qe:q=Fq.mk (sT J R) (sB J R)
 mx:∀R',RG J (cE J.length) R'->sT J R' * q.2<=q.1*sB J R'
 k:∀n∈cE J.length,T (aS J n)+gD J q n<=T (aG J n)
 t:∀x,0<=T x/\T x<=1000000000000000
section
variable {q:Int×Int}
theorem An.low (h:An mv J R q T)(g:GN mv J (cE J.length) rk mb):Fq.Low q/\Fz 300 q/\q.2<=160/\0<=q.1/\q.1<=120000000000:=by obtain⟨l,_,z2,n0,n1⟩:=JT h.r g;rw[←h.qe]at l z2 n0 n1;have:=l.gt;exact⟨l,⟨vg (w:=120000000000) (by lia) n1<|by decide,vg (w:=160) (by lia) z2<|by decide⟩,z2,n0,n1⟩
theorem ZV (h:An mv J R q T)(gn:GN mv J (cE J.length) rk mb):lQ [.lst<|J.map eI,.int mv,.tup [fr q,.lst<|cA R,n9 mv q T]]=Z (.bl Â):=by
 obtain⟨lq,zq,HA,n0,n1⟩:=h.low gn;have Oh:=lq.gt;have NZ:=h.r.len gn;have hm:=gn.m;have ri:=h.r.is (by lia);obtain⟨Y,ft⟩:=Ţ (mv:=mv) (J:=J) (R:=R) (p:=q) (T:=T) gn.ok (by have:=gn.al;lia) Oh zq.1 zq.2 (λx=>vg (w:=1000000000000000) (by have:=h.t x;lia) (h.t x).2<|by decide) h.k;have ln:fC [n9 mv q T]=dr (mv:Int):=by unfold n9;rw[yk,ck,fk]
 have eqn:gb Â (.int mv) (.int mv)=Z (.bl Ã):=(uc _ _).trans (by simp);have isn:pN Ã (.tup [fr q,.lst<|cA R,n9 mv q T]) .non=Z (.bl Ã):=rfl;have j1:dM (.tup [fr q,.lst<|cA R,n9 mv q T]) (.int 1)=dq (cA R):=rfl;have j2:dM (.tup [fr q,.lst<|cA R,n9 mv q T]) (.int 2)=Z (n9 mv q T):=rfl;have FJ:∀n∈R,n<J.length:=λn hn=>dm.mp<|h.r.m n hn;have k2:=λr=>SS (J:=J) (w:=R) (j:=2) (f:=λa=>a.t) (q:=nW) (fi:=Ù<|L 4) rfl (λ_=>rfl) (by lia) FJ (dq (J.map eI)::(dr mv)::Z (.tup [fr q,.lst<|cA R,n9 mv q T])::Z (fr q)::(dq<|cA R)::r) rfl rfl;have k3:=λr=>SS (J:=J) (w:=R) (j:=3) (f:=λa=>(a.b:Int)) (q:=nV) (fi:=Ù<|L 4) rfl (λ_=>rfl) (by lia) FJ (dq (J.map eI)::(dr mv)::Z (.tup [fr q,.lst<|cA R,n9 mv q T])::Z (fr q)::(dq<|cA R)::r) rfl rfl;replace k2:∀r,nW _=dq ((R.map<|tN J).map .int):=k2;replace k3:∀r,nV _=dq ((R.map<|bN J).map .int):=k3;have u2:wF [.lst<|(R.map<|tN J).map .int]=dr (sT J R):=IA<|R.map<|tN J;have u3:wF [.lst<|(R.map<|bN J).map .int]=dr (sB J R):=IA<|R.map<|bN J;have bds:=h.r.bds gn;have hD:=gn.Dd;have cr:=Fq.mk_cross (sT J R)<|sB J R;rw[←h.qe]at cr;have m1:e7 (.int<|sT J R) (.int q.2)=dr (sT J R*q.2):=ua (by lia) (by lia);have m2:e7 (.int q.1) (.int<|sB J R)=dr (sT J R*q.2):=(ua (by lia)<|by lia).trans (by rw[cr]);have p0:=Bd q;have p1:=uJ q;have asg:∀r,ç (gT<|Ç (gV 3)<|Ç (gV 4)<|Ç (gV 5) Ð) (L 2) (dq (J.map eI)::(dr mv)::Z (.tup [fr q,.lst<|cA R,n9 mv q T])::C::C::C::r)=Z (.nx (dq (J.map eI)::(dr mv)::Z (.tup [fr q,.lst<|cA R,n9 mv q T])::Z (fr q)::(dq<|cA R)::Z (n9 mv q T)::r)):=λ_=>rfl;clear cr hD bds FJ h gn Oh lq zq HA n0 n1 NZ;generalize (R.map<|tN J).map D.int=tl,(R.map<|bN J).map D.int=bl,(D.tup [fr q,.lst<|cA R,n9 mv q T])=PD at *;generalize n9 mv q T=TM,sT J R*q.2=w1 at *;generalize sT J R=sTR,sB J R=sBR,cA R=rl,fr q=F,J.map eI=al' at *;unfold lQ;generalize ç (gT<|Ç (gV 3)<|Ç (gV 4)<|Ç (gV 5) Ð) (L 2)=AS,(gT<|Ç (gV 8)<|Ç (gV 9)<|Ç (gV 10)<|Ç (gV 11) Ð)=G4 at *;walk_at "mie"
end
theorem RZ {w:Str}(h:df.strOk w=Â):gb Ã (.str w) (.str "none")=Z (.bl<|decide<|w = "none"):=(yn h<|zy _).trans (by simp)
theorem Nx {F:D}{n:Int}{al nl:List D}{tx sw nm:Str}{b:Bool}(h1:dY [dk nt tbl pt n,.str "least"]=Z (.tup [.str tx,dk nt tbl pt<|n+1]))(h2:dY [dk nt tbl pt<|n+1,.str<|Str.join (eP 32) ["rate",nm]]=Z (.tup [.str sw,dk nt tbl pt<|n+1+1]))
  (x0:dM (.lst nl) (.int 0)=Z (.str nm)) (ad:d9 (.str "rate ") (.str nm)=Z (.str<|Str.join (eP 32) ["rate",nm])) (ln:fC [.lst nl]=dr mv) (hn:kc [.lst al,.int mv]=Z (.bl b)) (os:df.strOk sw=Â) (hb:b=Â->tx = "none"/\sw = "none")
  (hc:b=Ã->mV [.str tx]=Z F/\lQ [.lst al,.int mv,F]=Z (.bl Â)/\(sw≠"none"->∃W',gh [.str sw]=Z W'/\∀r0 r1 r2 r3 r4,(eB<|Ø (tb<|S (pN Â) (L 6)<|eC .non)<|tb<|S Ad (S e7 (S dM (L 6)<|eC<|.int 0)<|S dM (S dM (L 5)<|eC<|.int 0)<|eC<|.int 1)<|S e7 (S dM (S dM (L 5)<|eC<|.int 0)<|eC<|.int 0)<|S dM (L 6)<|eC<|.int 1) [r0,r1,r2,r3,r4,Z F,Z W']=Z (.bl Â))) :
  fP [dk nt tbl pt n,.lst al,.lst nl]=Z (.tup [.bl Â,dk nt tbl pt<|n+1+1]):=by
 have s1:Ö 3 (ku 0 6 "say" (Ä (eC<|.str "least") Å) dY) [Z<|dk nt tbl pt n,dq al,dq nl,C,C,C,C]=Z (.nx [Z<|dk nt tbl pt<|n+1,dq al,dq nl,Z<|.str tx,C,C,C]):=by have cs:=IG (i:=0) (gs:=Ä (eC<|.str "least") Å) (Y:=[Z<|dk nt tbl pt n,dq al,dq nl,C,C,C,C]) rfl rfl h1;unfold Ö;rw[cs];rfl
 have s2:Ö 4 (ku 0 6 "say" (Ä (S d9 (eC<|.str "rate ")<|S dM (L 2)<|eC<|.int 0) Å) dY) [Z<|dk nt tbl pt<|n+1,dq al,dq nl,Z<|.str tx,C,C,C]=Z (.nx [Z<|dk nt tbl pt<|n+1+1,dq al,dq nl,Z<|.str tx,Z<|.str sw,C,C]):=by
  have cs:=IG (i:=0) (gs:=Ä (S d9 (eC<|.str "rate ")<|S dM (L 2)<|eC<|.int 0) Å) (Y:=[Z<|dk nt tbl pt<|n+1,dq al,dq nl,Z<|.str tx,C,C,C]) rfl (row:=.str<|Str.join (eP 32) ["rate",nm]) (by
   show(((dM (.lst nl)<|.int 0).bind λy=>d9 (.str "rate ") y).bind λx=>Z [x])=_;rw[x0];show((d9 (.str "rate ")<|.str nm).bind λx=>Z [x])=_;rw[ad]
   rfl) h2
  unfold Ö;rw[cs];rfl
 have Cw:=RZ os;unfold fP BP;generalize Ö 3 (ku 0 6 "say" (Ä (eC<|.str "least") Å) dY)=S1,Ö 4 (ku 0 6 "say" _ dY)=S2,dk nt tbl pt (n+1+1)=d2 at *;generalize dk nt tbl pt (n+1)=d1,dk nt tbl pt n=d0,eB (Ø (tb<|S (pN Â) (L 6)<|eC .non) _)=Q at *;cases b with
 |true=>obtain⟨rfl,rfl⟩:=hb rfl;have e1:=RZ (w:="none")<|zy _;clear h1 h2 hb hc os ad x0;walk_at "mid"
 |false=>
  obtain⟨r1,r3,r4⟩:=hc rfl;clear h1 h2 hb hc os ad x0;by_cases hs:sw = "none"
  ·rw[decide_eq_true hs]at Cw;clear r4 hs;walk_at "mid"
  ·rw[decide_eq_false hs]at Cw;obtain⟨W',g1,g2⟩:=r4 hs;clear r4 hs;walk_at "mid"
theorem Ta {t b:Int}(h0:0<=t)(h1:t<=1000000000000000)(hb:1<=b)(IX:b<=1000):Fq.Low (Fq.mk t b)/\Qs (Fq.mk t b):=by have lo:Fq.Low (Fq.mk t b):=Fq.mk_low (by lia);have lg:=lo.gt;have k1:=Fq.mk_le_one (t:=t) (b:=b) (by lia);have k2:=Fq.mk_le_two (t:=t) (b:=b) (by lia);have cr:=Fq.mk_cross t b;have n0:0<=(Fq.mk t b).1:=l9 (by rw[cr];exact jQ h0 (by lia)) (by lia);exact⟨lo,(Fq.mk t b).1.toNat,(Fq.mk t b).2.toNat,by apply Prod.ext<;>(show _=(_:Int))<;>lia,by lia,by lia,by lia⟩
theorem ŀ (q:Int×Int):df.strOk (wd q)=Â:=by
 unfold wd;split
 ·exact Er _
 ·exact SD (SD (Er _)<|zy _)<|Er _
theorem Ϗ {a c:Int}{q:Int×Int}(hB:0<B')(e:a*B'=T' * c)(hc:0<c)(h:T' * q.2<=q.1*B'):a*q.2<=q.1*c:=by
 have h2:=cZ h<|eY hc;have e1:T' * q.2*c=a*q.2*B':=by
  have:T' * q.2*c=T' * c*q.2:=by grind
  rw[this,←e];grind
 have S:q.1*B' * c=q.1*c*B':=by grind
 rw[e1,S]at h2;exact gM h2 hB
theorem ZW (x:Str):Str.join (eP 32) [x]=x:=by rfl
theorem ZX (x:Str):("rate ":Str)++x=Str.join (eP 32) ["rate",x]:=by apply vx;rw[yx,join_list];show("rate ":Str).cps.toList++_=("rate":Str).cps.toList++32::x.cps.toList;rw[show("rate ":Str).cps.toList=("rate":Str).cps.toList++[32]by decide +kernel,dN];rfl
theorem ZY:Wd "least" Â Ã:=⟨zy _,by decide +kernel,by decide +kernel,Ig<|by decide +kernel,by decide +kernel⟩
theorem ώ:Wd "rate" Â Ã:=⟨zy _,by decide +kernel,by decide +kernel,Ig<|by decide +kernel,by decide +kernel⟩
theorem š {q q':Int×Int}{x y:D}{r0 r1 r2 r3 r4:Option D}(h:q'.1*q.2<=q.1*q'.2)(h1:0<q.2/\q.2<=1000)(h2:0<q'.2/\q'.2<=1000):(eB<|Ø (tb<|S (pN Â) (L 6)<|eC .non)<|tb<|S Ad (S e7 (S dM (L 6)<|eC<|.int 0)<|S dM (S dM (L 5)<|eC<|.int 0)<|eC<|.int 1)<|S e7 (S dM (S dM (L 5)<|eC<|.int 0)<|eC<|.int 0)<|S dM (L 6)<|eC<|.int 1) [r0,r1,r2,r3,r4,Z<|.tup [fr q,x,y],Z<|fr q']=Z (.bl Â):=by have i0:=Bd q;have i1:=uJ q;have j0:=Bd q';have j1:=uJ q';have k0:dM (.tup [fr q,x,y]) (.int 0)=Z (fr q):=rfl;have mm1:e7 (.int q'.1) (.int q.2)=dr (q'.1*q.2):=ua (by lia) (by lia);have mm2:e7 (.int q.1) (.int q'.2)=dr (q.1*q'.2):=ua (by lia) (by lia);have isn:pN Â (fr q') .non=Z (.bl Â):=rfl;generalize q'.1*q.2=w1,q.1*q'.2=w2,D.tup [fr q,x,y]=P,fr q'=F' at *;generalize fr q=F0 at *;clear h1 h2;walk_at "mie"
section
variable {n:Int}
theorem Pf (hn:mN mo)(h1:mo≠[])(ok:rE mo.length J):fP [dk (de (mo.map .str) J) tbl pt n,.lst<|J.map eI,cN mo]=Z (.tup [.bl Â,dk (de (mo.map .str) J) tbl pt<|n+1+1]):=by
 have hm:=ok.le;have pK:=ok.len;have BG:=ok.pos;have oA:(mo.map D.str).length=mo.length:=ck _;obtain⟨rk,Jd⟩:=ok.rank;obtain⟨mb,m1,m2,m3,m4⟩:=Ϝ (ns:=mo.map .str) (J:=J) pK;have gn:GN mo.length J (cE J.length) rk mb:=⟨BG,hm,pK,λa ha=>⟨(ok.right a ha).s,(ok.right a ha).g,(ok.right a ha).t0,(ok.right a ha).t1,(ok.right a ha).b⟩,λx hx=>dm.mp hx,by rw[fk];exact pK,Jd,m2,m4 4 (by decide) λa ha=>(ok.right a ha).b,m3⟩;obtain⟨d,p1,p2⟩:=RF gn oA m1;have le:=ϙ gn oA p1;obtain⟨L',hl⟩:=Ŋ (ns:=mo.map .str) (J:=J) (mv:=mo.length) (g:=0) hm pK (λa ha=>(ok.right a ha).s) (by lia);obtain⟨d',r1,r2⟩:=ň gn oA m1 hl;obtain⟨b,nb,hb⟩:=ZU (J:=J) (mv:=mo.length) pK hm<|λx hx=>(gn.ok _<|wn hx).g;have OX:∀{R},RG J (nJ J L') R->RG J (cE J.length) R:=λh=>⟨h.ne,h.w,h.nd,λx hx=>dm.mpr (Qn.mp<|h.m x hx).1⟩;have x0:dM (cN mo) (.int 0)=Z (.str<|dB mo 0):=J9 (mo:=mo) (i:=0) BG;have Ve:=hn.ok _ (xu (mo:=mo) (i:=0)<|by lia);have ad:d9 (.str "rate ") (.str<|dB mo 0)=Z (.str<|Str.join (eP 32) ["rate",dB mo 0]):=by
  have:("rate ":Str).length=5:=by decide +kernel
  have:=v4 Ve;rw[ym<|by lia,ZX]
 have ln:fC [cN mo]=dr (mo.length:Int):=(yk _).trans (by rw[ck]);have sl:∀{tx:Str},lN [dk (de (mo.map .str) J) tbl pt n,cN ["least"]]=Z (.tup [.str tx,dk (de (mo.map .str) J) tbl pt n])->dY [dk (de (mo.map .str) J) tbl pt n,.str "least"]=Z (.tup [.str tx,dk (de (mo.map .str) J) tbl pt<|n+1]):=λh=>by have:=QU (J:=J) (tbl:=tbl) (pt:=pt) (n:=n) (w0:="least") (ws:=[]) hn ZY (by constructor<;>(try unfold tE)<;>decide +kernel) (λ_ h=>nomatch h) (by decide) rfl (Ig<|by decide +kernel) rfl h;rwa[ZW]at this
 have sr:∀{sw:Str},(d'=.non/\sw = "none"\/∃q x y,d'=.tup [fr q,x,y]/\Fz 1900 q/\sw=wd q)->dY [dk (de (mo.map .str) J) tbl pt<|n+1,.str<|Str.join (eP 32) ["rate",dB mo 0]]=Z (.tup [.str sw,dk (de (mo.map .str) J) tbl pt<|n+1+1]):=λh=>QU (w0:="rate") (ws:=[dB mo 0]) hn ώ (by constructor<;>(try unfold tE)<;>decide +kernel) (λw hw=>by rw[cw]at hw;rw[hw];exact xu (by lia)) (by simp) rfl (Ig<|by decide +kernel) rfl (Ϲ hn.nd (by lia) r1 h);rcases p2 with⟨rfl,hN⟩|⟨R,q,T,rfl,a1,a2,a3,a4,a5⟩
 ·have bt:b=Â:=hb.mpr hN;rcases r2 with⟨rfl,_⟩|⟨R',q',T',_,h,_⟩
  ·exact Nx (F:=.non) (sl<|YA le) (sr<|.inl ⟨rfl,rfl⟩) x0 ad ln nb (zy _) (λ_=>⟨rfl,rfl⟩) λz=>by rw[bt]at z;cases z
  ·exact absurd (OX h)<|hN R'
 ·have an:An mo.length J R q T:=⟨a1,a2,a3,a4,a5⟩;have bf:b≠Â:=λz=>hb.mp z R a1;obtain⟨lq,zq,HA,n0,n1⟩:=an.low gn;have lg:=lq.gt;have qq:Qs q:=by refine⟨q.1.toNat,q.2.toNat,by apply Prod.ext<;>(show _=(_:Int))<;>lia,by lia,by lia,by lia⟩
  have NZ:=a1.len gn;have FJ:∀x∈R,x<=1000:=λx hx=>by have:=dm.mp<|a1.m x hx;lia
  have ts:n9 mo.length q T=.lst (((cE mo.length).map λg=>Fq.mk (T g) q.2).map fr):=by unfold n9;rw[c7];rfl
  have tq:∀x∈(cE mo.length).map (λg=>Fq.mk (T g) q.2),Fq.Low x/\Qs x:=λx hx=>by obtain⟨g,_,rfl⟩:=cX.mp hx;exact Ta (a5 g).1 (a5 g).2 (by lia) (by lia)
  have rt:=ZV an gn;rw[ts]at le rt;have al:=ZR (tbl:=tbl) (pt:=pt) (n:=n) (W:=cN ["least"]) le qq.fz FJ (by lia) (λx hx=>(tq x hx).2.fz) (by simp;lia);have rd:=϶ ⟨lq,qq⟩ FJ a1.ne (by lia) tq (by simp;lia);rcases r2 with⟨rfl,_⟩|⟨R',q',T',rfl,h,e,_⟩
  ·exact Nx (sl al) (sr<|.inl ⟨rfl,rfl⟩) x0 ad ln nb (zy _) (λz=>absurd z bf) λ_=>⟨rd,rt,λz=>absurd rfl z⟩
  ·have h':=OX h;have bd:=h'.bds gn;have D0:=gn.Dd;have HB:Fq.Low q'/\Qs q':=by rw[e];exact Ta (by lia) (by have:=gn.st;lia) (by lia) (by lia)
   have cr:=Fq.mk_cross (sT J R')<|sB J R';rw[←e]at cr;have U9:=HB.1.gt;have U8:=Ϗ (by lia) cr U9<|a3 R' h';refine Nx (sl al) (sr<|.inr ⟨q',_,_,rfl,HB.2.fz,rfl⟩) x0 ad ln nb (ŀ _) (λz=>absurd z bf) λ_=>⟨rd,rt,λ_=>⟨fr q',M3 HB.1 HB.2,λr0 r1 r2 r3 r4=>?_⟩⟩;have qb:q'.2<=1000:=by obtain⟨a,c,rfl,_,h3,h4⟩:=HB.2;show(c:Int)<=1000;lia
   exact š U8 (by lia) (by lia)
end
variable {S':List Nat}
theorem J4 (ns:List Int)(i:Int)(hi:0<=i):∃c,fN [.lst<|ns.map .int,.int i]=dr c:=by
 obtain⟨k,rfl⟩:∃k:Nat,i=k:=⟨i.toNat,by lia⟩;unfold fN;by_cases h:k<ns.length
 ·refine⟨ns[k],?_⟩;have:dM (.lst<|ns.map .int) (.int k)=Z (.int ns[k]):=zsm D.int (.inl rfl) (by simp[h]);walk_at "mid"
 ·refine⟨0,?_⟩;walk_at "mid"
noncomputable def BI (c:Int):Bool:=decide (1237940039285380274899124224<=c)&&decide (c%2=1)
theorem ύ (c:Int):my [.int c]=Z (.bl<|BI c):=by unfold my BI;by_cases h1:(1237940039285380274899124224:Int)<=c<;>by_cases h2:c%2=1<;>walk_at "mid"
theorem ό (c:Int){k:Int}(h0:0<=k)(h1:k<=1000000):∃r:Nat,nF [.int c,.int k]=dr r/\r<2147483648:=by
 have m0:e7 (.int 31) (.int k)=dr (31*k):=u0 (by decide) (by decide);have s0:AL (.int c) (.int<|1+31*k)=dr (c/2 ^ (1+31*k).toNat):=ċ (by lia);have r0:=ύ c;have fin:∀z:Int,∀m:Int,0<m->m<=2147483648->∃r:Nat,(Z (D.int<|z%m):Option D)=dr r/\r<2147483648:=λz m hm yB=>by have a1:=CK z (by lia:m≠0);have a2:=AQ z hm;exact⟨(z%m).toNat,by rw[Int.toNat_of_nonneg a1],by lia⟩
 generalize hn:(c+7919*k+1)*48271%2147483647=n1;have b1:0<=n1/\n1<2147483647:=by lia
 have m1:e7 (.int 7919) (.int k)=dr (7919*k):=u0 (by decide) (by decide);have m2:e7 (.int<|c+7919*k+1) (.int 48271)=dr ((c+7919*k+1)*48271):=ua (by decide) (by decide);have m3:e7 (.int n1) (.int<|n1/1009+69621)=dr (n1*(n1/1009+69621)):=u0 (by lia) (by lia);generalize CC:n1*(n1/1009+69621)%2147483647=n2;have b2:0<=n2/\n2<2147483647:=by lia
 have m4:e7 (.int n2) (.int<|n2/2003+39373+k)=dr (n2*(n2/2003+39373+k)):=u0 (by lia) (by lia);unfold nF;by_cases hr:BI c=Â
 ·by_cases hs:c/2 ^ (1+31*k).toNat > 0
  ·obtain⟨r,e1,S⟩:=fin (c/2 ^ (1+31*k).toNat) 2147483648 (by decide) (by decide);refine⟨r,?_,S⟩;rw[←e1];generalize c/2 ^ (1+31*k).toNat=q at s0 hs;clear e1 S fin hn CC b1 b2 h0 h1;walk_at "mid"
  ·obtain⟨r,e1,S⟩:=fin (n2*(n2/2003+39373+k)) 2147483629 (by decide) (by decide);refine⟨r,?_,S⟩;rw[←e1];generalize c/2 ^ (1+31*k).toNat=q at s0 hs;clear e1 S fin b1 b2 h0 h1;walk_at "mid"
 ·obtain⟨r,e1,S⟩:=fin (n2*(n2/2003+39373+k)) 2147483629 (by decide) (by decide);refine⟨r,?_,S⟩;rw[←e1];clear e1 S fin b1 b2 h0 h1 s0;walk_at "mid"
theorem R3:(" ":Str).cps.toList=[32]:=by decide +kernel
theorem vk (u:Str):∀{ws:List Str},ws≠[]->Str.join (eP 32) ws ++ " "++u=Str.join (eP 32) (ws++[u])
 |[],h=>absurd rfl h
 |[a],_=>vx (by
  rw[yx,yx,R3];show _=(Str.join (eP 32) [a,u]).cps.toList;rw[join_list,dN]
  rfl)
 |a::b::r,_=>vx (by
  have ih:=congrArg (λx:Str=>x.cps.toList) (vk u (ws:=b::r)<|by simp);rw[yx,yx]at ih;rw[yx,yx,join_list];show _=(Str.join (eP 32) (a::b::(r++[u]))).cps.toList;rw[join_list,dN,dN,oJ,←dN (Str.join (eP 32) (b::r)).cps.toList,ih]
  rfl)
theorem j8 (w a:Str)(r:List Str):w ++ " "++Str.join (eP 32) (a::r)=Str.join (eP 32) (w::a::r):=vx (by
 rw[yx,yx,R3,join_list,dN]
 rfl)
structure AD (S':List Nat)(mv:Nat):Prop where
 nd:S'.Nodup
 len:S'.length=mv
 mem:∀x,x∈S'↔x<mv
structure Dw (S':List Nat)(mv:Nat)(a:gR):Prop where
 r:õ mv a
 up:a.b=0->S'.idxOf a.s<S'.idxOf a.g
structure EC (mo:List Str)(S':List Nat)(row:Str)(bs:List gR):Prop where
 e:∃w0 wr,row=Str.join (eP 32) (w0::wr)/\w0∈(["ride","wait","back","line"]:List Str)/\wX mo (w0::wr) bs
 d:∀a∈bs,Dw S' mo.length a
 l:bs.length<=3
theorem Ny (hn:mN mo)(h:Dw S' mo.length a):EC mo S' (Str.join (eP 32)<|rM mo a) [a]:=by have ro:=Ŝ hn (a:=a) ⟨h.r.s,h.r.g,h.r.t0,h.r.t1,h.r.b,h.r.r⟩;exact⟨⟨t9 a.c,_,rfl,by cases a.c<;>decide +kernel,ro⟩,λx hx=>by rw[cw]at hx;rw[hx];exact h,by simp⟩
theorem Š (od:AD S' mo.length){s g:Nat}(hs:s<mo.length)(hg:g<mo.length)(h:s≠g):S'.idxOf s≠S'.idxOf g:=λe=>h (by have h1:=uA<|(od.mem s).mpr hs;have h2:=nk h1;have h3:=nk<|uA<|(od.mem g).mpr hg;rw[←h2,←h3];congr 1)
theorem SW (hn:mN mo)(od:AD S' mo.length){s g t b way:Nat}(hs:s<mo.length)(hg:g<mo.length)(ht:t<=1000000000)(hb:b<=4)(ho:S'.idxOf s<=S'.idxOf g)(y0 y2 y3 y4 zK Dy Dz Fm DA:Option D) :
  ∃row bs,hJ [y0,Z<|cN mo,y2,y3,y4,Z<|.int s,Z<|.int g,Z<|.int t,Z<|.int b,Z<|.int way,zK,Dy,Dz,C,Fm,DA]=Z (.rt<|.tup [.str row,.lst<|bs.map eI])/\EC mo S' row bs:=by
 have x1:=J9 (mo:=mo) hs;have x2:=J9 (mo:=mo) hg;have l1:=v4<|hn.ok _<|xu hs;have l2:=v4<|hn.ok _<|xu hg;have lt:=xy (n:=t) (by lia);have z1:nX [.int t]=Z (.str<|ed t):=F9 (by lia) (by lia);have ls:(" ":Str).length=1:=by decide +kernel
 have a1:d9 (.str<|dB mo s) (.str " ")=Z (.str<|dB mo s ++ " "):=ym (by lia);have a2:d9 (.str<|dB mo s ++ " ") (.str<|dB mo g)=Z (.str<|dB mo s ++ " "++dB mo g):=ym (by rw[yh];lia);have a3:d9 (.str<|dB mo s ++ " "++dB mo g) (.str " ")=Z (.str<|dB mo s ++ " "++dB mo g ++ " "):=ym (by rw[yh,yh];lia);have a4:d9 (.str<|dB mo s ++ " "++dB mo g ++ " ") (.str<|ed t)=Z (.str<|Str.join (eP 32) [dB mo s,dB mo g,ed t]):=by rw[ym<|by rw[yh,yh,yh];lia];show Z (D.str<|Str.join (eP 32) [dB mo s] ++ " "++dB mo g ++ " "++ed t)=_;rw[vk _<|by simp,vk _<|by simp];rfl
 have jl:=P7 (ws:=[dB mo s,dB mo g,ed t]) (b:=12) (λw hw=>by simp only[cu,dZ,or_false]at hw;rcases hw with rfl|rfl|rfl<;>lia) 32;have hR:∀k (b:Nat),b<=4->(k=Kd.ride->b=0)->(k=Kd.back->1<=b)->õ mo.length ⟨k,s,g,(t:Int),b⟩:=λk b h1 h2 h3=>⟨hs,hg,by show(0:Int)<=t;lia,by show(t:Int)<=_;lia,h1,h2,h3⟩;have back:∃row bs,pJ [y0,Z<|cN mo,y2,y3,y4,Z<|.int s,Z<|.int g,Z<|.int t,Z<|.int ((max 1 b:Nat):Int),Z<|.int way,zK,Dy,Dz,Z<|.str<|Str.join (eP 32) [dB mo s,dB mo g,ed t],Fm,DA]=Z (.rt<|.tup [.str row,.lst<|bs.map eI])/\EC mo S' row bs:=by
  have dw:Dw S' mo.length ⟨.back,g,s,(t:Int),max 1 b⟩:=⟨⟨hg,hs,by show(0:Int)<=t;lia,by show(t:Int)<=_;lia,by show max 1 b<=4;lia,nofun,λ_=>by show 1<=max 1 b;lia⟩,λh=>by have:max 1 b=0:=h;lia⟩;refine⟨_,_,?_,Ny hn dw⟩;have z2:nX [.int ((max 1 b:Nat):Int)]=Z (.str<|ed ((max 1 b:Nat):Int)):=F9 (by lia) (by lia);have lb:=xy (n:=max 1 b) (by lia);have j5:qI (.str " ") (.lst [.str "back",.str<|dB mo g,.str<|dB mo s,.str<|ed t,.str<|ed ((max 1 b:Nat):Int)])=Z (.str<|Str.join (eP 32)<|rM mo ⟨.back,g,s,(t:Int),max 1 b⟩):=by
   rw[IF];refine Nq (ys:=["back",dB mo g,dB mo s,ed t,ed ((max 1 b:Nat):Int)]) (b:=12) (λw hw=>?_) (by simp[Jt]);have:("back":Str).length=4:=by decide +kernel
   simp only[cu,dZ,or_false]at hw;rcases hw with rfl|rfl|rfl|rfl|rfl<;>lia
  show _=Z (ð.rt<|.tup [.str<|Str.join (eP 32)<|rM mo ⟨.back,g,s,(t:Int),max 1 b⟩,.lst [.tup [.int g,.int s,.int t,.int ((max 1 b:Nat):Int)]]]);generalize Str.join (eP 32) (rM mo ⟨.back,g,s,(t:Int),max 1 b⟩)=J',Str.join (eP 32) [dB mo s,dB mo g,ed t]=J0 at *;generalize dB mo s=w1,dB mo g=w2,ed t=w3,ed ((max 1 b:Nat):Int)=w4 at *;generalize ((max 1 b:Nat):Int)=bb,cN mo=N at *;clear hR jl a1 a2 a3 a4 ls l1 l2 lt lb dw hn od hs hg ht hb ho;unfold pJ;walk_at "mid"
 have OB:Af [.int 1,.int b]=Z (.int ((max 1 b:Nat):Int)):=by show Z (D.int<|if(b:Int) > 1 then(b:Int)else 1)=_;congr 2;lia
 by_cases G8:s=g
 ·obtain⟨row,bs,e,r⟩:=back;refine⟨row,bs,?_,r⟩;rw[←e];have q:gb Â (.int s) (.int g)=Z (.bl Ã):=(uc _ _).trans (by rw[if_pos rfl,decide_eq_true<|by lia];rfl);generalize Str.join (eP 32) [dB mo s,dB mo g,ed t]=J0,dB mo s ++ " "++dB mo g ++ " "=v3 at *;generalize dB mo s ++ " "++dB mo g=v2 at *;generalize dB mo s ++ " "=v1 at *;generalize dB mo s=w1,dB mo g=w2,ed t=w3,((max 1 b:Nat):Int)=bb,cN mo=N at *;clear hR jl ls l1 l2 lt hn od hs hg ht hb ho e r G8;unfold hJ;by_cases h1:(way:Int)=1<;>by_cases h4:(way:Int)<4<;>walk_at "mid"
 ·have q:gb Â (.int s) (.int g)=Z (.bl Â):=(uc _ _).trans (by rw[if_pos rfl,decide_eq_false<|by lia];rfl);have Hn:S'.idxOf s<S'.idxOf g:=by have:=Š od hs hg G8;lia
  have r5:("ride ":Str) = "ride" ++ " "/\("wait ":Str) = "wait" ++ " "/\("ride ":Str).length=5/\("wait ":Str).length=5:=by decide +kernel
  have jl:(Str.join (eP 32) [dB mo s,dB mo g,ed t]).length<=39:=by simpa using jl
  by_cases h1:way=1
  ·have ad:d9 (.str "ride ") (.str<|Str.join (eP 32) [dB mo s,dB mo g,ed t])=Z (.str<|Str.join (eP 32)<|rM mo ⟨.ride,s,g,(t:Int),0⟩):=by rw[ym<|by lia,r5.1,j8];rfl
   refine⟨_,_,?_,Ny hn ⟨hR .ride 0 (by decide) (λ_=>rfl) nofun,λ_=>Hn⟩⟩;show _=Z (ð.rt<|.tup [.str<|Str.join (eP 32)<|rM mo ⟨.ride,s,g,(t:Int),0⟩,.lst [.tup [.int s,.int g,.int t,.int 0]]]);have h1:(way:Int)=1:=by lia
   generalize Str.join (eP 32) (rM mo ⟨.ride,s,g,(t:Int),0⟩)=J',Str.join (eP 32) [dB mo s,dB mo g,ed t]=J0,dB mo s ++ " "++dB mo g ++ " "=v3 at *;generalize dB mo s ++ " "++dB mo g=v2 at *;generalize dB mo s ++ " "=v1 at *;generalize dB mo s=w1,dB mo g=w2,ed t=w3,cN mo=N at *;clear hR jl ls l1 l2 lt hn od hs hg ht hb ho G8 Hn r5 back OB;unfold hJ;walk_at "mid"
  ·by_cases h4:way<4
   ·have z2:nX [.int b]=Z (.str<|ed b):=F9 (by lia) (by lia);have lb:=xy (n:=b) (by lia);have ad:d9 (.str "wait ") (.str<|Str.join (eP 32) [dB mo s,dB mo g,ed t])=Z (.str<|Str.join (eP 32) ["wait",dB mo s,dB mo g,ed t]):=by rw[ym<|by lia,r5.2.1,j8]
    have Ov:=congrArg Str.length<|j8 "wait" (dB mo s) [dB mo g,ed t];rw[←r5.2.1,yh]at Ov;have ad2:d9 (.str<|Str.join (eP 32) ["wait",dB mo s,dB mo g,ed t]) (.str " ")=Z (.str<|Str.join (eP 32) ["wait",dB mo s,dB mo g,ed t] ++ " "):=ym (by lia);have ad3:d9 (.str<|Str.join (eP 32) ["wait",dB mo s,dB mo g,ed t] ++ " ") (.str<|ed b)=Z (.str<|Str.join (eP 32)<|rM mo ⟨.wait,s,g,(t:Int),b⟩):=by rw[ym<|by rw[yh];lia,vk _<|by simp];rfl
    refine⟨_,_,?_,Ny hn ⟨hR .wait b hb nofun nofun,λ_=>Hn⟩⟩;show _=Z (ð.rt<|.tup [.str<|Str.join (eP 32)<|rM mo ⟨.wait,s,g,(t:Int),b⟩,.lst [.tup [.int s,.int g,.int t,.int b]]]);have h1:¬(way:Int)=1:=by lia
    have h4:(way:Int)<4:=by lia
    generalize Str.join (eP 32) (rM mo ⟨.wait,s,g,(t:Int),b⟩)=J',Str.join (eP 32) ["wait",dB mo s,dB mo g,ed t] ++ " "=J2 at *;generalize Str.join (eP 32) ["wait",dB mo s,dB mo g,ed t]=J1,Str.join (eP 32) [dB mo s,dB mo g,ed t]=J0,dB mo s ++ " "++dB mo g ++ " "=v3 at *;generalize dB mo s ++ " "++dB mo g=v2 at *;generalize dB mo s ++ " "=v1 at *;generalize dB mo s=w1,dB mo g=w2,ed t=w3,ed b=w4,cN mo=N at *;clear hR jl ls l1 l2 lt hn od hs hg ht hb ho G8 Hn r5 back OB Ov lb;unfold hJ;walk_at "mid"
   ·obtain⟨row,bs,e,r⟩:=back;refine⟨row,bs,?_,r⟩;rw[←e];have h1:¬(way:Int)=1:=by lia
    have h4:¬(way:Int)<4:=by lia
    generalize Str.join (eP 32) [dB mo s,dB mo g,ed t]=J0,dB mo s ++ " "++dB mo g ++ " "=v3 at *;generalize dB mo s ++ " "++dB mo g=v2 at *;generalize dB mo s ++ " "=v1 at *;generalize dB mo s=w1,dB mo g=w2,ed t=w3,((max 1 b:Nat):Int)=bb,cN mo=N at *;clear hR jl ls l1 l2 lt hn od hs hg ht hb ho G8 Hn r5 e r;unfold hJ;walk_at "mid"
theorem Qo {g:Nat}(h:g∈S'):rH (.lst<|cA S') (.int g)=dr (S'.idxOf g:Int):=by
 have hs:(cA S').all D.sc=Â:=by unfold cA;rw[mJ];exact ej.mpr λx _=>rfl
 have hf:∀S':List Nat,g∈S'->(cA S').findIdx? (λy=>Cy y<|.int g)=Z (S'.idxOf g):=by
  intro S';induction S' with
  |nil=>intro h;cases h
  |cons x S' ih=>
   intro h;show((D.int x)::cA S').findIdx? _=_;rw[rn];have e:Cy (D.int x) (.int g)=decide (x=g):=by
    show((x:Int)==(g:Int))=_;by_cases z:x=g
    ·subst z;simp
    ·have z':¬(x:Int)=g:=by lia
     simp[z,z']
   rw[e];by_cases z:x=g
   ·subst z;simp
   ·rw[decide_eq_false z,if_neg<|by decide,tO,show(x==g)=Ã from beq_eq_false_iff_ne.mpr z];rcases cu.mp h with h|h
    ·exact absurd h.symm z
    ·rw[ih h];rfl
 unfold rH;dsimp only;rw[if_pos ⟨rfl,hs⟩,hf S' h];rfl
theorem R4 (hn:mN mo){t:Nat}(ht:t<=1000000000)(y0 y2 y3 y4 y5 y6 y8 y9 zK Dy Dz DA:Option D):∀(st:List Nat) (W:List Str) (Fm:Option D),(∀x∈st,x<mo.length)->W≠[]->(∀w∈W,w.length<=12)->W.length+2*st.length<=100 ->
  ∃Fo,jV (gV 14) kB (cA st) [y0,Z<|cN mo,y2,y3,y4,y5,y6,dr t,y8,y9,zK,Dy,Dz,Z<|.str<|Str.join (eP 32) W,Fm,DA]=Z (.nx [y0,Z<|cN mo,y2,y3,y4,y5,y6,dr t,y8,y9,zK,Dy,Dz,Z<|.str<|Str.join (eP 32)<|W++Ae mo (st.map λx=>(x,t)),Fo,DA])
 |[],W,Fm,_,_,_,_=>⟨Fm,by show Z _=Z _;rw[show W++Ae mo ([].map λx=>(x,t))=W from dH W]⟩
 |x::st,W,Fm,hx,hW,hl,hc=>by
  have hs:=hx x b7;have l1:=v4<|hn.ok _<|xu hs;have lt:=xy (n:=t) (by lia);rw[cz]at hc;obtain⟨Fo,ih⟩:=R4 hn ht y0 y2 y3 y4 y5 y6 y8 y9 zK Dy Dz DA st (W++[dB mo x]++[ed t]) (dr x) (λy hy=>hx y<|cj _ hy) (by simp) (λw hw=>by
   simp only[cH,cw]at hw;rcases hw with(hw|rfl)|rfl
   ·exact hl w hw
   ·lia
   ·lia) (by simp only[cM,eR];lia)
  refine⟨Fo,?_⟩;have e:W++Ae mo ((x::st).map λx=>(x,t))=W++[dB mo x]++[ed t]++Ae mo (st.map λx=>(x,t)):=by rw[dN,dN];rfl
  rw[e,←ih];have x1:=J9 (mo:=mo) hs;have z1:nX [.int t]=Z (.str<|ed t):=F9 (by lia) (by lia);have ls:(" ":Str).length=1:=by decide +kernel
  have jl:=P7 hl 32;have jl:(Str.join (eP 32) W).length<=1300:=by have:W.length*12<=100*12:=Nat.mul_le_mul_right _ (by lia);lia
  have a1:d9 (.str<|Str.join (eP 32) W) (.str " ")=Z (.str<|Str.join (eP 32) W ++ " "):=ym (by lia);have a2:d9 (.str<|Str.join (eP 32) W ++ " ") (.str<|dB mo x)=Z (.str<|Str.join (eP 32) W ++ " "++dB mo x):=ym (by rw[yh];lia);have a3:d9 (.str<|Str.join (eP 32) W ++ " "++dB mo x) (.str " ")=Z (.str<|Str.join (eP 32) W ++ " "++dB mo x ++ " "):=ym (by rw[yh,yh];lia);have a4:d9 (.str<|Str.join (eP 32) W ++ " "++dB mo x ++ " ") (.str<|ed t)=Z (.str<|Str.join (eP 32)<|W++[dB mo x]++[ed t]):=by rw[ym<|by rw[yh,yh,yh];lia,vk _ hW,vk _<|by simp]
  have Eg:kB [y0,Z<|cN mo,y2,y3,y4,y5,y6,dr t,y8,y9,zK,Dy,Dz,Z<|.str<|Str.join (eP 32) W,dr x,DA]=Z (.nx [y0,Z<|cN mo,y2,y3,y4,y5,y6,dr t,y8,y9,zK,Dy,Dz,Z<|.str<|Str.join (eP 32)<|W++[dB mo x]++[ed t],dr x,DA]):=by generalize Str.join (eP 32) (W++[dB mo x]++[ed t])=J',Str.join (eP 32) W ++ " "++dB mo x ++ " "=v3 at *;generalize Str.join (eP 32) W ++ " "++dB mo x=v2 at *;generalize Str.join (eP 32) W ++ " "=v1 at *;generalize Str.join (eP 32) W=v0,dB mo x=w1,ed t=w3,cN mo=N at *;clear hn ht hx hW hl hc hs l1 lt ih e jl ls;unfold kB;walk_at "mid"
  show(kB [y0,Z<|cN mo,y2,y3,y4,y5,y6,dr t,y8,y9,zK,Dy,Dz,Z<|.str<|Str.join (eP 32) W,dr x,DA]).bind _=_;rw[Eg];rfl
theorem R5 {st:List Nat}{t:Nat}(h1:1<=st.length)(h2:st.length<=100)(r:L3.Env)(hs:r[11]?=Z (dq<|cA st))(ht:r[7]?=Z (dr t)):kE r=dq ((cE<|st.length-1).map λk=>D.tup [.int (st.getD k 0:Int),.int (st.getD (k+1) 0:Int),.int t,.int 0]):=by
 have hc:jA r [11,7]=[dq<|cA st,dr t]:=by unfold jA;simp[hs,ht]
 have Kq:L 11 r=dq (cA st):=by show r[11]?.join=_;rw[hs];rfl
 have l1:fC [.lst<|cA st]=dr (st.length:Int):=(yk _).trans (by unfold cA;rw[ck]);have g1:pA [.int<|st.length-1]=Z ((cE<|st.length-1).map λ(k:Nat)=>D.int<|0+k):=by rw[show(st.length:Int)-1=((st.length-1:Nat):Int)by lia,vq (by lia)<|by lia,←Mz];simp
 have ix:∀k,k<st.length->dM (.lst<|cA st) (.int k)=dr (st.getD k 0:Int):=λk hk=>ya (by
  unfold cA;rw[cP,fR,cC hk]
  rfl)
 refine yb (λ(k:Nat)=>D.int<|0+k) _ (cE<|st.length-1) ?_ (by rw[fk];lia) λk hk=>⟨[dr<|0+k,dq<|cA st,dr t],by rw[hc];rfl,?_⟩
 ·generalize ((cE<|st.length-1).map λ(k:Nat)=>D.int<|0+k)=Z' at *;generalize cA st=nl at *;clear ix hc hs ht h1 h2;walk_at "mid"
 ·have hk:=dm.mp hk;have i1:=ix k (by lia);have i2:=ix (k+1) (by lia);rw[show((k+1:Nat):Int)=(k:Int)+1 by lia]at i2;rw[xM];generalize cA st=nl at *;clear ix hc hs ht h1 h2 hk g1 l1 Kq;walk_at "mid"
theorem ş (hn:mN mo)(od:AD S' mo.length){t ez a b:Nat}{cs:List Nat}(ht:t<=1000000000)(FK:1<=ez)(IY:ez<=4)(wZ:cs.length<=1)(hm:∀x∈a::b::cs,x<mo.length)(up:S'.idxOf a<S'.idxOf b)(Me:∀c∈cs,S'.idxOf b<S'.idxOf c)(y0 y2 y3 y4 y5 y6 y8 y9 zK:Option D) :
  ∃row bs,i9 [y0,Z<|cN mo,y2,y3,y4,y5,y6,dr t,y8,y9,zK,dq<|cA (a::b::cs),dr ez,C,C,C]=Z (.rt<|.tup [.str row,.lst<|bs.map eI])/\EC mo S' row bs:=by
 have hl:=ś (mo:=mo) (ez:=ez) (p:=(a,t)) (sts:=(b::cs).map λx=>(x,t)) hn IY (by simp;lia) (λq hq=>by obtain⟨x,hx,rfl⟩:=cX.mp<|show q∈(a::b::cs).map λx=>(x,t)from hq;exact⟨hm x hx,ht⟩);obtain⟨Fo,lp⟩:=R4 hn ht y0 y2 y3 y4 y5 y6 y8 y9 zK (dq<|cA (a::b::cs)) (dr ez) C (a::b::cs) ["line",ed ez] C hm (by simp) (λw hw=>by
  have:("line":Str).length=4:=by decide +kernel
  have:=xy (n:=ez) (by lia);simp only[cu,dZ,or_false]at hw;rcases hw with rfl|rfl<;>lia) (by simp;lia)
 have z1:nX [.int ez]=Z (.str<|ed ez):=F9 (by lia) (by lia);have lc:=xy (n:=ez) (by lia);have r5:("line ":Str) = "line" ++ " "/\("line ":Str).length=5:=by decide +kernel
 have ad:d9 (.str "line ") (.str<|ed ez)=Z (.str<|Str.join (eP 32) ["line",ed ez]):=by rw[ym<|by lia,r5.1];exact congrArg (λx=>Z<|D.str x)<|j8 "line" (ed ez) []
 refine⟨Str.join (eP 32)<|qB mo ez<|(a::b::cs).map λx=>(x,t),CG ez (a,t)<|(b::cs).map λx=>(x,t),?_,⟨"line",_,rfl,by decide +kernel,hl⟩,?_,?_⟩
 ·have lp:jV (gV 14) kB (cA (a::b::cs)) _=Z (.nx [y0,Z<|cN mo,y2,y3,y4,y5,y6,dr t,y8,y9,zK,dq<|cA (a::b::cs),dr ez,Z<|.str<|Str.join (eP 32)<|qB mo ez<|(a::b::cs).map λx=>(x,t),Fo,C]):=lp;generalize Str.join (eP 32) (qB mo ez<|(a::b::cs).map λx=>(x,t))=J',Str.join (eP 32) ["line",ed ez]=J0 at *;generalize ed ez=w3 at *;have i0:∀x y:D,dM (.lst (x::y::(cA cs))) (.int 0)=Z x:=λ_ _=>ya (j:=0) rfl;rcases cs with _|⟨c,_|⟨_,_⟩⟩
  ·have q1:kE [y0,Z<|cN mo,y2,y3,y4,y5,y6,dr t,y8,y9,zK,dq<|cA [a,b],dr ez,Z<|.str J',Fo,C]=Z (.lst [.tup [.int a,.int b,.int t,.int 0]]):=R5 (st:=[a,b]) (by simp) (by simp) _ rfl rfl;have im:dM (.lst<|cA [a,b]) (.int<|-1)=dr (b:Int):=rfl;have i0:dM (.lst<|cA [a,b]) (.int 0)=dr (a:Int):=rfl;have ap:d9 (.lst [.tup [.int a,.int b,.int t,.int 0]]) (.lst [.tup [.int b,.int a,.int t,.int ez]])=dq ((CG ez (a,t)<|[b].map λx=>(x,t)).map eI):=rfl;generalize (CG ez (a,t)<|[b].map λx=>(x,t)).map eI=R,cN mo=N at *;generalize D4:cA [a,b]=nl at *;clear hl hn od ht FK IY wZ hm up Me lc r5 D4;unfold i9;generalize kE=Q at *;walk_at "mid"
  ·have q1:kE [y0,Z<|cN mo,y2,y3,y4,y5,y6,dr t,y8,y9,zK,dq<|cA [a,b,c],dr ez,Z<|.str J',Fo,C]=Z (.lst [.tup [.int a,.int b,.int t,.int 0],.tup [.int b,.int c,.int t,.int 0]]):=R5 (st:=[a,b,c]) (by simp) (by simp) _ rfl rfl;have im:dM (.lst<|cA [a,b,c]) (.int<|-1)=dr (c:Int):=rfl;have i0:dM (.lst<|cA [a,b,c]) (.int 0)=dr (a:Int):=rfl;have ap:d9 (.lst [.tup [.int a,.int b,.int t,.int 0],.tup [.int b,.int c,.int t,.int 0]]) (.lst [.tup [.int c,.int a,.int t,.int ez]])=dq ((CG ez (a,t)<|[b,c].map λx=>(x,t)).map eI):=rfl;generalize (CG ez (a,t)<|[b,c].map λx=>(x,t)).map eI=R,cN mo=N at *;generalize D4:cA [a,b,c]=nl at *;clear hl hn od ht FK IY wZ hm up Me lc r5 D4;unfold i9;generalize kE=Q at *;walk_at "mid"
  ·simp at wZ
 ·have rd:∀x y,x<mo.length->y<mo.length->S'.idxOf x<S'.idxOf y->Dw S' mo.length ⟨.ride,x,y,(t:Int),0⟩:=λx y h1 h2 h3=>⟨⟨h1,h2,by show(0:Int)<=t;lia,by show(t:Int)<=_;lia,fI _,λ_=>rfl,nofun⟩,λ_=>h3⟩;have bk:∀x y,x<mo.length->y<mo.length->Dw S' mo.length ⟨.back,x,y,(t:Int),ez⟩:=λx y h1 h2=>⟨⟨h1,h2,by show(0:Int)<=t;lia,by show(t:Int)<=_;lia,IY,nofun,λ_=>FK⟩,λh=>by have:ez=0:=h;lia⟩;have ha:=hm a (by simp);have hb:=hm b (by simp);rcases cs with _|⟨c,_|⟨_,_⟩⟩
  ·intro x hx;have hx:x∈[(⟨.ride,a,b,(t:Int),0⟩:gR),⟨.back,b,a,(t:Int),ez⟩]:=hx;simp only[cu,dZ,or_false]at hx;rcases hx with rfl|rfl
   ·exact rd _ _ ha hb up
   ·exact bk _ _ hb ha
  ·have hc:=hm c (by simp);intro x hx;have hx:x∈[(⟨.ride,a,b,(t:Int),0⟩:gR),⟨.ride,b,c,(t:Int),0⟩,⟨.back,c,a,(t:Int),ez⟩]:=hx;simp only[cu,dZ,or_false]at hx;rcases hx with rfl|rfl|rfl
   ·exact rd _ _ ha hb up
   ·exact rd _ _ hb hc (Me c<|by simp)
   ·exact bk _ _ hc ha
  ·simp at wZ
 ·rcases cs with _|⟨c,_|⟨_,_⟩⟩
  ·exact oh 2
  ·exact cK 3
  ·simp at wZ
theorem ZZ (od:AD S' mo.length){step e:Nat}(h:step+2<=mo.length)(he:e<=1):∃a b cs,(S'.drop step).take (2+e)=a::b::cs/\cs.length<=1/\(∀x∈a::b::cs,x<mo.length)/\S'.idxOf a<S'.idxOf b/\∀c∈cs,S'.idxOf b<S'.idxOf c:=by
 have hl:=od.len;have hp:∀i,i<mo.length->∃x,S'[i]?=Z x/\x<mo.length:=λi hi=>⟨S'[i]'(by lia),cC<|by lia,(od.mem _).mp<|sO _⟩;have lt:∀{i x y:Nat},S'[i]?=Z x->S'[i+1]?=Z y->S'.idxOf x<S'.idxOf y:=λ{i x y} h1 h2=>SO od.nd h2 (by rw[List.take_add_one,h1];simp);obtain⟨a,ha,la⟩:=hp step (by lia);obtain⟨b,hb,lb⟩:=hp (step+1) (by lia);have S:S'.drop step=a::b::S'.drop (step+2):=by rw[gX<|by lia,gX<|by lia];rw[cC<|by lia]at ha hb;rw[Option.some.inj ha,Option.some.inj hb]
 refine⟨a,b,(S'.drop<|step+2).take e,by rw[S,xT];rfl,by rw[jT];lia,λx hx=>?_,lt ha hb,λc hc=>?_⟩
 ·rcases cu.mp hx with rfl|hx
  ·exact la
  ·rcases cu.mp hx with rfl|hx
   ·exact lb
   ·exact(od.mem x).mp<|p4<|p5 hx
 ·obtain⟨i,hi⟩:=dJ.mp hc;rw[Ar]at hi;split at hi
  ·have:i=0:=by lia
   subst this;rw[rq]at hi;exact lt hb hi
  ·cases hi
theorem Ş (hn:mN mo)(od:AD S' mo.length)(h2:2<=mo.length){r s g t b:Nat}(hs:s<mo.length)(hg:g<mo.length)(ht:t<=1000000000)(hb:b<=4)(y0:Option D) :
  ∃row bs,kC [y0,Z<|cN mo,Z<|.lst<|cA S',Z<|.int mo.length,Z<|.int r,Z<|.int s,Z<|.int g,Z<|.int t,Z<|.int b,C,C,C,C,C,C,C]=Z (.rt<|.tup [.str row,.lst<|bs.map eI])/\EC mo S' row bs:=by
 obtain⟨way,hw⟩:∃way:Nat,way=r/10000%5:=⟨_,rfl⟩;have ew:(r:Int)/10000%5=(way:Int):=by lia
 have is:=Qo<|(od.mem s).mpr hs;have ig:=Qo<|(od.mem g).mpr hg;by_cases h0:way=0
 ·obtain⟨step,n8⟩:∃step:Nat,step=r/50000%(mo.length-1):=⟨_,rfl⟩;have sl:step<mo.length-1:=by rw[n8];exact rQ _ (by lia)
  have e1:iY (.int<|(r:Int)/50000) (.int<|mo.length-1)=Z (.int step):=by rw[vd<|by lia,n8,show(mo.length:Int)-1=((mo.length-1:Nat):Int)by lia,show(r:Int)/50000=((r/50000:Nat):Int)by lia,sY]
  obtain⟨e,he⟩:∃e:Nat,e=r/500000%2:=⟨_,rfl⟩;have Cw:(r:Int)/500000%2=(e:Int):=by lia
  obtain⟨ez,hc⟩:∃ez:Nat,ez=1+r/1000000%4:=⟨_,rfl⟩;have e3:1+(r:Int)/1000000%4=(ez:Int):=by lia
  obtain⟨a,b',cs,q1,q2,q3,q4,q5⟩:=ZZ od (step:=step) (e:=e) (by lia) (by lia);have sd:gG (.lst<|cA S') (Z (step:Int)) (Z<|(step:Int)+2+e)=Z (.lst<|cA (a::b'::cs)):=by show Z (D.lst<|â _ (Z (step:Int))<|Z (((step+2+e:Nat)):Int))=_;rw[JC,←q1];unfold cA;rw[DJ,lU,show step+2+e-step=2+e by lia]
  obtain⟨row,bs,f1,f2⟩:=ş hn od (t:=t) (ez:=ez) ht (by lia) (by lia) q2 q3 q4 q5 y0 (Z<|.lst<|cA S') (Z<|.int mo.length) (Z<|.int r) (Z<|.int s) (Z<|.int g) (Z<|.int b) (Z<|.int 0)<|Z<|.int step;refine⟨row,bs,?_,f2⟩;replace ew:(r:Int)/10000%5=0:=by lia
  generalize cA (a::b'::cs)=nst,cA S'=no,cN mo=N,D.lst (bs.map eI)=BS at *;unfold kC;generalize i9=C3,hJ=C2 at *;clear q1 q2 q3 q4 q5 f2 hn od hs hg ht hb n8 he hc hw is ig sl h2 h0;walk_at "mid"
 ·have h0:¬(way:Int)=0:=by lia
  by_cases ho:S'.idxOf s<=S'.idxOf g
  ·obtain⟨row,bs,f1,f2⟩:=SW hn od (way:=way) hs hg ht hb ho y0 (Z<|.lst<|cA S') (Z<|.int mo.length) (Z<|.int r) C C C C C;refine⟨row,bs,?_,f2⟩;have gt:¬(S'.idxOf s:Int) > (S'.idxOf g:Int):=by lia
   generalize (S'.idxOf s:Int)=js,(S'.idxOf g:Int)=jg,cA S'=no,cN mo=N,D.lst (bs.map eI)=BS at *;unfold kC;generalize i9=C3,hJ=C2 at *;clear f2 hn od hs hg ht hb hw h2 ho;walk_at "mid"
  ·obtain⟨row,bs,f1,f2⟩:=SW hn od (way:=way) hg hs ht hb (by lia) y0 (Z<|.lst<|cA S') (Z<|.int mo.length) (Z<|.int r) C C C C C;refine⟨row,bs,?_,f2⟩;have gt:(S'.idxOf s:Int) > (S'.idxOf g:Int):=by lia
   generalize (S'.idxOf s:Int)=js,(S'.idxOf g:Int)=jg,cA S'=no,cN mo=N,D.lst (bs.map eI)=BS at *;unfold kC;generalize i9=C3,hJ=C2 at *;clear f2 hn od hs hg ht hb hw h2 ho;walk_at "mid"
theorem Sk (hn:mN mo)(od:AD S' mo.length)(h2:2<=mo.length)(z:Int):∃row bs,kD [.int z,cN mo,.lst<|cA S']=Z (.tup [.str row,.lst<|bs.map eI])/\EC mo S' row bs:=by
 have rG:=hn.le;obtain⟨r,m0,_⟩:=ό z (k:=1) (by decide) (by decide);have mm:∀x:Nat,iY (.int x) (.int mo.length)=Z (.int ((x%mo.length:Nat):Int)):=λx=>(vd<|by lia).trans (by rw[sY]);have G:=mm r;have mg:=mm<|r/8;rw[show((r/8:Nat):Int)=(r:Int)/8 by lia]at mg;have hs:r%mo.length<mo.length:=rQ _ (by lia);have hg:r/8%mo.length<mo.length:=rQ _ (by lia);have p:BZ (.int 10) (.int 9)=Z (.int 1000000000):=(Č (by decide) (by decide)<|by decide).trans rfl;obtain⟨t,ht,et⟩:∃t:Nat,t<=1000000000/\(if z%3=2 then z/3%1000000001 else(r:Int)/1000%10)=(t:Int):=by
  split
  ·exact⟨(z/3%1000000001).toNat,by lia,by lia⟩
  ·exact⟨((r:Int)/1000%10).toNat,by lia,by lia⟩
 obtain⟨b,hb⟩:∃b:Nat,b=r/64%5:=⟨_,rfl⟩;have eb:(r:Int)/64%5=(b:Int):=by lia
 obtain⟨row,bs,f1,f2⟩:=Ş hn od h2 (r:=r) hs hg ht (b:=b) (by lia)<|Z<|.int z;refine⟨row,bs,?_,f2⟩;have l1:fC [cN mo]=Z (.int mo.length):=(yk _).trans (by rw[ck]);generalize cA S'=no,cN mo=N,((r%mo.length:Nat):Int)=si,((r/8%mo.length:Nat):Int)=gi,D.lst (bs.map eI)=BS at *;unfold kD;generalize kC=C4 at *;clear f2 hn od hs hg ht hb mm h2 rG;by_cases h3:z%3=2
 ·rw[if_pos h3]at et;walk_at "mid"
 ·rw[if_neg h3]at et;walk_at "mid"
variable {ρ':L3.Env}
theorem uk {f g:SF}{k:ð->Option D}{r:Option D}(h1:f Y=Z (.nx ρ'))(h2:(g ρ').bind k=r):(Æ f g Y).bind k=r:=by unfold Æ;rw[h1];exact h2
theorem Gh {i:Nat}{f:EF}{d:D}(h:f Y=Z d):É i f Y=Z (.nx<|Y.set i<|Z d):=by unfold É;rw[h];rfl
theorem Nz {p:BM}{u w:SF}(h:p Y=Z (Ã,ρ'))(hw:w=Ë):yZ p u w Y=Z (.nx ρ'):=by unfold yZ;rw[h,hw];rfl
theorem Sl {f:EM}(h:f Y=Z (.str "ok",ρ')):AJ (gb Â) f (eC<|.str "ok") Y=Z (Ã,ρ'):=by have e:gb Â (.str "ok") (.str "ok")=Z (.bl Ã):=(yn (zy _)<|zy _).trans (by simp);unfold AJ;rw[h];show((gb Â (.str "ok")<|.str "ok").bind _)=_;rw[e];rfl
theorem M4 (z:Int){m:Nat}(h:0<m):∃l:Nat,z%(m:Int)=(l:Int)/\l<m:=by have a1:=CK z (by lia:(m:Int)≠0);have a2:=AQ z (by lia:(0:Int)<(m:Int));exact⟨(z%(m:Int)).toNat,by lia,by lia⟩
theorem Ŀ {g:D->L3.Env->Option L3.Env}{b:SF}(h:fi Y=Z O):Û fi g b Y=jV g b O Y:=by unfold Û;rw[h];rfl
noncomputable def wA:List Str:=["a","x","wait","ride","goings","line","zz","b","least"]
def sV (c m mv:Nat):List Str:=(cE mv).map λ(k:Nat)=>wA.getD ((c+k*m)%9) ""++ed k
theorem R6 (c m mv:Nat):(sV c m mv).length=mv:=by unfold sV;simp
theorem ŝ {c m:Nat}(hc:c<9)(hm:m<6)(h:mv<=7):mN (sV c m mv):=by
 have Bc:∀c,c<9->∀m,m<6->((sV c m 7).all CH&&decide (sV c m 7).Nodup)=Â:=by decide +kernel
 obtain⟨h1,h2⟩:=yE.mp<|Bc c hc m hm;have sub:(sV c m mv).Sublist (sV c m 7):=(List.range_sublist.mpr h).map _;exact⟨sub.nodup<|of_decide_eq_true h2,λx hx=>ej.mp h1 x<|sub.subset hx,by rw[R6];lia⟩
theorem ļ {j:Nat}(h:j<9):dM (cN wA) (.int j)=Z (.str<|wA.getD j "")/\t8 (.str<|wA.getD j "") C (Z 6)=Z (.str<|wA.getD j "")/\(wA.getD j "").length<=6:=by
 have:j=0\/j=1\/j=2\/j=3\/j=4\/j=5\/j=6\/j=7\/j=8:=by lia
 rcases this with rfl|rfl|rfl|rfl|rfl|rfl|rfl|rfl|rfl<;>exact⟨rfl,by kernel_rfl,by decide +kernel⟩
theorem Z0 {c1:Nat}(h:c1<10007)(hm:mv<=7):∃c m,c<9/\m<6/\nG [.int c1,.int mv]=Z (cN<|sV c m mv):=by
 refine⟨c1%9,1+c1/9%5,by lia,by lia,?_⟩;have q:nU [dr c1,dr mv,Z<|cN wA]=Z (cN<|sV (c1%9) (1+c1/9%5) mv):=by
  unfold cN sV;rw[c7];refine yb (λ(k:Nat)=>D.int<|0+k) (λ(k:Nat)=>D.str<|wA.getD ((c1%9+k*(1+c1/9%5))%9) ""++ed k) (cE mv) ?_ (by simp;lia) λk hk=>⟨[dr<|0+k,Z<|cN wA,dr c1],rfl,?_⟩
  ·have g1:pA [.int mv]=Z (l7 0 mv):=by rw[vq (by lia)<|by lia];simp
   rw[Mz]at g1;generalize ((cE mv).map λ(k:Nat)=>D.int<|0+k)=Z' at *;clear hm h;walk_at "mid"
  ·have hk:=dm.mp hk;rw[xM];obtain⟨x1,x2,x3⟩:=ļ (j:=(c1%9+k*(1+c1/9%5))%9) (rQ _<|by decide);have mu:e7 (.int k) (.int<|1+(c1:Int)/9%5)=dr ((k:Int)*(1+(c1:Int)/9%5)):=u0 (by lia) (by lia);have e:((c1:Int)+k*(1+(c1:Int)/9%5))%9=(((c1%9+k*(1+c1/9%5))%9:Nat):Int):=by
    have:1+(c1:Int)/9%5=((1+c1/9%5:Nat):Int):=by lia
    rw[this,←Int.natCast_mul];generalize k*(1+c1/9%5)=w;lia
   have z1:nX [.int k]=Z (.str<|ed k):=F9 (by lia) (by lia);have il:=xy (n:=k) (by lia);have ad:d9 (.str<|wA.getD ((c1%9+k*(1+c1/9%5))%9) "") (.str<|ed k)=Z (.str<|wA.getD ((c1%9+k*(1+c1/9%5))%9) ""++ed k):=ym (by lia);rw[←e]at x1;generalize wA.getD ((c1%9+k*(1+c1/9%5))%9) ""++ed k=W at *;generalize wA.getD ((c1%9+k*(1+c1/9%5))%9) ""=W1,ed k=W2,(k:Int)*(1+(c1:Int)/9%5)=mk,cN wA=NP at *;clear x3 il hk hm h e;walk_at "mid"
 have s0:(Ä (eC<|.str "a")<|Ä (eC<|.str "x")<|Ä (eC<|.str "wait")<|Ä (eC<|.str "ride")<|Ä (eC<|.str "goings")<|Ä (eC<|.str "line")<|Ä (eC<|.str "zz")<|Ä (eC<|.str "b")<|Ä (eC<|.str "least") Å) [dr c1,dr mv,C]=Z (wA.map .str):=rfl;have e:D.lst (wA.map .str)=cN wA:=rfl;unfold nG;generalize (Ä (eC<|.str "a") _)=AC,cN (sV (c1%9) (1+c1/9%5) mv)=R,cN wA=NP,wA.map D.str=NL,nU=Q at *;clear h hm;walk_at "mid"
noncomputable def AK (t m:Nat):List Nat:=(cE m).map λk=>(k+t)%m
theorem ľ {t m:Nat}(hm:m<8)(ht:t<m):AD (AK t m) m:=by
 have Bc:∀m,m<8->∀t,t<m->(decide (AK t m).Nodup&&(cE m).all λx=>decide<|x∈AK t m)=Â:=by decide +kernel
 obtain⟨h1,h2⟩:=yE.mp<|Bc m hm t ht;refine⟨of_decide_eq_true h1,by unfold AK;simp,λx=>⟨λhx=>?_,λhx=>of_decide_eq_true<|ej.mp h2 x<|dm.mpr hx⟩⟩;obtain⟨k,_,rfl⟩:=cX.mp hx;exact rQ _ (by lia)
theorem AD.rev {m:Nat}(h:AD S' m):AD S'.reverse m:=⟨(List.reverse_perm S').nodup_iff.mpr h.nd,by rw[fT];exact h.len,λx=>by rw[sP];exact h.mem x⟩
theorem Ľ {t m:Nat}(hm:m<8)(ht:t<m)(y0 y2:Option D)(r:L3.Env):Aj (y0::(dr m)::y2::(dr t)::r)=dq (cA<|AK t m):=by
 unfold cA AK;rw[c7];refine yb (λ(k:Nat)=>D.int<|0+k) _ (cE m) ?_ (by simp;lia) λk hk=>⟨[dr<|0+k,dr t,dr m],rfl,?_⟩
 ·have g1:pA [.int m]=Z (l7 0 m):=by rw[vq (by lia)<|by lia];simp
  rw[Mz]at g1;generalize ((cE m).map λ(k:Nat)=>D.int<|0+k)=Z' at *;clear hm ht;walk_at "mid"
 ·have md:iY (.int<|k+t) (.int m)=dr (((k+t)%m:Nat):Int):=(vd<|by lia).trans (by rw[sY,Int.natCast_add]);rw[xM];show _=Z (D.int (((k+t)%m:Nat):Int));generalize (((k+t)%m:Nat):Int)=v at *;clear hm ht hk;walk_at "mid"
section
variable {bs:List gR}{n:Int}
theorem NA (hn:mN mo)(h2:2<=mo.length)(hl:J.length<=120)(h:∀a∈J,Dw S' mo.length a):rE mo.length J:=⟨by lia,hn.le,hl,λa ha=>(h a ha).r,λx=>S'.idxOf x,λa ha hb=>(h a ha).up hb⟩
theorem R7 (hn:mN mo)(h2:2<=mo.length)(hl:J.length<=100)(h:∀a∈J,Dw S' mo.length a){row:Str}(r:EC mo S' row bs):dY [dk (de (mo.map .str) J) tbl pt n,.str row]=Z (.tup [.str "ok",dk (de (mo.map .str)<|J++bs) .non pt<|n+1]):=by
 obtain⟨w0,wr,rfl,h0,ro⟩:=r.e;have pU:mo≠[]:=λz=>by rw[z]at h2;simp at h2
 exact YI hn pU h0 ro (NA hn h2 (by rw[cM];have:=r.l;lia) λa ha=>(cH.mp ha).elim (h a)<|r.d a)
theorem Tf {f g:SF}(h:f Y=Z (.nx ρ')):Æ f g Y=g ρ':=by unfold Æ;rw[h];rfl
theorem Gz {f:EF}{x y:D}{r0 r1 r2 r3 r4 r5 r6 r7 y8 y9:Option D}(h:f [r0,r1,r2,r3,r4,r5,r6,r7,y8,y9]=Z (.tup [x,y])):ç (gT<|Ç (gV 8)<|Ç (gV 9) Ð) f [r0,r1,r2,r3,r4,r5,r6,r7,y8,y9]=Z (.nx [r0,r1,r2,r3,r4,r5,r6,r7,Z x,Z y]):=by unfold ç;rw[h];rfl
theorem Ļ (hn:mN mo)(od:AD S' mo.length)(h2:2<=mo.length)(y0 y1 y3:Option D){cs:List Int}(hc:cs.length<=14){n:Int}(y7 y8 y9:Option D) :
  ∃J tbl n' z7 z8 z9,jV (gV 7) vT (cs.map .int) [y0,y1,Z<|cN mo,y3,dq<|cA S',Z<|dk (de (mo.map .str) []) .non pt n,Z<|.lst [],y7,y8,y9]=Z (.nx [y0,y1,Z<|cN mo,y3,dq<|cA S',Z<|dk (de (mo.map .str) J) tbl pt n',dq<|J.map eI,z7,z8,z9])/\J.length<=42/\∀a∈J,Dw S' mo.length a:=by
 obtain⟨ρ',e,J,tbl,n',z7,z8,z9,rfl,hl,hd⟩:=jr (g:=gV 7) (b:=vT) (O:=cs.map .int) (Y:=[y0,y1,Z<|cN mo,y3,dq<|cA S',Z<|dk (de (mo.map .str) []) .non pt n,Z<|.lst [],y7,y8,y9])
  (λpre Y=>∃J tbl n' z7 z8 z9,Y=[y0,y1,Z<|cN mo,y3,dq<|cA S',Z<|dk (de (mo.map .str) J) tbl pt n',dq<|J.map eI,z7,z8,z9]/\J.length<=3*pre.length/\∀a∈J,Dw S' mo.length a) ⟨[],.non,n,y7,y8,y9,rfl,by simp,λ_ h=>nomatch h⟩ (by
   rintro pre d post Y he ⟨J,tbl,n',z7,z8,z9,rfl,hl,hd⟩;have hp:pre.length<cs.length:=by have:=congrArg nZ he;simp at this;lia
   have Cz:=Nj he;rw[cP,cC hp]at Cz;cases Cz;obtain⟨row,bs,lr,rk⟩:=Sk hn od h2 cs[pre.length];have sd:=R7 (tbl:=tbl) (pt:=pt) (n:=n') hn h2 (by lia) hd rk;have ad:d9 (.lst<|J.map eI) (.lst<|bs.map eI)=dq ((J++bs).map eI):=(x6<|by rw[ck,ck];have:=rk.l;lia).trans (by rw[dI]);have a1:=Gz (f:=cl kD<|Ä (L 7)<|Ä (L 2)<|Ä (L 4) Å) (r0:=y0) (r1:=y1) (r2:=some<|cN mo) (r3:=y3) (r4:=dq<|cA S') (r5:=some<|dk (de (mo.map .str) J) tbl pt n') (r6:=dq<|J.map eI) (r7:=some<|.int cs[pre.length]) (y8:=z8) (y9:=z9) (x:=.str row) (y:=.lst<|bs.map eI) (by show(kD [.int cs[pre.length],cN mo,.lst<|cA S'])=_;exact lr);have a2:yZ (AJ (gb Â) (ku 5 6 "say" (Ä (L 8) Å) dY)<|eC<|.str "ok") (Ì<|eC<|.bl Ã) Ë [y0,y1,Z<|cN mo,y3,dq<|cA S',Z<|dk (de (mo.map .str) J) tbl pt n',dq<|J.map eI,Z<|.int cs[pre.length],Z<|.str row,dq<|bs.map eI]=Z (.nx [y0,y1,Z<|cN mo,y3,dq<|cA S',Z<|dk (de (mo.map .str)<|J++bs) .non pt<|n'+1,dq<|J.map eI,Z<|.int cs[pre.length],Z<|.str row,dq<|bs.map eI]):=Nz (Sl<|IG (i:=5) (row:=.str row) rfl rfl sd) rfl;refine⟨[y0,y1,Z<|cN mo,y3,dq<|cA S',Z<|dk (de (mo.map .str) J) tbl pt n',dq<|J.map eI,Z<|.int cs[pre.length],z8,z9],_,rfl,.inl<|(Tf a1).trans<|(Tf a2).trans<|Gh ad,J++bs,.non,n'+1,Z<|.int cs[pre.length],Z<|.str row,dq<|bs.map eI,rfl,by rw[cM,cM,eR];have:=rk.l;lia,λa ha=>(cH.mp ha).elim (hd a)<|rk.d a⟩)
 rw[ck]at hl;exact⟨J,tbl,n',z7,z8,z9,e,by lia,hd⟩
end
theorem Th {tb En:D}{n n':Int}{es:List D}(h0:L 5 Y=Z (dk nt tb pt n))(h1:gs Y=Z es)(h2:fP (dk nt tb pt n::es)=Z (.tup [.bl Â,dk BU En B0 n'])):qG 5 gs fP Y=Z (.bl Â,Y.set 5<|Z<|dk BU En B0 n'):=by unfold qG;rw[h0,h1];show(if iQ (dk nt tb pt n)=Â then(fP (dk nt tb pt n::es)).bind _ else C)=_;rw[if_pos (show iQ (dk nt tb pt n)=Â from rfl),h2];rfl
theorem Lw {f:EM}(h:f Y=Z (.bl Â,ρ')):De (mB f) Y=Z (Ã,ρ'):=by unfold De mB;rw[h];rfl
theorem ĺ {p q:EM}{ρ1 ρ2:L3.Env}{d:D}(h1:p Y=Z (.bl Â,ρ1))(h2:q ρ1=Z (d,ρ2)):xB p q Y=Z (d,ρ2):=by unfold xB;rw[h1];exact h2
theorem Z1 (ns:List Int)(_:ns.length<=63):BQ [.lst<|ns.map .int]=Z (.bl Â):=by
 obtain⟨z0,c0⟩:=J4 ns 0 (by decide);obtain⟨z1,c1⟩:=J4 ns 1 (by decide);obtain⟨z2,c2⟩:=J4 ns 2 (by decide);obtain⟨z3,c3⟩:=J4 ns 3 (by decide);obtain⟨l6,e6,b6⟩:=M4 z0 (m:=6) (by decide);obtain⟨k1,ek,bk⟩:=M4 z1 (m:=10007) (by decide);obtain⟨mv,hm⟩:∃mv:Nat,mv=2+l6:=⟨_,rfl⟩;obtain⟨t,et,bt⟩:=M4 z2 (m:=mv) (by lia);obtain⟨c,m,hc,Oe,qn⟩:=Z0 (c1:=k1) (mv:=mv) bk (by lia);have nl:=R6 c m mv;have hn:=ŝ (c:=c) (m:=m) (mv:=mv) hc Oe (by lia);generalize sV c m mv=mo at *;have Hx:AD (AK t mv) mv:=ľ (by lia) bt;have mt:iY (.int z2) (.int mv)=dr (t:Int):=by rw[vd<|by lia,et]
 have fd:jC (.int z2) (.int mv)=dr (z2/(mv:Int)):=jt (by lia) (by lia);obtain⟨S',od,oq⟩:∃S',AD S' mv/\∀r,Ò (tb<|S (gb Ã) (S iY (S jC (cl fN<|Ä (L 0)<|Ä (eC<|.int 2) Å)<|L 1)<|eC<|.int 2)<|eC<|.int 1) (É 4<|λY=>((Ù<|L 4) Y).bind λO=>(dq O.reverse)) Ë (dq (ns.map .int)::(dr mv)::Z (cN mo)::(dr t)::(dq<|cA<|AK t mv)::r)=Z (.nx (dq (ns.map .int)::(dr mv)::Z (cN mo)::(dr t)::(dq<|cA S')::r)):=by
  by_cases h1:z2/(mv:Int)%2=1
  ·refine⟨_,Hx.rev,λr=>?_⟩;have er:cA (AK t mv).reverse=(cA<|AK t mv).reverse:=by unfold cA;rw[oP]
   rw[er];generalize cA (AK t mv)=no,ns.map D.int=K',cN mo=N at *;clear Hx qn hn nl er hm et e6 ek mt;walk_at "mid"
  ·refine⟨_,Hx,λr=>?_⟩;generalize cA (AK t mv)=no,ns.map D.int=K',cN mo=N at *;clear Hx qn hn nl hm et e6 ek mt;walk_at "mid"
 rw[←nl]at od;have h2:2<=mo.length:=by lia
 have pU:mo≠[]:=λz=>by rw[z]at h2;simp at h2
 have q1:=Ľ (t:=t) (m:=mv) (by lia) bt;have Lz:=hn.le;have gl:d9 (.lst [.str "goings"]) (cN mo)=Z (cN ("goings"::mo)):=(x6<|by simp;lia).trans rfl;have gj:qI (.str " ") (cN ("goings"::mo))=Z (.str<|KW mo):=by rw[IF];exact Nq (ys:="goings"::mo) (b:=12) (λy hy=>(Nu hn hy).2.1) (by rw[Jt,cz];lia)
 have sg:=X2 (nt:=.non) (tbl:=.non) (pt:=.lst []) (n:=0) hn pU;obtain⟨J,tbl,n',z7,z8,z9,lp,al,ad⟩:=Ļ hn od h2 (dq<|ns.map .int) (dr mv) (dr t) (cs:=(ns.drop 4).take 14) (by rw[jT];lia) (pt:=.lst []) (n:=0+1) C C C;have an:=Pf (tbl:=tbl) (pt:=.lst []) (n:=n') hn pU (NA hn h2 (by lia) ad);obtain⟨row,bs,lr,rk⟩:=Sk hn od h2 z3;have bl:=rk.l;have sr:=R7 (tbl:=tbl) (pt:=.lst []) (n:=n'+1+1) hn h2 (by lia) ad rk;have IK:=Pf (J:=J++bs) (tbl:=.non) (pt:=.lst []) (n:=n'+1+1+1) hn pU (NA hn h2 (by rw[cM];lia) λa ha=>(cH.mp ha).elim (ad a)<|rk.d a);have ap:d9 (.lst<|J.map eI) (.lst<|bs.map eI)=dq ((J++bs).map eI):=(x6<|by rw[ck,ck];lia).trans (by rw[dI]);have cut:(Z (â (ns.map .int) (Z ((4:Nat):Int))<|Z ((18:Nat):Int)):Option (List D))=Z (((ns.drop 4).take 14).map .int):=by rw[JC,DJ,lU]
 have hM:2+z0%6=(mv:Int):=by lia
 have hK:z1%10007=(k1:Int):=ek;have eo:gb Ã (.str "ok") (.str "ok")=Z (.bl Â):=(yn (zy _)<|zy _).trans (by simp);clear od Hx hn ad e6 ek et hm fd rk b6 bk bt hc Oe nl h2 pU Lz al bl;generalize (J++bs).map eI=A2,J.map eI=A1,bs.map eI=B1,de (mo.map .str) (J++bs)=n2,de (mo.map .str) J=n1,de (mo.map .str) []=n0,KW mo=H,cN ("goings"::mo)=W',cN mo=N,cA (AK t mv)=O0,cA S'=OO,((ns.drop 4).take 14).map D.int=Ti,ns.map D.int=K' at *;unfold BQ Ô;refine uk (ρ':=[dq K',dr mv,C,C,C,C,C,C,C,C]) (Gh ?_) ?_
 ·show _=Z (D.int mv);clear qn oq q1 gl gj sg lp an lr sr IK ap mt cut;walk_at "mid"
 refine uk (ρ':=[dq K',dr mv,Z N,C,C,C,C,C,C,C]) (Gh ?_) ?_
 ·show _=Z N;clear oq q1 gl gj sg lp an lr sr IK ap mt cut;walk_at "mid"
 refine uk (ρ':=[dq K',dr mv,Z N,dr t,C,C,C,C,C,C]) (Gh ?_) ?_
 ·show _=Z (D.int t);clear qn oq q1 gl gj sg lp an lr sr IK ap cut;walk_at "mid"
 refine uk (Gh<|q1 _ _ _)<|uk (oq _) ?_;refine uk (ρ':=[dq K',dr mv,Z N,dr t,dq OO,Z<|dk .non .non (.lst []) 0,C,C,C,C]) (Gh yQ) ?_;refine uk (ρ':=[dq K',dr mv,Z N,dr t,dq OO,Z<|dk n0 .non (.lst [])<|0+1,C,C,C,C]) (Nz (Sl<|IG (i:=5) (row:=.str H) rfl ?_ sg) rfl) ?_
 ·show(((d9 (.lst [.str "goings"]) N).bind λy=>qI (.str " ") y).bind λx=>Z [x])=_;rw[gl];show((qI (.str " ") W').bind λx=>Z [x])=_;rw[gj];rfl
 refine uk (ρ':=[dq K',dr mv,Z N,dr t,dq OO,Z<|dk n0 .non (.lst [])<|0+1,Z<|.lst [],C,C,C]) rfl ?_;refine uk ((Ŀ (O:=Ti) cut).trans lp) ?_;refine uk (ρ':=[dq K',dr mv,Z N,dr t,dq OO,Z<|dk n1 tbl (.lst [])<|n'+1+1,dq A1,z7,z8,z9]) (Nz (Lw<|Th rfl rfl an) rfl) ?_;refine uk (ρ':=[dq K',dr mv,Z N,dr t,dq OO,Z<|dk n1 tbl (.lst [])<|n'+1+1,dq A1,z7,Z<|.str row,dq B1]) (Gz ?_) ?_
 ·show(((fN [.lst K',.int 3]).bind λx=>Z [x,N,.lst OO]).bind λO=>kD<|O++[])=_;rw[c3];exact lr
 have cs:=IG (i:=5) (gs:=Ä (L 8) Å) (Y:=[dq K',dr mv,Z N,dr t,dq OO,Z<|dk n1 tbl (.lst [])<|n'+1+1,dq A1,z7,Z<|.str row,dq B1]) rfl rfl sr;have ca:=Th (gs:=Ä (S d9 (L 6)<|L 9)<|Ä (L 2) Å) (Y:=[dq K',dr mv,Z N,dr t,dq OO,Z<|dk n2 .non (.lst [])<|n'+1+1+1,dq A1,z7,Z<|.str row,dq B1]) rfl (by
  show((d9 (.lst A1)<|.lst B1).bind λx=>Z [x,N])=_;rw[ap]
  rfl) IK
 have ha:=ĺ (p:=λY:L3.Env=>((ku 5 6 "say" (Ä (L 8) Å) dY) Y).bind λr=>((eC<|.str "ok") r.2).bind λy=>((gb Ã) r.1 y).bind λd=>Z (d,r.2)) (Y:=[dq K',dr mv,Z N,dr t,dq OO,Z<|dk n1 tbl (.lst [])<|n'+1+1,dq A1,z7,Z<|.str row,dq B1]) (by
  show(ku 5 6 "say" (Ä (L 8) Å) dY _).bind _=_;rw[cs];show((gb Ã (.str "ok")<|.str "ok").bind _)=_;rw[eo]
  rfl) ca
 show((xB _ _ _).bind _).bind _=_;rw[ha];rfl
section
variable {P:eG}{w:dW}{base:cO}{a:Ą}
theorem Ĺ (T:Txt K mg a w):dO P w K mg base gk 11 a.b4 a.b5 ["_law_script"] (vM K):=Ŭ (Ž T) Z1
end
theorem fin {l:sx}{w:dW}{fa:cn}{a:Ą}(UB:mg "law"=Z (.ref fa))(T:Txt K mg a w)(b:∀(s:cF) (v:b8),uC s a.b5 ⟨[v],[]⟩ [("_law_script",v)]) :
  ∃fd:cD,(∀(s:cF) (v:b8),uC s fd ⟨[v],[]⟩ [("_law_script",v)])/\∀base:cO,K.In base->base.Ns ee mg->dO l.prog w K mg base gk 11 fa fd ["_law_script"] (vM K):=by
 cases UB.symm.trans T.a1.mgx;exact⟨_,b,λ_ _ _=>Ĺ T⟩
theorem walk {l:sx}{q:eG}{loose:List Str}{XP:(Str->Option b8)->cO->Prop}{YP:dW->cO->Prop}{d:DefRec}{K:Params->b9}(hn:l.most=Z 63)(GS:d.params.defaults=[])
  (hY:∀(w:dW) (h:cO),YP w h->(K w.params).In h)
  (F:∀(w:dW) (mg:Str->Option b8) (fa:cn) (h:cO),(K w.params).In h->h.Ns ee mg->mg d.name=Z (.ref fa) ->
   ∃fd:cD,(∀(s:cF) (u:b8),uC s fd ⟨[u],[]⟩ [("_law_script",u)])/\∀base:cO,(K w.params).In base->base.Ns ee mg->dO l.prog w (K w.params) mg base gk 11 fa fd ["_law_script"] (vM<|K w.params)) :
  Bp q loose XP YP l.row.toRowW d [] (λf vs=>PySem.call f vs) :=
 L2.þ (n:=63) (k:=11) (x:="_law_script") (CX:=λ_=>gk) (sp:=λw=>vM<|K w.params) hn (by decide) GS ⟨rfl,by decide,by decide,rfl⟩ hY F (λ_ _ a ns hl _ hS=>⟨a,ns,rfl,hS,hl,λ_=>rfl⟩) λ_ _ _ _ _ z=>z
end My
-- KEEP
local macro_rules | `(tactic| walk_at "zk") => `(tactic| focus (repeat' first | k_is | apply L3.Ĝ (by assumption) (by assumption) | exact .non | exact .int | exact .str | apply L3.KC.kt | apply L3.ý.nil | apply L3.ý.cons | exact Nat.le_of_ble_eq_true rfl | rfl))
local macro_rules | `(tactic| walk_at "zg") => `(tactic| focus (repeat' first | k_is | apply L3.Ě (by assumption) (by assumption) | apply L3.KL.nil | apply L3.KL.cons | exact L2.EL.nil | apply L2.EL.cons | exact .non | exact .int | exact .str | apply L3.KC.kt | apply L3.ý.nil | apply L3.ý.cons | exact Nat.le_of_ble_eq_true rfl | rfl))
local macro_rules | `(tactic| walk_at "zf") => `(tactic| focus (repeat' first | k_is | apply L3.ě (by assumption) (by assumption) | exact trivial | apply And.intro | exact L2.EL.nil | apply L2.EL.cons | exact .non | exact .int | exact .str | apply L3.KC.kt | apply L3.ý.nil | apply L3.ý.cons | exact Nat.le_of_ble_eq_true rfl | rfl))
open PySem PySem.W PyProof.Rows
set_option maxRecDepth 100000 in
set_option maxHeartbeats 0 in
theorem PySem.Challenge.cw_ringbeat_k91_whole_text_to_paper_holds : PySem.Challenge.rw_ringbeat_k91_whole_text_to_paper.Holds := by
 refine PySem.Challenge.hd ?_
 w_on
 k_fill
 refine My.walk (l := PySem.Challenge.rw_ringbeat_k91_whole_text_to_paper) rfl rfl (fun w h Y' => PySem.W.kIn_of Y') ?F
 case F =>
  intro w mg fa h KX W' hmg
  refine' My.fin (a := .mk ..) hmg ?T ?b
  case T =>
   constructor
   all_goals try dsimp only [My.Ą.ct]
   iterate 7 exact L3.zC
   iterate 2 exact L3.zM
   exact L3.zM (b := L3.zE 5 (L3.ć fun _ _ _ _ _ => ⟨_, rfl, rfl⟩))
   (refine' L3.Ć 4 0 rfl rfl ?r1 ?r2 ?r3 ?r4; (case r1 => k_is); (case r2 => rfl); (case r3 => exact (.cons ⟨_, rfl⟩ .nil)); (case r4 => exact L3.Ĉ fun _ _ _ _ => ⟨_, rfl, rfl⟩))
   exact L3.zM (b := L3.zE 5 (L3.ć fun _ _ _ _ _ => ⟨_, rfl, rfl⟩))
   (refine' L3.Ć 4 0 rfl rfl ?r1 ?r2 ?r3 ?r4; (case r1 => k_is); (case r2 => rfl); (case r3 => exact (.cons ⟨_, rfl⟩ .nil)); (case r4 => exact L3.Ĉ fun _ _ _ _ => ⟨_, rfl, rfl⟩))
   iterate 8 exact L3.zD
   iterate 3 exact L3.zM
   iterate 37 exact L3.zD
   iterate 2 exact L3.zM
   iterate 13 exact L3.zD
   iterate 2 walk_at "zk"
   walk_at "zg"
   walk_at "zf"
   exact ⟨by k_is, by k_is, by k_is⟩
   iterate 10 ((repeat refine L3.zF ?_); exact L3.Ă)
   iterate 2 ((repeat refine L3.zI ?_); exact L3.Ă)
   iterate 15 exact L3.zB
   iterate 6 exact L3.zG
  exact fun s v => .of_eq rfl
